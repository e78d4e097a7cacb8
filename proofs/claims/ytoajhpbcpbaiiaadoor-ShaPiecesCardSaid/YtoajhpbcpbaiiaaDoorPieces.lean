/-
  The statement ShaPieces: however bytes are parted, the sum of what was added is the sum of all; it can be asked on the way. Condition: the row's own.
-/
import Derived.Test.YtoajhpbcpbaiiaaDoorShaHelp
namespace Go.Proofs.YtoajhpbcpbaiiaaDoor
open Go.RowKit

/-- A piece: where it begins, its bytes, its capacity. -/
abbrev Piece := Option Addr × List UInt8 × Nat
/-- A slice of n slices of bytes that begins at A shows the pieces. -/
def SeenAll (w : World) (A : Option Addr) (ps : List Piece) : Prop :=
  ps = [] ∨ ∃ b off, A = some ⟨b, off, none⟩ ∧ b < w.heap.size ∧ ∀ j (h : j < ps.length), w.cell? ⟨b, off + j, none⟩ = some (.slice ps[j].1 ps[j].2.1.length ps[j].2.2) ∧ Seen w ps[j].1 ps[j].2.1 ∧ ps[j].2.1.length ≤ ps[j].2.2 ∧ ps[j].2.1.length ≤ 9223372036854775807

/-- what holds ahead of each round -/
def PR (w : World) (base gs n : Nat) (s i : Value) (wr : World) : Prop :=
  ∃ (k : Nat) (p : List UInt8) (A : Option Addr) (c : Nat), k ≤ n ∧ i = .int .i64 k ∧ s = .slice A p.length c ∧ p.length ≤ 5000 ∧ wr.ownsRow base 5 1 (.slice A p.length c) p.length (p.map bv) ∧ StAt wr gs p ∧ Below w.heap.size w wr ∧ base ≤ wr.heap.size

theorem own_off {wr : World} {base gs : Nat} {e : TypeId} {v : Value} {n : Nat} {xs : List Value} (h : wr.ownsRow base e 1 v n xs) (hg : gs < base) : v.ownBlock = none ∨ v.ownBlock ≠ some gs := by
  rcases h.2 with ⟨rfl, _⟩ | ⟨g, cap, cur, rfl, hb, _⟩
  · exact .inl rfl
  · right; intro e; injection e with e; change g = gs at e; omega
theorem own_seen {wr : World} {base : Nat} {e : TypeId} {A : Option Addr} {p : List UInt8} {c : Nat} (h : wr.ownsRow base e 1 (.slice A p.length c) p.length (p.map bv)) : Seen wr A p ∧ p.length ≤ c := by
  refine ⟨(Seen.of_own h).1, ?_⟩
  rcases h.2 with ⟨hv, h0⟩ | ⟨g, cap, cur, hv, _, _, hnc, _⟩
  · omega
  · injection hv with _ _ hc; omega
theorem st_off {w w' : World} {gs : Nat} {p : List UInt8} {v : Value} (h : StAt w gs p) (hg : w.grownBy w' v.ownBlock) (ho : v.ownBlock = none ∨ v.ownBlock ≠ some gs) : StAt w' gs p := by
  obtain ⟨ws, rs, hb, hi⟩ := h
  refine ⟨ws, rs, (hg.block gs hb.lt (fun e => ?_)).trans hb, hi⟩
  rcases ho with ho | ho
  · rw [ho] at e; cases e
  · exact ho e.symm
theorem own_form {wr : World} {base : Nat} {e : TypeId} {v : Value} {n : Nat} {xs : List Value} (h : wr.ownsRow base e 1 v n xs) : ∃ A c, v = .slice A n c := by
  rcases h.2 with ⟨rfl, h0⟩ | ⟨g, cap, cur, rfl, _⟩
  · exact ⟨none, 0, by rw [h0]⟩
  · exact ⟨_, _, rfl⟩

theorem own_below {w w' : World} {base : Nat} {e : TypeId} {v : Value} {n : Nat} {xs : List Value} (h : w.ownsRow base e 1 v n xs) (hb : Below w.heap.size w w') : w'.ownsRow base e 1 v n xs :=
  h.kept (only_of_below hb none) (by cases v.ownBlock <;> simp)

set_option maxRecDepth 100000 in
set_option maxHeartbeats 1000000 in
theorem shaPieces_walk (A : Option Addr) (ps : List Piece) (c : Nat) (w : World) (hn : ps.length ≤ 9223372036854775807) (hs : SeenAll w A ps) (ht : Tabs w) :
    Calls Tryd.prog 5 #[.slice A ps.length c] w fun e w' => e = .returned (.bool true) ∧ Below w.heap.size w w' := by
  have HS := Lib.hid hs
  have HT := Lib.hid ht
  have hg2 : 2 ≤ w.heap.size := ht.2.2
  obtain ⟨i0, hi, hz0, hz1, hz2⟩ := info_parts info5
  clear hs ht
  by_cases hlong : 60 < ps.length
  · go_enter Tryd.func5, Tryd.ntmps5
    go_wp2_with fail
    refine (awake_any _ HT.out).mono ?_
    rintro e w1 ⟨rfl, hb1⟩
    have B1 := Lib.hid hb1
    clear hb1
    go_wp2_with fail
    refine (new_any _).mono ?_
    rintro e w2 ⟨rfl, hw2⟩
    have B2 : Hid (Below w.heap.size w w2) := by rw [hw2]; exact hop B1.out ((Below.refl _ _).alloc (Nat.le_refl _) _)
    clear hw2
    go_wp2_with fail
    go_ret
    exact ⟨rfl, B2.out⟩
  · go_enter Tryd.func5, Tryd.ntmps5
    go_wp2_with fail
    refine (awake_any _ HT.out).mono ?_
    rintro e w1 ⟨rfl, hb1⟩
    have B1 := Lib.hid hb1
    have hz1' : w.heap.size ≤ w1.heap.size := hb1.size
    clear hb1
    go_wp2_with fail
    refine (new_any _).mono ?_
    rintro e w2 ⟨rfl, hw2⟩
    have B2 : Hid (Below w.heap.size w w2) := by rw [hw2]; exact hop B1.out ((Below.refl _ _).alloc (Nat.le_refl _) _)
    have T2 : Hid (StAt w2 w1.heap.size []) := by rw [hw2]; exact new_state
    clear hw2
    obtain ⟨gs, hgs⟩ : ∃ gs, gs = w1.heap.size := ⟨_, rfl⟩
    rw [← hgs] at T2 hz1' ⊢
    clear hgs B1
    have hlt2 : gs < w2.heap.size := T2.out.lt
    go_wp2_with fail
    go_loopw [5, 6] (fun s i wr => PR w w2.heap.size gs ps.length s i wr) (fun _ i _ => ps.length - (intOf i).toNat)
    case atStart => exact ⟨0, [], none, 0, by omega, rfl, rfl, by simp, World.ownsRow_nil _ _ _ _, T2.out, B2.out, Nat.le_refl _⟩
    case round =>
      clear T2 B2
      obtain ⟨k, p, A1, c1, hk, rfl, rfl, hp, hown, hst, hbel, hbase⟩ := hrel
      by_cases hlt : k < ps.length
      · have hcell : ∃ b off, A = some ⟨b, off, none⟩ ∧ wr.cell? ⟨b, off + k, none⟩ = some (.slice ps[k].1 ps[k].2.1.length ps[k].2.2) ∧ Seen w ps[k].1 ps[k].2.1 ∧ ps[k].2.1.length ≤ ps[k].2.2 ∧ ps[k].2.1.length ≤ 9223372036854775807 ∧ b < w.heap.size := by
          rcases HS.out with h | ⟨b, off, rfl, hb, h⟩
          · rw [h] at hlt; simp at hlt
          · obtain ⟨h1, h2, h3, h4⟩ := h k hlt
            exact ⟨b, off, rfl, (hbel.cell (p := ⟨b, off + k, none⟩) hb).trans h1, h2, h3, h4, hb⟩
        obtain ⟨b, off, rfl, hc, hsk, hck, hmk, hbw⟩ := hcell
        generalize ps[k].1 = Ak at *
        generalize ps[k].2.1 = lk at *
        generalize ps[k].2.2 = ck at *
        have HSK := Lib.hid hsk
        have HOW := Lib.hid hown
        have HST := Lib.hid hst
        have HBE := Lib.hid hbel
        clear hsk hown hst hbel
        by_cases hmuch : 5000 < p.length + lk.length
        · have q1 : (5000 : Int) - (p.length : Int) < (lk.length : Int) := by omega
          go_wp2_with fail
          go_ret
          exact ⟨rfl, HBE.out⟩
        · have q1 : ¬ (5000 : Int) - (p.length : Int) < (lk.length : Int) := by omega
          go_wp2_with fail
          refine (write_any _ gs p Ak lk ck HST.out (apart_old HSK.out HBE.out hz1') hck (by omega) (HT.out.below HBE.out) (by omega)).mono ?_
          rintro e w3 ⟨rfl, t3, g3⟩
          have T3 := Lib.hid t3
          have B3 := Lib.hid (below_only HBE.out g3 hz1')
          have O3 := Lib.hid (HOW.out.kept g3 (own_off HOW.out hlt2))
          have hb3 : w2.heap.size ≤ w3.heap.size := Nat.le_trans hbase g3.size
          have hc3 : w3.cell? ⟨b, off + k, none⟩ = some (.slice Ak lk.length ck) := by
            rw [World.cell?_of_block (a := ⟨b, off + k, none⟩) (g3.block b (by have := HBE.out.size; omega) (fun e => by injection e with e; omega))]; exact hc
          clear t3 g3 hc HST HOW HBE hbase
          go_wp2_with (at_builtin; refine wpList_append_seen w3 rfl (.tmp 47) (.tmp 51) 28 rfl w2.heap.size 5 i0 (.int .u8 0) Tryd.underlying28 hi hz0 hz1 hz2 rfl (.slice A1 p.length c1) p.length (p.map bv) rfl O3.out Ak lk ck rfl ?a1 ?a2 ?a3 ?_)
          case a1 => exact HSK.out.below B3.out
          case a2 => omega
          case a3 => exact hb3
          intro v4 w4 hown4 hg4 _
          obtain ⟨A4, c4, rfl⟩ := own_form hown4
          have HL4 : Hid ((p ++ lk).length = p.length + lk.length) := List.length_append
          have O4 : Hid (w4.ownsRow w2.heap.size 5 1 (.slice A4 (p ++ lk).length c4) (p ++ lk).length ((p ++ lk).map bv)) := by
            show World.ownsRow _ _ _ _ _ _ _
            rw [HL4.out, List.map_append]; exact hown4
          have T4 := Lib.hid (st_off T3.out hg4 (own_off O3.out hlt2))
          have B4 := Lib.hid (B3.out.grown hg4 B3.out.size (fun g e => Nat.le_trans (Nat.le_trans hz1' (Nat.le_of_lt hlt2)) (O3.out.lt g e).1))
          have hb4 : w2.heap.size ≤ w4.heap.size := Nat.le_trans hb3 hg4.size
          have S4 := own_seen O4.out
          have SX := Lib.hid S4.1
          have kx := S4.2
          rw [HL4.out] at kx
          clear hown4 hg4 T3 B3 O3 hb3 hc3 S4
          generalize hq : p ++ lk = q at *
          have hq' : q.length = p.length + lk.length := HL4.out
          obtain ⟨n1, hn1⟩ : ∃ n1, p.length + lk.length = n1 := ⟨_, rfl⟩
          rw [hn1] at kx hq' ⊢
          have hb5 : n1 ≤ 5000 := by omega
          obtain ⟨L, h32, hs1, hx1, hl1⟩ := sums_named (c := c4) hq' T4.out SX.out kx (by omega) (HT.out.below B4.out)
          have N1 := Lib.hid h32
          have K1 := Lib.hid hs1
          have M1 := Lib.hid hx1
          have E1 := Lib.hid hl1
          have HQ := Lib.hid hq'
          clear hq hq' HL4 hn1 h32 hs1 hx1 hl1 hmuch q1
          go_wp2_with fail
          refine (K1.out _ (Below.refl _ _)).mono ?_
          rintro e w5 ⟨A5, rfl, hs5, hb5'⟩
          have B5 := Lib.hid hb5'
          have hu5 := text_on hs5 32 32 N1.out _ (Below.refl _ _)
          clear hs5 hb5'
          go_wp2_with fail
          refine (M1.out _ B5.out).mono ?_
          rintro e w6 ⟨A6, rfl, hs6, hb6⟩
          have B6 := Lib.hid (hop B5.out hb6)
          have hu6 := text_on hs6 32 32 N1.out _ (Below.refl _ _)
          clear hs6 hb6 hu5
          go_wp2_with fail
          refine (E1.out _ B6.out).mono ?_
          rintro e w7 ⟨rfl, hw7⟩
          obtain rfl := hw7.symm
          have en1 : ((n1 : Int) != (n1 : Int)) = false := by simp
          go_wp2_with fail
          go_roundw
          case rel => exact ⟨k + 1, q, A4, c4, by omega, by go_num, by rw [HQ.out], by rw [HQ.out]; exact hb5, own_below O4.out B6.out, T4.out.below B6.out, hop B4.out B6.out, Nat.le_trans hb4 B6.out.size⟩
          case measure => simp [intOf]; omega
      · go_wp2_with fail
        go_ret
        exact ⟨rfl, hbel⟩
end Go.Proofs.YtoajhpbcpbaiiaaDoor
