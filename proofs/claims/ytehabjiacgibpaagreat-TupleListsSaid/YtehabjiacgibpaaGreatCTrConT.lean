/-
  What those comes to: copies of the tuples that are wanted, told by their numbers. Conditions: the row is there; at most 1,000,000 tuples; their texts are at most 2^47 bytes long.
  A slice of slices of bytes: what it shows, and how that is kept. No program is named here.
  A list of lists of bytes that the call gathers in a row of its own, beside the bytes of the one that is under way. No program is named here.
  Pages as they lie in memory: pairs, pages of pairs, pages that refer to pages; the pairs that are reached through them. No program's function is named here.
  Rows of elements of any size: cut, appended to, made with room. No program's function is named here.
  slices.Grow and Concat of tuples: a row of the call's own with what the rows have. Conditions: at most 1,000,000 elements.
-/
import Derived.Test.YtehabjiacgibpaaGreatCTuC
import Derived.Test.YtehabjiacgibpaaGreatCTpL
import Derived.Test.YtehabjiacgibpaaGreatCRowG
import Derived.Test.YtehabjiacgibpaaGreatCFlat
import Derived.Test.YtehabjiacgibpaaGreatCTuE
import Derived.Maps.AppendAt
import Derived.OwnWalk
import Derived.Laws.Slices
import Derived.Test.YtehabjiacgibpaaGreatChecked
import Derived.WalkSpells
import Derived.Lib.SliceRun
import Derived.Deep.LoopGhost
import Derived.Outline
namespace Go.Proofs.YtehabjiacgibpaaGreat
open Go.RowKit
structure PkAt (W : World) (e : TypeId) (l : List Tup) (p : Nat → Bool) (j : Nat) (A : Option Addr) (n c : Nat) (wr : World) : Prop where
  len : n = (pickN p l j).length
  own : wr.ownsRow W.heap.size e 6 (.slice A n c) n ((pickN p l j).flatMap encT)
  below : Below W.heap.size W wr
theorem PkAt.keep {W wr w' : World} {e : TypeId} {l : List Tup} {p : Nat → Bool} {j : Nat} {A : Option Addr} {n c : Nat} (h : PkAt W e l p j A n c wr) (hb : Below wr.heap.size wr w') : PkAt W e l p j A n c w' := ⟨h.len, own_keep h.own hb, hop h.below hb⟩
theorem PkAt.skip {W wr : World} {e : TypeId} {l : List Tup} {p : Nat → Bool} {j : Nat} {A : Option Addr} {n c : Nat} (h : PkAt W e l p j A n c wr) (hp : p j = false) : PkAt W e l p (j + 1) A n c wr := by
  obtain ⟨h1, h2, h3⟩ := h
  exact ⟨by rw [pickN_no hp]; exact h1, by rw [pickN_no hp]; exact h2, h3⟩
theorem PkAt.push {W wr w' : World} {e : TypeId} {l : List Tup} {p : Nat → Bool} {j : Nat} {A : Option Addr} {n c : Nat} (h : PkAt W e l p j A n c wr) (hj : j < l.length) (hp : p j = true) {A' : Option Addr} {c' : Nat}
    (ho : w'.ownsRow W.heap.size e 6 (.slice A' (n + 1) c') (n + 1) ((pickN p l j).flatMap encT ++ encT l[j])) (hb : Below W.heap.size W w') : PkAt W e l p (j + 1) A' (n + 1) c' w' := by
  refine ⟨by rw [pickN_yes hj hp, List.length_append, ← h.len]; rfl, ?_, hb⟩
  rw [pickN_yes hj hp, List.flatMap_append, List.flatMap_cons, List.flatMap_nil, List.append_nil]
  exact ho
set_option maxRecDepth 100000 in
set_option maxHeartbeats 4000000 in
theorem those_any (g : Nat) (lb : Array Value) (p : Nat → Bool) (l : List Tup) (A : Option Addr) (c : Nat) (W : World) (h : TuR W A l) (hl : l.length ≤ 1000000) (hok : ∀ t ∈ l, okT t)
    (eg : ∀ args w, (callFunc g args).run Tryz.prog w = .ok (.enter g args) w) (hg : ∀ w, Below W.heap.size W w → ∀ j : Nat, j < l.length → Calls Tryz.prog g (#[.int .i64 j] ++ lb) w fun e w' => e = .returned (.bool (p j)) ∧ Below w.heap.size w w') :
    Calls Tryz.prog 25 #[.slice A l.length c, .func (.func g) #[] lb] W (TupsP W (pickN p l l.length)) := by
  obtain ⟨iT, zT, hRW⟩ := rowTu
  have HRW := Lib.hid hRW
  have HR := Lib.hid h
  have HG := Lib.hid hg
  have HOK := Lib.hid hok
  clear h hRW hg hok
  go_enter Tryz.func25, Tryz.ntmps25
  go_wp2_with fail
  go_loopw [5, 10] (fun o i wr => ∃ (j : Nat) (A' : Option Addr) (n c' : Nat), j ≤ l.length ∧ i = .int .i64 j ∧ o = .slice A' n c' ∧ Hid (PkAt W 34 l p j A' n c' wr)) (fun _ i _ => l.length - (intOf i).toNat)
  case atStart => exact ⟨0, none, 0, 0, by omega, rfl, rfl, Lib.hid ⟨rfl, World.ownsRow_nil W W.heap.size _ _, Below.refl _ _⟩⟩
  case round =>
    obtain ⟨j, A', n, c', hj, rfl, rfl, HP⟩ := hrel
    by_cases hlt : j < l.length
    · obtain ⟨b, off, hA, hat⟩ := HR.out.addr (by omega)
      obtain ⟨q0, q1, q2, q3, q4, q5, hq, hc⟩ := hat j hlt
      have HQ := Lib.hid hq
      have hok := HOK.out l[j] (List.getElem_mem hlt)
      rw [hq] at hok
      have HCP := Lib.hid (fun w => copyTup_any q0 q1 q2 q3 q4 q5 w (Nat.le_trans (hok q0 (by simp [six])) (by decide)) (Nat.le_trans (hok q1 (by simp [six])) (by decide)) (Nat.le_trans (hok q2 (by simp [six])) (by decide)) (Nat.le_trans (hok q3 (by simp [six])) (by decide)) (Nat.le_trans (hok q4 (by simp [six])) (by decide)) (Nat.le_trans (hok q5 (by simp [six])) (by decide)))
      subst hA
      obtain ⟨z0, z1, z2, z3, z4, z5⟩ := hc wr HP.out.below
      obtain ⟨w2, hw2⟩ : ∃ w2, w2 = wr.alloc (.cells #[strV q0, strV q1, strV q2, strV q3, strV q4, strV q5] 34) := ⟨_, rfl⟩
      have hb2 : Below wr.heap.size wr w2 := by rw [hw2]; exact (Below.refl _ _).alloc (Nat.le_refl _) _
      have HK2 : Hid (Blk w2 wr.heap.size [strV q0, strV q1, strV q2, strV q3, strV q4, strV q5] 34) := by rw [hw2]; exact Lib.hid (Blk.new _ _ _)
      have HP2 := Lib.hid (HP.out.keep hb2)
      have HW2 := Lib.hid hw2
      obtain ⟨v, hv⟩ : ∃ v, p j = v := ⟨_, rfl⟩
      have HGJ : Hid (Calls Tryz.prog g (#[.int .i64 (j : Int)] ++ lb) w2 fun e w' => e = .returned (.bool v) ∧ Below w2.heap.size w2 w') := Lib.hid (by rw [← hv]; exact HG.out w2 HP2.out.below j hlt)
      have HV := Lib.hid hv
      have HLN : Hid (n ≤ 1000000) := Lib.hid (by have := HP.out.len; have := pickN_len p l j; omega)
      clear hc hq hat hok hw2 hb2 hv
      cases v with
      | false =>
        go_wp2_with (go_at_fn g; rw [← HW2.out]; refine HGJ.out.mono ?_; rintro e w3 ⟨rfl, hb3⟩; have HP3 := Lib.hid (HP2.out.keep hb3); clear hb3)
        go_roundw
        case rel => exact ⟨j + 1, A', n, c', by omega, by go_num, rfl, Lib.hid (HP3.out.skip HV.out)⟩
        case measure => simp [intOf]; omega
      | true =>
        go_wp2_with (first
          | (go_at_fn g; rw [← HW2.out]; refine HGJ.out.mono ?_; rintro e w3 ⟨rfl, hb3⟩; have HP3 := Lib.hid (HP2.out.keep hb3); have k3 := HK2.out.below hb3 HK2.out.lt; have x0 := k3.cell (i := 0) (by simp); have x1 := k3.cell (i := 1) (by simp); have x2 := k3.cell (i := 2) (by simp); have x3 := k3.cell (i := 3) (by simp); have x4 := k3.cell (i := 4) (by simp); have x5 := k3.cell (i := 5) (by simp); simp only [List.getElem_cons_succ, List.getElem_cons_zero] at x0 x1 x2 x3 x4 x5; clear hb3 k3)
          | (go_at_call 49; refine (HCP.out _).mono ?_; rintro e w4 ⟨rfl, hb4⟩; have HP4 := Lib.hid (HP3.out.keep hb4); clear hb4)
          | (at_builtin; refine wpList_append_at w4 rfl (.tmp 18) (.tmp 21) 22 rfl HRW.out (by decide) (by decide) W.heap.size A' n c' _ [strV q0, strV q1, strV q2, strV q3, strV q4, strV q5] rfl rfl rfl HP4.out.below.size HP4.out.own (encT_one (q0, q1, q2, q3, q4, q5)) HLN.out ?_; intro A2 c2 w5 hown hbel; have HOW := Lib.hid hown; have HBE := Lib.hid hbel; clear hown hbel))
        go_roundw
        case rel =>
          refine ⟨j + 1, A2, n + 1, c2, by omega, by go_num, rfl, Lib.hid (HP4.out.push hlt HV.out ?_ (HP4.out.below.trans HBE.out))⟩
          rw [HQ.out]
          exact HOW.out
        case measure => simp [intOf]; omega
    · obtain rfl : j = l.length := by omega
      go_wp2_with fail
      go_ret
      exact ⟨_, _, _, rfl, HP.out.len, .of_own HP.out.len HP.out.own (fun t ht => HOK.out t (pickN_mem ht)), HP.out.below⟩
end Go.Proofs.YtehabjiacgibpaaGreat
namespace Go.Proofs.YtehabjiacgibpaaGreat
open Go.RowKit
abbrev Piece := Option Addr × List UInt8 × Nat
def SeenAll (w : World) (A : Option Addr) (ps : List Piece) : Prop :=
  ps = [] ∨ ∃ b off, A = some ⟨b, off, none⟩ ∧ b < w.heap.size ∧ ∀ j (h : j < ps.length), w.cell? ⟨b, off + j, none⟩ = some (.slice ps[j].1 ps[j].2.1.length ps[j].2.2) ∧ Seen w ps[j].1 ps[j].2.1 ∧ ps[j].2.1.length ≤ ps[j].2.2 ∧ ps[j].2.1.length ≤ 9223372036854775807
theorem SeenAll.at_ {w : World} {A : Option Addr} {ps : List Piece} (h : SeenAll w A ps) (k : Nat) (hk : k < ps.length) :
    ∃ b off, A = some ⟨b, off, none⟩ ∧ b < w.heap.size ∧ w.cell? ⟨b, off + k, none⟩ = some (.slice ps[k].1 ps[k].2.1.length ps[k].2.2) ∧ Seen w ps[k].1 ps[k].2.1 ∧ ps[k].2.1.length ≤ ps[k].2.2 ∧ ps[k].2.1.length ≤ 9223372036854775807 := by
  rcases h with rfl | ⟨b, off, rfl, hb, hc⟩
  · simp at hk
  · exact ⟨b, off, rfl, hb, hc k hk⟩
theorem SeenAll.below {w w' : World} {A : Option Addr} {ps : List Piece} (h : SeenAll w A ps) (hb : Below w.heap.size w w') : SeenAll w' A ps := by
  rcases h with rfl | ⟨b, off, rfl, hlt, hc⟩
  · exact .inl rfl
  · refine .inr ⟨b, off, rfl, by have := hb.size; omega, fun j hj => ?_⟩
    obtain ⟨h1, h2, h3, h4⟩ := hc j hj
    exact ⟨(hb.cell (p := ⟨b, off + j, none⟩) hlt).trans h1, h2.below hb, h3, h4⟩
theorem SeenAll.take {w : World} {A : Option Addr} {ps : List Piece} (h : SeenAll w A ps) (n : Nat) : SeenAll w A (ps.take n) := by
  rcases h with rfl | ⟨b, off, rfl, hlt, hc⟩
  · exact .inl (by simp)
  · refine .inr ⟨b, off, rfl, hlt, fun j hj => ?_⟩
    rw [List.length_take] at hj
    rw [List.getElem_take]
    exact hc j (by omega)
def bytesOf (ps : List Piece) : List (List UInt8) := ps.map fun q => q.2.1
end Go.Proofs.YtehabjiacgibpaaGreat
namespace Go.Proofs.YtehabjiacgibpaaGreat
open Go.RowKit
def pv (q : Piece) : Value := .slice q.1 q.2.1.length q.2.2
def Free (w : World) (x y : Option Nat) (q : Piece) : Prop :=
  (q.2.1 = [] ∨ ∃ b off, q.1 = some ⟨b, off, none⟩ ∧ b < w.heap.size ∧ some b ≠ x ∧ some b ≠ y ∧ ∀ j (h : j < q.2.1.length), w.cell? ⟨b, off + j, none⟩ = some (.int .u8 (q.2.1[j].toNat : Int))) ∧
  q.2.1.length ≤ q.2.2 ∧ q.2.1.length ≤ 9223372036854775807
structure DecAt (e f : TypeId) (w0 : World) (ps : List Piece) (p : List UInt8) (vs vp : Value) (w : World) : Prop where
  list : w.ownsRow w0.heap.size f 1 vs ps.length (ps.map pv)
  part : w.ownsRow w0.heap.size e 1 vp p.length (p.map bv)
  apart : ∀ g, vs.ownBlock = some g → vp.ownBlock ≠ some g
  each : ∀ q ∈ ps, Free w vs.ownBlock vp.ownBlock q
  below : Below w0.heap.size w0 w
theorem own_len {w : World} {base : Nat} {e : TypeId} {A : Option Addr} {n c m : Nat} {xs : List Value} (h : w.ownsRow base e 1 (.slice A n c) m xs) : m = n ∧ n ≤ c := by
  rcases h.2 with ⟨hv, h0⟩ | ⟨g, cap, cur, hv, _, _, hnc, _⟩
  · injection hv with _ hn hc; omega
  · injection hv with _ hn hc; omega
section
variable {e f : TypeId} {w0 w w' : World} {ps : List Piece} {p p' : List UInt8} {vs vs' vp vp' : Value} {q : Piece} {x y x' y' row : Option Nat}
theorem DecAt.start (e f : TypeId) (w : World) : DecAt e f w [] [] (.slice none 0 0) (.slice none 0 0) w :=
  ⟨World.ownsRow_nil _ _ _ _, World.ownsRow_nil _ _ _ _, fun g h => by simp [Value.ownBlock] at h, fun q hq => by simp at hq, Below.refl _ _⟩
theorem Free.turn (h : Free w x y q) (hg : w.grownBy w' row) (hrow : row = none ∨ row = x ∨ row = y) (hx : x' = x ∨ x' = none ∨ ∃ g, x' = some g ∧ w.heap.size ≤ g) (hy : y' = y ∨ y' = none ∨ ∃ g, y' = some g ∧ w.heap.size ≤ g) : Free w' x' y' q := by
  refine ⟨?_, h.2⟩
  rcases h.1 with h0 | ⟨b, off, hA, hb, h1, h2, hc⟩
  · exact .inl h0
  · refine .inr ⟨b, off, hA, by have := hg.size; omega, ?_, ?_, fun j hj => ?_⟩
    · rcases hx with rfl | rfl | ⟨g, rfl, hge⟩
      · exact h1
      · exact fun e => by cases e
      · intro e; injection e with e; omega
    · rcases hy with rfl | rfl | ⟨g, rfl, hge⟩
      · exact h2
      · exact fun e => by cases e
      · intro e; injection e with e; omega
    · refine (World.cell?_of_block (hg.block b hb ?_)).trans (hc j hj)
      rcases hrow with rfl | rfl | rfl
      · exact fun e => by cases e
      · exact h1
      · exact h2
theorem DecAt.size (h : DecAt e f w0 ps p vs vp w) : w0.heap.size ≤ w.heap.size := h.below.size
theorem DecAt.grow (h : DecAt e f w0 ps p vs vp w) (hown : w'.ownsRow w0.heap.size e 1 vp' p'.length (p'.map bv)) (hg : w.grownBy w' vp.ownBlock) (hat : vp'.ownBlock = vp.ownBlock ∨ ∃ g, vp'.ownBlock = some g ∧ w.heap.size ≤ g) : DecAt e f w0 ps p' vs vp' w' where
  list := h.list.kept hg (by
    rcases hv : vs.ownBlock with _ | g
    · exact .inl rfl
    · exact .inr (fun e => h.apart g hv e.symm))
  part := hown
  apart g hs := by
    have hlt := (h.list.lt g hs).2
    rcases hat with hat | ⟨g', hat, hge⟩
    · rw [hat]; exact h.apart g hs
    · rw [hat]; intro e; injection e with e; omega
  each q hq := (h.each q hq).turn hg (.inr (.inr rfl)) (.inl rfl) (by
    rcases hat with hat | hat
    · exact .inl hat
    · exact .inr (.inr hat))
  below := below_grown h.below h.size h.part hg
theorem DecAt.more (h : DecAt e f w0 ps p vs vp w) (hq : Free w vs.ownBlock vp.ownBlock q) (hown : w'.ownsRow w0.heap.size f 1 vs' (ps.length + 1) (ps.map pv ++ [pv q])) (hg : w.grownBy w' vs.ownBlock) (hat : vs'.ownBlock = vs.ownBlock ∨ ∃ g, vs'.ownBlock = some g ∧ w.heap.size ≤ g) : DecAt e f w0 (ps ++ [q]) p vs' vp w' where
  list := by simpa using hown
  part := h.part.kept hg (by
    rcases hv : vp.ownBlock with _ | g
    · exact .inl rfl
    · exact .inr (fun e => h.apart g e.symm hv))
  apart g hs := by
    rcases hat with hat | ⟨g', hat, hge⟩
    · exact h.apart g (hat ▸ hs)
    · rw [hat] at hs
      injection hs with hs
      intro hv
      have := (h.part.lt g hv).2
      omega
  each r hr := by
    have ht : ∀ r, Free w vs.ownBlock vp.ownBlock r → Free w' vs'.ownBlock vp.ownBlock r := fun r h' => h'.turn hg (.inr (.inl rfl)) (by
      rcases hat with hat | hat
      · exact .inl hat
      · exact .inr (.inr hat)) (.inl rfl)
    rcases List.mem_append.1 hr with hr | hr
    · exact ht r (h.each r hr)
    · simp at hr; subst hr; exact ht r hq
  below := below_grown h.below h.size h.list hg
theorem DecAt.drop (h : DecAt e f w0 ps p vs vp w) : DecAt e f w0 ps [] vs (.slice none 0 0) w where
  list := h.list
  part := World.ownsRow_nil _ _ _ _
  apart g _ := by simp [Value.ownBlock]
  each q hq := (h.each q hq).turn (World.grownBy.refl w none) (.inl rfl) (.inl rfl) (.inr (.inl rfl))
  below := h.below
theorem DecAt.shown {A : Option Addr} {n c : Nat} (h : DecAt e f w0 ps p (.slice A n c) vp w) : SeenAll w A ps := by
  rcases h.list.2 with ⟨hv, h0⟩ | ⟨g, cap, cur, hv, hb, hg, hnc, _⟩
  · exact .inl (List.eq_nil_of_length_eq_zero h0)
  · injection hv with hA _ hc
    subst hA
    refine .inr ⟨g, 0, rfl, (h.list.lt g rfl).2, fun j hj => ?_⟩
    obtain ⟨h1, h2, h3⟩ := h.each ps[j] (List.getElem_mem hj)
    have hcell := h.list.cells (g := g) rfl j (pv ps[j]) (by rw [List.getElem?_map, List.getElem?_eq_getElem hj]; rfl)
    rw [add_plain] at hcell
    refine ⟨hcell, ?_, h2, h3⟩
    rcases h1 with h1 | ⟨b, off, hA, hb', _, _, hc⟩
    · exact .inl h1
    · exact .inr ⟨b, off, hA, hb', hc⟩
end
end Go.Proofs.YtehabjiacgibpaaGreat
namespace Go.Proofs.YtehabjiacgibpaaGreat
open Go.RowKit
def Cells (w : World) (F : Nat → Prop) (A : Option Addr) (C : List Value) : Prop :=
  C = [] ∨ ∃ b off, A = some ⟨b, off, none⟩ ∧ b < w.heap.size ∧ ¬ F b ∧ ∀ j (h : j < C.length), w.cell? ⟨b, off + j, none⟩ = some C[j]
section
variable {w w' : World} {F G : Nat → Prop} {A : Option Addr} {C : List Value}
theorem Cells.moved (h : Cells w F A C) (hs : Spared w w' F) (hG : ∀ i, G i → F i ∨ w.heap.size ≤ i) : Cells w' G A C := by
  rcases h with rfl | ⟨b, off, rfl, hb, hn, hc⟩
  · exact .inl rfl
  · refine .inr ⟨b, off, rfl, Nat.lt_of_lt_of_le hb hs.size, fun hg => (hG b hg).elim hn (fun h => by omega), fun j hj => ?_⟩
    exact (World.cell?_of_block (a := ⟨b, off + j, none⟩) (hs.block b hb hn)).trans (hc j hj)
theorem Cells.take (h : Cells w F A C) (m : Nat) : Cells w F A (C.take m) := by
  rcases h with rfl | ⟨b, off, rfl, hb, hn, hc⟩
  · exact .inl (by simp)
  · refine .inr ⟨b, off, rfl, hb, hn, fun j hj => ?_⟩
    rw [List.length_take] at hj
    rw [List.getElem_take]
    exact hc j (by omega)
theorem Cells.drop (h : Cells w F A C) (m s c : Nat) (hc : C.length ≤ c * s) : Cells w F (if c = m then A else A.map (·.add (m * s))) (C.drop (m * s)) := by
  by_cases hm : C.length ≤ m * s
  · exact .inl (List.drop_eq_nil_of_le hm)
  · rcases h with rfl | ⟨b, off, rfl, hb, hn, hc'⟩
    · simp at hm
    · have hne : ¬ c = m := fun e => by rw [e] at hc; exact hm hc
      rw [if_neg hne]
      refine .inr ⟨b, off + m * s, ?_, hb, hn, fun j hj => ?_⟩
      · show some (Addr.add _ _) = _; rw [add_plain]
      · rw [List.length_drop] at hj
        rw [Nat.add_assoc, hc' (m * s + j) (by omega), List.getElem_drop]
theorem Cells.at_ (h : Cells w F A C) (k : Nat) (hk : k < C.length) : ∃ b off, A = some ⟨b, off, none⟩ ∧ b < w.heap.size ∧ ¬ F b ∧ ∀ j (h : j < C.length), w.cell? ⟨b, off + j, none⟩ = some C[j] := by
  rcases h with rfl | h
  · simp at hk
  · exact h
end
structure PG (α : Type) where
  first : Piece
  at_ : Option Addr
  els : List α
  cap : Nat
def El : Nat → Type
  | 0 => Piece × Piece
  | h + 1 => PG (El h)
def ecells : (h : Nat) → El h → List Value
  | 0, (q : Piece × Piece) => [pv q.1, pv q.2]
  | 1, (p : PG (El 0)) => [pv p.first, .slice p.at_ p.els.length p.cap, .slice none 0 0]
  | _ + 2, (p : PG (El (_ + 1))) => [pv p.first, .slice none 0 0, .slice p.at_ p.els.length p.cap]
def esize : Nat → Nat
  | 0 => 2
  | _ + 1 => 3
theorem ecells_length : (h : Nat) → (x : El h) → (ecells h x).length = esize h
  | 0, _ => rfl
  | 1, _ => rfl
  | _ + 2, _ => rfl
def rowCells (h : Nat) (l : List (El h)) : List Value := (l.map (ecells h)).flatten
theorem rowCells_length (h : Nat) (l : List (El h)) : (rowCells h l).length = l.length * esize h := by
  unfold rowCells
  rw [flat_length (m := esize h) _ (fun r hr => by obtain ⟨x, _, rfl⟩ := List.mem_map.1 hr; exact ecells_length h x), List.length_map]
theorem Cells.elem {w : World} {F : Nat → Prop} {A : Option Addr} {h : Nat} {l : List (El h)} (hc : Cells w F A (rowCells h l)) (i : Nat) (hi : i < l.length) :
    ∃ b off, A = some ⟨b, off, none⟩ ∧ b < w.heap.size ∧ ¬ F b ∧ ∀ j, j < esize h → w.cell? ⟨b, off + i * esize h + j, none⟩ = (ecells h l[i])[j]? := by
  have hr : ∀ r ∈ l.map (ecells h), r.length = esize h := fun r hr => by obtain ⟨x, _, rfl⟩ := List.mem_map.1 hr; exact ecells_length h x
  have hs : 0 < esize h := by cases h with | zero => decide | succ n => exact Nat.zero_lt_succ 2
  have hlt : i * esize h < (rowCells h l).length := by rw [rowCells_length]; exact Nat.mul_lt_mul_of_pos_right hi hs
  obtain ⟨b, off, rfl, hb, hn, hcell⟩ := hc.at_ _ hlt
  refine ⟨b, off, rfl, hb, hn, fun j hj => ?_⟩
  have hf := flat_at (l.map (ecells h)) i j (by simpa using hi) hr (by simp [ecells_length]; exact hj)
  obtain ⟨h1, h2⟩ := List.getElem?_eq_some_iff.1 hf
  rw [Nat.add_assoc, hcell _ h1]
  show some ((rowCells h l)[_]) = _
  unfold rowCells
  rw [h2]
  simp
def AwayW (w : World) (F : Nat → Prop) (A : Option Addr) (l : List UInt8) : Prop :=
  l = [] ∨ ∃ b off, A = some ⟨b, off, none⟩ ∧ b < w.heap.size ∧ ¬ F b ∧ (∀ j (h : j < l.length), w.cell? ⟨b, off + j, none⟩ = some (.int .u8 (l[j].toNat : Int))) ∧ ∃ C t, w.heap[b]? = some (.cells C t (0, 0))
section
variable {w w' : World} {F G : Nat → Prop} {A : Option Addr} {l : List UInt8}
theorem AwayW.moved (h : AwayW w F A l) (hs : Spared w w' F) (hG : ∀ i, G i → F i ∨ w.heap.size ≤ i) : AwayW w' G A l := by
  rcases h with rfl | ⟨b, off, rfl, hb, hn, hc, C, t, hf⟩
  · exact .inl rfl
  · refine .inr ⟨b, off, rfl, Nat.lt_of_lt_of_le hb hs.size, fun hg => (hG b hg).elim hn (fun h => by omega), fun j hj => ?_, C, t, (hs.block b hb hn).trans hf⟩
    exact (World.cell?_of_block (a := ⟨b, off + j, none⟩) (hs.block b hb hn)).trans (hc j hj)
end
def PieceIn (w : World) (F : Nat → Prop) (q : Piece) : Prop := AwayW w F q.1 q.2.1 ∧ q.2.1.length ≤ q.2.2 ∧ q.2.1.length ≤ 1000000000
theorem PieceIn.moved {w w' : World} {F G : Nat → Prop} {q : Piece} (h : PieceIn w F q) (hs : Spared w w' F) (hG : ∀ i, G i → F i ∨ w.heap.size ≤ i) : PieceIn w' G q := ⟨h.1.moved hs hG, h.2⟩
def EOk (w : World) (F : Nat → Prop) : (h : Nat) → El h → Prop
  | 0, (q : Piece × Piece) => PieceIn w F q.1 ∧ PieceIn w F q.2
  | h + 1, (p : PG (El h)) => PieceIn w F p.first ∧ Cells w F p.at_ (rowCells h p.els) ∧ p.els.length ≤ p.cap ∧ ∀ x ∈ p.els, EOk w F h x
theorem EOk.moved {w w' : World} {F G : Nat → Prop} (hs : Spared w w' F) (hG : ∀ i, G i → F i ∨ w.heap.size ≤ i) : (h : Nat) → (x : El h) → EOk w F h x → EOk w' G h x
  | 0, _, hx => ⟨hx.1.moved hs hG, hx.2.moved hs hG⟩
  | h + 1, p, hx => by
    obtain ⟨h1, h2, h3, h4⟩ := hx
    exact ⟨h1.moved hs hG, h2.moved hs hG, h3, fun x hx => EOk.moved hs hG h x (h4 x hx)⟩
theorem EOk.below {w w' : World} {F : Nat → Prop} {h : Nat} {x : El h} (hx : EOk w F h x) (hb : Below w.heap.size w w') : EOk w' F h x := EOk.moved (.of_below hb F) (fun _ h => .inl h) h x hx
theorem Cells.below {w w' : World} {F : Nat → Prop} {A : Option Addr} {C : List Value} (hx : Cells w F A C) (hb : Below w.heap.size w w') : Cells w' F A C := hx.moved (.of_below hb F) (fun _ h => .inl h)
theorem PieceIn.below {w w' : World} {F : Nat → Prop} {q : Piece} (hx : PieceIn w F q) (hb : Below w.heap.size w w') : PieceIn w' F q := hx.moved (.of_below hb F) (fun _ h => .inl h)
def Wider (w w2 : World) (F : Nat → Prop) (b : Nat) : Prop := F b ∨ (w.heap.size ≤ b ∧ b < w2.heap.size)
theorem Wider.lt {w w2 : World} {F : Nat → Prop} (hF : ∀ b, F b → b < w.heap.size) (hb : w.heap.size ≤ w2.heap.size) : ∀ b, Wider w w2 F b → b < w2.heap.size := fun b h => h.elim (fun h => Nat.lt_of_lt_of_le (hF b h) hb) (fun h => h.2)
theorem Wider.new {w w2 : World} {F : Nat → Prop} : ∀ i, Wider w w2 F i → F i ∨ w.heap.size ≤ i := fun _ h => h.imp id (fun h => h.1)
def AllOk (w : World) (F : Nat → Prop) (h : Nat) (l : List (El h)) : Prop := ∀ x ∈ l, EOk w F h x
theorem AllOk.below {w w' : World} {F : Nat → Prop} {h : Nat} {l : List (El h)} (hx : AllOk w F h l) (hb : Below w.heap.size w w') : AllOk w' F h l := fun x h => (hx x h).below hb
theorem AllOk.append {w : World} {F : Nat → Prop} {h : Nat} {a b : List (El h)} (ha : AllOk w F h a) (hb : AllOk w F h b) : AllOk w F h (a ++ b) := fun x hx => (List.mem_append.1 hx).elim (ha x) (hb x)
theorem AllOk.take {w : World} {F : Nat → Prop} {h : Nat} {a : List (El h)} (ha : AllOk w F h a) (m : Nat) : AllOk w F h (a.take m) := fun x hx => ha x (List.mem_of_mem_take hx)
theorem AllOk.drop {w : World} {F : Nat → Prop} {h : Nat} {a : List (El h)} (ha : AllOk w F h a) (m : Nat) : AllOk w F h (a.drop m) := fun x hx => ha x (List.mem_of_mem_drop hx)
def eflat : (h : Nat) → El h → List Kv
  | 0, (q : Piece × Piece) => [(q.1.2.1, q.2.2.1)]
  | h + 1, (p : PG (El h)) => p.els.flatMap (eflat h)
def flats (h : Nat) (l : List (El h)) : List Kv := l.flatMap (eflat h)
def epiece : (h : Nat) → El h → Piece
  | 0, (q : Piece × Piece) => q.1
  | _ + 1, (p : PG (El _)) => p.first
def ecount : (h : Nat) → El h → Nat
  | 0, _ => 4
  | _ + 1, (p : PG (El _)) => p.els.length
def headKey : List Kv → Key
  | [] => []
  | x :: _ => x.1
def Inner : (h : Nat) → El h → Prop
  | 0, _ => True
  | h + 1, (p : PG (El h)) => (∀ x ∈ p.els, (4 ≤ ecount h x ∧ ecount h x ≤ 8) ∧ Inner h x) ∧ p.first.2.1 = headKey (flats h p.els)
def Full (h : Nat) (x : El h) : Prop := (4 ≤ ecount h x ∧ ecount h x ≤ 8) ∧ Inner h x
theorem Full.key (h : Nat) (x : El h) (h1 : 1 ≤ ecount h x) (h2 : Inner h x) : (epiece h x).2.1 = headKey (eflat h x) := by
  cases h with
  | zero => rfl
  | succ h => exact h2.2
end Go.Proofs.YtehabjiacgibpaaGreat
namespace Go.Proofs.YtehabjiacgibpaaGreat
open Go.RowKit
structure RowTy (P : Program) (t e : TypeId) (s b : Nat) (i : TypeInfo) (z : Value) : Prop where
  ht : P.underlying t = some (.slice e)
  elem : P.elem t = e
  hi : P.info? e = some i
  hz : i.zero = some z
  hs : i.size = s
  hb : i.bytes = b
  zs : z.cells.size = s
  pos : 0 < s
section
variable {P : Program} {t e : TypeId} {s b : Nat} {i : TypeInfo} {z : Value}
theorem RowTy.head (R : RowTy P t e s b i z) (A : Option Addr) (n c m : Nat) (hm : m ≤ c) (W : World) : (Instr.slice t (.slice A n c) none (some (.int .i64 (m : Int))) none).run P W = .ok (.slice A m c) W := by
  rw [run_slice_h W t A n c (by rw [R.ht, R.elem]) .i64 (m : Int) (by omega) (by omega), R.elem]
  simp [sizeOf, typeInfo, R.hi, sliced]
  intro _
  cases A with
  | none => rfl
  | some a =>
    show some (a.add 0) = some a
    rw [Addr.add_zero']
theorem RowTy.tail (R : RowTy P t e s b i z) (A : Option Addr) (n c m : Nat) (hm : m ≤ n) (W : World) : (Instr.slice t (.slice A n c) (some (.int .i64 (m : Int))) none none).run P W = .ok (.slice (if c = m then A else A.map (·.add (m * s))) (n - m) (c - m)) W := by
  rw [run_slice_l W t A n c (by rw [R.ht, R.elem]) .i64 (m : Int) (by omega) (by omega), R.elem]
  simp [sizeOf, typeInfo, R.hi, R.hs, sliced]
theorem run_append_room_nil (R : RowTy P t e s b i z) (u ty : TypeId) (hu : P.underlying u = some (.int .i64)) (w : World) (m : Nat) (hm : 0 < m) (hb : m * b ≤ 140737488355328) (hm2 : m ≤ 1000000) :
    ∃ cap w', (Builtin.append_ #[t, u] ty #[.slice none 0 0, .int .i64 (m : Int)]).run P w = .ok (.slice (some ⟨w.heap.size, 0, none⟩) m cap) w' ∧ w'.ownsRow w.heap.size e s (.slice (some ⟨w.heap.size, 0, none⟩) 0 cap) 0 [] ∧ Below w.heap.size w w' ∧ m ≤ cap := by
  have hs := R.hs
  have hby := R.hb
  subst hs hby
  have wm : IntKind.i64.wrap (m : Int) = (m : Int) := by rw [IntKind.wrap_i64]; omega
  have m0 : ¬ ((m : Int) < 0) := by omega
  have hm' : m ≠ 0 := by omega
  have mb : ¬ (281474976710656 < (m : Int) * (i.bytes : Int)) := by
    have : (m : Int) * (i.bytes : Int) = ((m * i.bytes : Nat) : Int) := by simp
    rw [this]; omega
  have hms : m * i.size ≠ 0 := by have := R.pos; exact Nat.mul_ne_zero hm' (by omega)
  have h63' : ¬ (9223372036854775807 < (m : Int)) := by omega
  have h48' : ¬ (281474976710656 < Builtin.nextslicecap m 0 * i.bytes) := by rw [nextslicecap_zero hm]; omega
  have hge := grownCap_ge w m 0 e
  have hcm : grownCap w m 0 e ≤ maxLen := grownCap_le_maxLen w m 0 e (by unfold maxLen; omega)
  refine ⟨grownCap w m 0 e, w.drew.alloc (.cells (Builtin.zeroCells z.cells m ++ Builtin.zeroCells z.cells (grownCap w m 0 e - m)) e), ?_, ⟨by simp, .inr ⟨w.heap.size, _, _, rfl, Nat.le_refl _, heap_alloc_new w.drew _, Nat.zero_le _, hcm, ?_, by simp⟩⟩, ⟨rfl, rfl, rfl, by simp, fun k hk => heap_alloc_old w.drew _ hk⟩, hge⟩
  · simp [Builtin.append_, run_underlying R.ht, run_underlying hu, sizeOf, typeInfo, zeroValue, R.hi, R.hz, asInt, asIntOf, wm, m0, mb, hm', h63', h48', Question.forced, run_firstCells_none, newRow, grownCap]
    intro h; exact absurd h hms
  · simp only [Array.size_append, size_zeroCells, R.zs, ← Nat.add_mul]
    congr 1
    omega
theorem wpList_append_room (R : RowTy P t e s b i z) {w : World} {ops : Array Oper} {rest : List Oper} {o : Oper} {a : Act} {Q : Exit → Act → World → Prop} (hgd : o.guard = none) (sx x : Operand) (u : TypeId)
    (ho : o.op = .call { callee := .builtin .append, args := #[sx, x], argTypes := #[t, u] }) (hu : P.underlying u = some (.int .i64)) (m : Nat) (hs : a.eval sx = .slice none 0 0) (hx : a.eval x = .int .i64 (m : Int)) (hm : 0 < m) (hb : m * b ≤ 140737488355328) (hm2 : m ≤ 1000000)
    (h : ∀ cap w', w'.ownsRow w.heap.size e s (.slice (some ⟨w.heap.size, 0, none⟩) 0 cap) 0 [] → Below w.heap.size w w' → m ≤ cap → wpList P ops Q rest (a.put o.dst (.slice (some ⟨w.heap.size, 0, none⟩) m cap)) w') : wpList P ops Q (o :: rest) a w := by
  refine wpList_plain hgd fun K hK => ?_
  obtain ⟨cap, w', hrun, h2, h3, h4⟩ := run_append_room_nil R u o.type hu w m hm hb hm2
  unfold Oper.wp execOp
  simp only [ho, resolve, invoke, builtin, Sem.run_bind, Sem.run_pure, Result.andThen_ok, List.map_toArray, List.map_cons, List.map_nil, hs, hx, hrun]
  exact hK _ _ (h cap w' h2 h3 h4)
theorem run_append_cells (R : RowTy P t e s b i z) (ty : TypeId) (w : World) (F : Nat → Prop) (base : Nat) (v : Value) (n : Nat) (xs : List Value) (hown : w.ownsRow base e s v n xs)
    (A : Option Addr) (C : List Value) (m c : Nat) (hC : C.length = m * s) (hr : Cells w F A C) (h1 : ∀ u ∈ C, u.oneCell' = true) (hb : (n + m) * b ≤ 140737488355328) (hm : n + m ≤ 1000000) (hbase : base ≤ w.heap.size) :
    ∃ v' w', (Builtin.append_ #[t, t] ty #[v, .slice A m c]).run P w = .ok v' w' ∧ w'.ownsRow base e s v' (n + m) (xs ++ C) ∧ w.grownBy w' v.ownBlock := by
  rcases A with _ | ad
  · obtain rfl : C = [] := by
      rcases hr with h | ⟨_, _, h, _⟩
      · exact h
      · cases h
    obtain rfl : m = 0 := by
      rcases Nat.eq_zero_or_pos m with h | h
      · exact h
      · have := Nat.mul_pos h R.pos
        have hC' : 0 = m * s := hC
        omega
    refine ⟨v, w, ?_, by simpa using hown, World.grownBy.refl w _⟩
    have := R.hs
    exact run_append_nought w base t ty e i s R.ht R.hi v n xs hown c
  · obtain ⟨v', w', hrun, h2, h3, _, _⟩ := run_append_own_at (P := P) w base t ty e i z s b R.ht R.hi R.hz R.hs R.hb R.zs R.pos v n xs hown ad m c C hC (by
      intro j u hu
      obtain ⟨hj, hju⟩ := List.getElem?_eq_some_iff.1 hu
      obtain ⟨bl, off, ha, _, _, hc⟩ := hr.at_ j hj
      injection ha with ha
      subst ha
      rw [add_plain, hc j hj, hju]) h1 (by unfold maxLen; omega) hb hbase
    exact ⟨v', w', hrun, h2, h3⟩
theorem wpList_append_cells (R : RowTy P t e s b i z) {w : World} {ops : Array Oper} {rest : List Oper} {o : Oper} {a : Act} {Q : Exit → Act → World → Prop} (hgd : o.guard = none) (sx x : Operand)
    (ho : o.op = .call { callee := .builtin .append, args := #[sx, x], argTypes := #[t, t] }) (F : Nat → Prop) (base : Nat) (v : Value) (n : Nat) (xs : List Value) (hs : a.eval sx = v) (hown : w.ownsRow base e s v n xs)
    (A : Option Addr) (C : List Value) (m c : Nat) (hx : a.eval x = .slice A m c) (hC : C.length = m * s) (hr : Cells w F A C) (h1 : ∀ u ∈ C, u.oneCell' = true) (hb : (n + m) * b ≤ 140737488355328) (hm : n + m ≤ 1000000) (hbase : base ≤ w.heap.size)
    (h : ∀ v' w', w'.ownsRow base e s v' (n + m) (xs ++ C) → w.grownBy w' v.ownBlock → wpList P ops Q rest (a.put o.dst v') w') : wpList P ops Q (o :: rest) a w := by
  refine wpList_plain hgd fun K hK => ?_
  obtain ⟨v', w', hrun, h2, h3⟩ := run_append_cells R o.type w F base v n xs hown A C m c hC hr h1 hb hm hbase
  unfold Oper.wp execOp
  simp only [ho, resolve, invoke, builtin, Sem.run_bind, Sem.run_pure, Result.andThen_ok, List.map_toArray, List.map_cons, List.map_nil, hs, hx, hrun]
  exact hK _ _ (h v' w' h2 h3)
theorem own_shape {w : World} {base n : Nat} {v : Value} {xs : List Value} (h : w.ownsRow base e s v n xs) : ∃ A c, v = .slice A n c := by
  rcases h.2 with ⟨rfl, h0⟩ | ⟨g, cap, cur, rfl, _⟩
  · exact ⟨none, 0, by rw [h0]⟩
  · exact ⟨_, _, rfl⟩
end
abbrev RowV := Option Addr × Nat × Nat × List Value
def rvVal (r : RowV) : Value := .slice r.1 r.2.1 r.2.2.1
def tot (rs : List RowV) : Nat := (rs.map fun r => r.2.1).sum
def cat (rs : List RowV) : List Value := (rs.map fun r => r.2.2.2).flatten
def RvOk (w : World) (F : Nat → Prop) (s : Nat) (r : RowV) : Prop := Cells w F r.1 r.2.2.2 ∧ r.2.2.2.length = r.2.1 * s ∧ ∀ u ∈ r.2.2.2, u.oneCell' = true
theorem tot_step {rs : List RowV} {k : Nat} (hk : k < rs.length) : tot (rs.take (k + 1)) = tot (rs.take k) + rs[k].2.1 := by
  unfold tot; rw [List.take_succ_eq_append_getElem hk, List.map_append, List.sum_append]; simp only [List.map_cons, List.map_nil, List.sum_cons, List.sum_nil]; omega
theorem cat_step {rs : List RowV} {k : Nat} (hk : k < rs.length) : cat (rs.take (k + 1)) = cat (rs.take k) ++ rs[k].2.2.2 := by
  unfold cat; rw [List.take_succ_eq_append_getElem hk, List.map_append, List.flatten_append]; simp only [List.map_cons, List.map_nil, List.flatten_cons, List.flatten_nil, List.append_nil]
theorem tot_take (rs : List RowV) (k : Nat) : tot (rs.take k) ≤ tot rs := by
  unfold tot
  conv => rhs; rw [← List.take_append_drop k rs]
  rw [List.map_append, List.sum_append]
  exact Nat.le_add_right _ _
theorem RvOk.below {w w' : World} {F : Nat → Prop} {s : Nat} {r : RowV} (h : RvOk w F s r) (hb : Below w.heap.size w w') : RvOk w' F s r := ⟨h.1.below hb, h.2⟩
end Go.Proofs.YtehabjiacgibpaaGreat
namespace Go.Proofs.YtehabjiacgibpaaGreat
open Go.RowKit
theorem rowT : ∃ i z, RowTy Tryz.prog 22 34 6 96 i z := by
  have hf : (Tryz.prog.info? 34).map (fun i => (i.zero, i.size, i.bytes)) = some (some (.agg #[.string ⟨#[]⟩, .string ⟨#[]⟩, .string ⟨#[]⟩, .string ⟨#[]⟩, .string ⟨#[]⟩, .string ⟨#[]⟩]), 6, 96) := by kernel_rfl
  obtain ⟨i, hi, hz, hs, hb⟩ := info_parts hf
  exact ⟨i, _, Tryz.underlying22, by kernel_rfl, hi, hz, hs, hb, rfl, by decide⟩
set_option maxHeartbeats 400000 in
theorem growT_any (w : World) (m : Nat) (hm : m ≤ 1000000) :
    Calls Tryz.prog 41 #[.slice none 0 0, .int .i64 (m : Int)] w fun e w' => (∃ A c, e = .returned (.slice A 0 c) ∧ w'.ownsRow w.heap.size 34 6 (.slice A 0 c) 0 []) ∧ Below w.heap.size w w' := by
  obtain ⟨i0, z0, R⟩ := rowT
  by_cases h0 : m = 0
  · subst h0
    go_enter Tryz.func41, Tryz.ntmps41
    go_wp2
    go_ret
    exact ⟨⟨none, 0, rfl, World.ownsRow_nil _ _ _ _⟩, Below.refl _ _⟩
  · have hp : 0 < m := by omega
    have hpi : (0 : Int) < (m : Int) := by omega
    have hcut : ∀ (A : Option Addr) (n c : Nat) (W : World), (Instr.slice 22 (.slice A n c) none (some (.int .i64 0)) none).run Tryz.prog W = .ok (.slice A 0 c) W := fun A n c W => R.head A n c 0 (Nat.zero_le _) W
    have HR := Lib.hid R
    clear R h0
    go_enter Tryz.func41, Tryz.ntmps41
    go_wp2_with (refine wpList_append_room HR.out rfl (.tmp 20) (.tmp 21) 3 rfl Tryz.underlying3 m rfl rfl hp (by omega) hm ?_)
    intro cap w1 hown hb1 hcap
    have HOWN := Lib.hid hown
    have HB := Lib.hid hb1
    clear hown hb1 hcap
    go_wp2_with fail
    go_ret
    exact ⟨⟨_, _, rfl, HOWN.out⟩, HB.out⟩
set_option maxHeartbeats 1000000 in
set_option maxRecDepth 100000 in
theorem concatT_any (w : World) (F : Nat → Prop) (B off d dc : Nat) (rs : List RowV) (hd : rs.length = d) (hdm : d ≤ 1000) (hB : B < w.heap.size) (hc : ∀ j (hj : j < rs.length), w.cell? ⟨B, off + j, none⟩ = some (rvVal rs[j])) (hok : ∀ r ∈ rs, RvOk w F 6 r) (ht : tot rs ≤ 1000000) :
    Calls Tryz.prog 21 #[.slice (some ⟨B, off, none⟩) d dc] w fun e w' => (∃ A c, e = .returned (.slice A (tot rs) c) ∧ w'.ownsRow w.heap.size 34 6 (.slice A (tot rs) c) (tot rs) (cat rs)) ∧ Below w.heap.size w w' := by
  obtain ⟨i0, z0, R⟩ := rowT
  have HR := Lib.hid R
  have HD := Lib.hid hd
  have HC : Hid (∀ W, Below w.heap.size w W → ∀ k (hk : k < rs.length), W.cell? ⟨B, off + k, none⟩ = some (.slice rs[k].1 rs[k].2.1 rs[k].2.2.1)) := fun W hW k hk => (hW.cell (p := ⟨B, off + k, none⟩) hB).trans (hc k hk)
  have HOK := Lib.hid hok
  have HT0 : Hid (tot (rs.take 0) = 0) := rfl
  have HTD : Hid (tot (rs.take d) = tot rs ∧ cat (rs.take d) = cat rs) := by rw [← hd, List.take_length]; exact ⟨rfl, rfl⟩
  have HTT := Lib.hid (tot_take rs)
  have HTS : Hid (∀ k (hk : k < rs.length), tot (rs.take (k + 1)) = tot (rs.take k) + rs[k].2.1) := fun k hk => tot_step hk
  clear hd hc hok R
  go_enter Tryz.func21, Tryz.ntmps21
  go_wp2_with fail
  go_loopg [3, 11] d (fun kx s3 s11 wr => ∃ k, k + kx = d ∧ s11 = .int .i64 k ∧ s3 = .int .i64 (tot (rs.take k) : Nat) ∧ w = wr)
  case atStart => exact ⟨0, by omega, rfl, by rw [HT0.out]; rfl, rfl⟩
  case round =>
    obtain ⟨k, hk, rfl, rfl, rfl⟩ := hrel
    have hTk := HTT.out k
    by_cases hlt : k < d
    · have hkl : (k : Int) < (d : Int) := by omega
      have hkr : k < rs.length := by rw [HD.out]; exact hlt
      have c1 := HC.out w (Below.refl _ _) k hkr
      have hs := HTS.out k hkr
      have hT2 := HTT.out (k + 1)
      obtain ⟨x, hx⟩ : ∃ x, x = rs[k].2.1 := ⟨_, rfl⟩
      rw [← hx] at c1 hs
      generalize rs[k].1 = A1 at *
      generalize rs[k].2.2.1 = c2 at *
      clear hx
      obtain ⟨T, hT⟩ : ∃ T, T = tot (rs.take k) := ⟨_, rfl⟩
      obtain ⟨T2, hT2'⟩ : ∃ T2, T2 = tot (rs.take (k + 1)) := ⟨_, rfl⟩
      rw [← hT] at hTk hs ⊢
      rw [← hT2'] at hT2 hs
      have HS := Lib.hid hs
      have HT2 := Lib.hid hT2'
      have hle : T + x ≤ 1000000 := by omega
      clear hs hT hT2'
      go_wp2_with fail
      go_roundg (d - (k + 1))
      case measure => omega
      case rel => exact ⟨k + 1, by omega, by go_num, by rw [← HT2.out, HS.out]; go_num, rfl⟩
    · obtain rfl : k = d := by omega
      have hkl : ¬ (k : Int) < (k : Int) := by omega
      rw [HTD.out.1]
      obtain ⟨T, hT⟩ : ∃ T, T = tot rs := ⟨_, rfl⟩
      rw [← hT] at ht hTk ⊢
      have HT := Lib.hid hT
      clear hT
      go_wp2_with fail
      refine (growT_any _ T ht).mono ?_
      rintro e w2 ⟨⟨A, c, rfl, hown⟩, hb⟩
      have HOWN := Lib.hid hown
      have HB := Lib.hid hb
      clear hown hb
      go_wp2_with fail
      have HCT0 : Hid (cat (rs.take 0) = []) := rfl
      go_loopg [6, 27] k (fun kx s6 s27 wr => ∃ j, j + kx = k ∧ s27 = .int .i64 j ∧ wr.ownsRow w.heap.size 34 6 s6 (tot (rs.take j)) (cat (rs.take j)) ∧ Below w.heap.size w wr)
      case atStart => exact ⟨0, by omega, rfl, by rw [HT0.out, HCT0.out]; exact HOWN.out, HB.out⟩
      case round =>
        obtain ⟨j, hj, rfl, hown, hb⟩ := hrel
        have HOW := Lib.hid hown
        have HBW := Lib.hid hb
        have hTj := HTT.out j
        clear hown hb HOWN HB hkl
        by_cases hlt2 : j < k
        · have hkl : (j : Int) < (k : Int) := by omega
          have hkr : j < rs.length := by rw [HD.out]; exact hlt2
          have c1 := HC.out wr HBW.out j hkr
          have HS := Lib.hid (HTS.out j hkr)
          have HCS : Hid (cat (rs.take (j + 1)) = cat (rs.take j) ++ rs[j].2.2.2) := cat_step hkr
          have hT2 := HTT.out (j + 1)
          have HRV := Lib.hid ((HOK.out _ (List.getElem_mem hkr)).below HBW.out)
          have hle : tot (rs.take j) + rs[j].2.1 ≤ 1000000 := by have := HS.out; have := HT.out; omega
          obtain ⟨form6, hform⟩ : ∃ q : Option Addr × Nat, u6 = .slice q.1 (tot (rs.take j)) q.2 := by
            obtain ⟨A, c, e⟩ := own_shape HOW.out
            exact ⟨(A, c), e⟩
          subst hform
          clear hT2 hTj
          go_wp2_with (refine wpList_append_cells HR.out rfl (.tmp 31) (.tmp 32) rfl F w.heap.size _ _ _ rfl HOW.out rs[j].1 rs[j].2.2.2 rs[j].2.1 rs[j].2.2.1 rfl HRV.out.2.1 HRV.out.1 HRV.out.2.2 (by omega) hle HBW.out.size ?_)
          intro v' w1 hown' hg
          have HO1 : Hid (w1.ownsRow w.heap.size 34 6 v' (tot (rs.take (j + 1))) (cat (rs.take (j + 1)))) := by
            show World.ownsRow _ _ _ _ _ _ _
            rw [HS.out, HCS.out]; exact hown'
          have HB1 : Hid (Below w.heap.size w w1) := below_grown HBW.out HBW.out.size HOW.out hg
          clear hown' hg
          go_wp2_with fail
          go_roundg (k - (j + 1))
          case measure => omega
          case rel => exact ⟨j + 1, by omega, by go_num, HO1.out, HB1.out⟩
        · obtain rfl : j = k := by omega
          have hkl : ¬ (j : Int) < (j : Int) := by omega
          have HO : Hid (wr.ownsRow w.heap.size 34 6 u6 T (cat rs)) := by
            have := HOW.out
            rw [HTD.out.1, HTD.out.2, ← HT.out] at this
            exact this
          obtain ⟨A, c, rfl⟩ := own_shape HO.out
          clear HOW
          go_wp2_with fail
          go_ret
          exact ⟨⟨A, c, by rw [← HT.out]; rfl, by rw [← HT.out]; exact HO.out⟩, HBW.out⟩
end Go.Proofs.YtehabjiacgibpaaGreat
