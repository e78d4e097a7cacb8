/-
  The reader's puts: the puts of a batch, or the panic. Conditions: how the reader lies in memory.
-/
import Derived.Test.YtmngcfmlmdhpbaaRdPut
import Derived.Test.YtmngcfmlmdhpbaaPuts
namespace Go.Proofs.Ytmngcfmlmdhpbaa
open Go.RowKit

theorem infoPut : (Try.prog.info? 45).map (fun i => (i.zero, i.size, i.bytes)) = some (some (.agg #[.slice none 0 0, .slice none 0 0, .bool false]), 3, 56) := by kernel_rfl
theorem info_parts3 {P : Program} {e : TypeId} {z : Value} {s b : Nat} (h : (P.info? e).map (fun i => (i.zero, i.size, i.bytes)) = some (some z, s, b)) : ∃ i, P.info? e = some i ∧ i.zero = some z ∧ i.size = s ∧ i.bytes = b := by
  obtain ⟨i, hi, h⟩ := Option.map_eq_some_iff.1 h
  injection h with h1 h
  injection h with h2 h3
  exact ⟨i, hi, h1, h2, h3⟩

theorem RdAt.spared {w w' : World} {p n : Nat} {F : Nat → Prop} {l : List UInt8} (h : RdAt w p F l) (hs : Spared w w' (fun b => n ≤ b)) (hp : p < n) (hF : ∀ b, n ≤ b → F b) : RdAt w' p F l := by
  obtain ⟨h0, A, c, h1, h2, h3⟩ := h
  exact ⟨h0, A, c, hs.blk h1 (by omega), h2.moved (hs.mono hF) (fun _ h => .inl h), h3⟩

/-- what puts leaves: the panic, or a list of its own and what is left -/
def PutsRead (w : World) (p : Nat) (F : Nat → Prop) (D : Option (List PutV)) (e : Ending) (w' : World) : Prop :=
  (e = wrong ∧ D = none ∧ w.grownBy w' (some p)) ∨
  (∃ A n c ps u, e = .returned (.slice A n c) ∧ ps.length = n ∧ ListAt 45 w ps (.slice A n c) w' ∧ D = (if u = [] then some (valsOf ps) else none) ∧ RdAt w' p F u ∧ w.grownBy w' (some p))

/-- ahead of round k -/
def PU (w : World) (p : Nat) (F : Nat → Prop) (N : Nat) (L : Nat) (D : Option (List PutV)) (s i : Value) (wr : World) : Prop :=
  ∃ (k : Nat) (ps : List PPut) (A : Option Addr) (c : Nat) (r : List UInt8), k ≤ N ∧ i = .int .i64 k ∧ s = .slice A k c ∧ ps.length = k ∧ ListAt 45 w ps (.slice A k c) wr ∧ RdAt wr p F r ∧ r.length + k ≤ L ∧ D = readN (N - k) r (valsOf ps) ∧ w.grownBy wr (some p)

set_option maxRecDepth 100000 in
set_option maxHeartbeats 1000000 in
theorem puts_any (w : World) (p : Nat) (F : Nat → Prop) (l : List UInt8) (h : RdAt w p F l) (hl : l.length ≤ 1099511627776) :
    Calls Try.prog 39 #[.pointer (some ⟨p, 0, none⟩)] w (PutsRead w p F (putsL l)) := by
  obtain ⟨i0, hi, hz0, hz1, hz2⟩ := info_parts3 infoPut
  have hp := h.lt
  have hmono : Hid (∀ W L, RdAt W p (fun b => F b ∨ w.heap.size ≤ b) L → RdAt W p F L) := fun W L hr => hr.mono h.1 (fun b hb => .inl (.inl hb))
  have h' := h.mono (G := fun b => F b ∨ w.heap.size ≤ b) (.inl h.1) (fun b hb => hb)
  obtain ⟨G, hG⟩ : ∃ G, G = fun b => F b ∨ w.heap.size ≤ b := ⟨_, rfl⟩
  rw [← hG] at h' hmono
  have hGn : Hid (∀ b, w.heap.size ≤ b → G b) := fun b hb => by rw [hG]; exact .inr hb
  clear h hG
  have h := h'
  clear h'
  by_cases hk : (getL l 0 0).2 = 0
  · have HN := Lib.hid (number_no w p G l h (by omega) hk)
    have HD : Hid (putsL l = none) := by show _ = _; unfold putsL; rw [if_pos hk]
    clear h hk
    go_enter Try.func39, Try.ntmps39
    go_wp2_with fail
    refine HN.out.mono ?_
    rintro e w1 ⟨rfl, rfl⟩
    go_wp2_with fail
    exact ⟨rfl, .inl ⟨rfl, HD.out, World.grownBy.refl _ _⟩⟩
  · have HN := Lib.hid (number_ok w p G l h (by omega) hk)
    have HF := get_fits (l := l)
    obtain ⟨D, hD⟩ : ∃ D, D = putsL l := ⟨_, rfl⟩
    rw [← hD]
    have HD : Hid (D = readN (getL l 0 0).1 (l.drop (getL l 0 0).2) []) := by show _ = _; rw [hD]; unfold putsL; rw [if_neg hk]
    generalize (getL l 0 0).2 = k0 at *
    generalize (getL l 0 0).1 = N at *
    obtain ⟨_, _, hN⟩ := HF
    clear h hk hD
    go_enter Try.func39, Try.ntmps39
    go_wp2_with fail
    refine HN.out.mono ?_
    rintro e w1 ⟨rfl, hr1, hg1⟩
    have HR1 := Lib.hid hr1
    have HG1 := Lib.hid hg1
    clear hr1 hg1
    go_wp2_with fail
    go_loopw [3, 6] (fun s i wr => PU w p G N l.length D s i wr) (fun _ i _ => N - (intOf i).toNat)
    case atStart =>
      exact ⟨0, [], none, 0, l.drop k0, by omega, rfl, rfl, rfl, (ListAt.start _ w).through HG1.out hp, HR1.out, by rw [List.length_drop]; omega, HD.out, HG1.out⟩
    case round =>
      clear HD HR1 HG1 HN
      obtain ⟨k, ps, A, c, r, hk, rfl, rfl, hps, hla, hrd, hrl, hD, hgr⟩ := hrel
      have HPS := Lib.hid hps
      have HLA := Lib.hid hla
      have HRD := Lib.hid hrd
      have HD := Lib.hid hD
      have HGR := Lib.hid hgr
      clear hps hla hrd hD hgr
      by_cases hlt : k < N
      · rcases ho : oneL r with _ | ⟨q, u⟩
        · have HQ := Lib.hid (put_no wr p G r HRD.out (by omega) ho)
          have HE : Hid (D = none) := by
            show _ = _
            rw [HD.out, show N - k = (N - k - 1) + 1 from by omega, readN, ho]
          clear ho
          go_wp2_with fail
          refine HQ.out.mono ?_
          rintro e w2 ⟨rfl, hg2⟩
          have HG2 := Lib.hid hg2
          clear hg2
          go_wp2_with fail
          exact ⟨rfl, .inl ⟨rfl, HE.out, only_trans HGR.out HG2.out⟩⟩
        · have HQ := Lib.hid (put_ok wr p G r q u HRD.out (by omega) ho)
          have hless := oneL_less ho
          have hqb := oneL_bound ho
          have HB2 : Hid (q.1.length ≤ r.length) := hqb.1
          have HB3 : Hid (q.2.1.length ≤ r.length) := hqb.2
          clear hqb
          have HE : Hid (D = readN (N - (k + 1)) u (valsOf ps ++ [q])) := by
            show _ = _
            rw [HD.out, show N - k = (N - (k + 1)) + 1 from by omega, readN, ho]
          clear ho
          obtain ⟨q1, q2, q3⟩ := q
          go_wp2_with fail
          refine HQ.out.mono ?_
          rintro e w2 ⟨A2, n2, c2, A3, n3, c3, rfl, hn2, hn3, _, _, ha2, ha3, hr2, hg2⟩
          simp only at hn2 hn3 ha2 ha3
          have HN2 := Lib.hid hn2
          have HN3 := Lib.hid hn3
          have HA2 := Lib.hid ha2
          have HA3 := Lib.hid ha3
          have HR2 := Lib.hid hr2
          have HG2 := Lib.hid hg2
          clear hn2 hn3 ha2 ha3 hr2 hg2
          have HL2 := Lib.hid (HLA.out.through HG2.out hp)
          have HQ2 : Hid (PutOff w2 (fun b => b < wr.heap.size) ((A2, q1, c2), (A3, q2, c3), q3)) := ⟨⟨HA2.out, by have h2 : q1.length ≤ r.length := HB2.out; simp only; omega⟩, ⟨HA3.out, by have h2 : q2.length ≤ r.length := HB3.out; simp only; omega⟩⟩
          have HC2 : Hid (pcells ((A2, q1, c2), (A3, q2, c3), q3) = [.slice A2 n2 c2, .slice A3 n3 c3, .bool q3]) := by show _ = _; simp only [pcells, pv, HN2.out, HN3.out]
          go_wp2_with (at_builtin; refine wpList_append_put w2 rfl (.tmp 8) (.tmp 11) 35 rfl 45 i0 _ Try.underlying35 hi hz0 hz1 hz2 rfl w wr ps A k c ((A2, q1, c2), (A3, q2, c3), q3) _ _ _ rfl rfl HLA.out HL2.out HPS.out HQ2.out HC2.out (by omega) ?_)
          intro A5 c5 w5 hl5 hs5
          have HL5 := Lib.hid hl5
          have HS5 := Lib.hid hs5
          clear hl5 hs5
          go_wp2_with fail
          go_roundw
          case rel =>
            refine ⟨k + 1, _, A5, c5, u, by omega, by go_num, rfl, by rw [List.length_append, HPS.out]; rfl, HL5.out, HR2.out.spared HS5.out hp hGn.out, by omega, ?_, only_spared (only_trans HGR.out HG2.out) HS5.out⟩
            rw [HE.out]; simp [valsOf, valOf]
          case measure => simp [intOf]; omega
      · have hkN : k = N := by omega
        have HE : Hid (D = (if r = [] then some (valsOf ps) else none)) := by
          show _ = _
          rw [HD.out, hkN, Nat.sub_self, readN]
        clear hkN
        go_wp2_with fail
        go_ret
        exact .inr ⟨A, k, c, ps, r, rfl, HPS.out, HLA.out, HE.out, hmono.out _ _ HRD.out, HGR.out⟩
end Go.Proofs.Ytmngcfmlmdhpbaa
