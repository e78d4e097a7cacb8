/-
  The document's Parse: its tokens, its reader, what its loops have made. No program is named.
-/
import Derived.Test.YtpiaiibobjlipaaCPaFl
import Derived.Test.YtpiaiibobjlipaaCLpT
import Derived.Test.YtpiaiibobjlipaaCPaL
import Derived.Test.YtpiaiibobjlipaaCPaSc
import Derived.Test.YtpiaiibobjlipaaCPaEx
namespace Go.Proofs.Ytpiaiibobjlipaa
open Go.RowKit
theorem wpList_append_row {P : Program} (w : World) {ops : Array Oper} {rest : List Oper} {o : Oper} {ac : Act} {Q : Exit → Act → World → Prop} (hgd : o.guard = none) (s x : Operand) (t : TypeId)
    (ho : o.op = .call { callee := .builtin .append, args := #[s, x], argTypes := #[t, t] })
    {e : TypeId} {k b : Nat} {i : TypeInfo} {z : Value} (R : RowT P t e k b i z) (hk : 0 < k) (hb64 : b ≤ 128)
    (base : Nat) (A : Option Addr) (n c : Nat) (xs : List Value) (L : List Value) (hL : L.length = k) (hs : ac.eval s = .slice A n c) (hx : ac.eval x = .slice (some ⟨w.heap.size, 0, none⟩) 1 1)
    (hbase : base ≤ w.heap.size) (h : w.ownsRow base e k (.slice A n c) n xs) (hone : ∀ u ∈ L, u.oneCell' = true) (hn : n ≤ 1000000)
    (K : ∀ A' c' w', w'.ownsRow base e k (.slice A' (n + 1) c') (n + 1) (xs ++ L) → (w.alloc (.cells L.toArray e)).grownBy w' (Value.slice A n c).ownBlock →
      ((Value.slice A' (n + 1) c').ownBlock = (Value.slice A n c).ownBlock ∨ (Value.slice A' (n + 1) c').ownBlock = some (w.heap.size + 1)) → wpList P ops Q rest (ac.put o.dst (.slice A' (n + 1) c')) w') :
    wpList P ops Q (o :: rest) ac (w.alloc (.cells L.toArray e)) := by
  have hB : base ≤ (w.alloc (.cells L.toArray e)).heap.size := by simp; omega
  have hlist : (w.alloc (.cells L.toArray e)).ownsRow base e k (.slice A n c) n xs := h.alloc _
  refine wpList_append_own_at (w.alloc (.cells L.toArray e)) hgd s x t ho base e i z k b R.ht R.hi R.hz R.hs R.hb R.zs hk _ n _ hs hlist ⟨w.heap.size, 0, none⟩ 1 1 L hx (by rw [hL, Nat.one_mul]) (cells_new _ _ _) hone (by unfold maxLen; omega) (Nat.le_trans (Nat.mul_le_mul_left _ hb64) (by omega)) hB ?_
  intro v' w' hown hg _ hat
  obtain ⟨A', c', rfl⟩ := ownrow_shape hown
  exact K A' c' w' hown hg (by simpa using hat)
theorem tok_fit (l : Txt) (line col : Nat) : 1 ≤ col → ∀ t ∈ tokL l line col, t.1.length ≤ l.length + 1 ∧ t.2.1 ≤ line + l.length ∧ t.2.2 ≤ col + l.length := by
  fun_induction tokL l line col with
  | case1 line col =>
    intro _ t ht
    rw [List.mem_singleton.1 ht]; simp
  | case2 line col r ih =>
    intro hc t ht
    have := ih (by omega) t ht
    simp; omega
  | case3 line col c r h1 h2 ih =>
    intro hc t ht
    have := ih (by omega) t ht
    simp; omega
  | case4 line col c r h1 h2 h3 h4 =>
    intro hc t ht
    rw [List.mem_singleton.1 ht]; simp
  | case5 line col c r h1 h2 h3 h4 ih =>
    intro hc t ht
    rcases List.mem_cons.1 ht with rfl | ht
    · have : (signT c).length = 1 := by unfold signT; split <;> rfl
      simp; omega
    · have := ih (by omega) t ht
      simp; omega
  | case6 line col c r h1 h2 h3 ih =>
    intro hc t ht
    rcases List.mem_cons.1 ht with rfl | ht
    · simp; omega
    · have := ih (by omega) t ht
      rw [List.length_drop, List.length_cons] at this
      have h5 := wordL_le (c :: r)
      rw [List.length_cons] at h5
      simp only [List.length_cons]; omega
theorem Rd.belowB {W W' : World} {g : Nat} {Q : Option Addr × Nat} {L : List Tk} {k op : Nat} {d : Dg} {B : Nat} (h : Rd W g Q L k op d) (hq : ∀ a, Q.1 = some a → a.block < B) (hg : g < B) (hb : Below B W W') : Rd W' g Q L k op d := by
  obtain ⟨h1, h2, h3⟩ := h
  obtain ⟨A, c⟩ := Q
  refine ⟨h1.below hb hg, ?_, h3⟩
  rcases h2 with rfl | ⟨b, off, rfl, hb1, hF, hk⟩
  · exact .inl rfl
  · have hbB : b < B := hq _ rfl
    refine .inr ⟨b, off, rfl, Nat.lt_of_lt_of_le hb1 hb.size, hF, fun j hj => ?_⟩
    obtain ⟨cs, h4, h5⟩ := hk j hj
    exact ⟨cs, h4, fun i hi => (hb.cell (p := ⟨b, off + j * 3 + i, none⟩) hbB).trans (h5 i hi)⟩
def finP (s : Sc) (r : List Tk) : Rs Sc := if (nx r).1 = [] then .ok s r else .no (failT (nx r) 8)
def DpAt (W0 : World) (g : Nat) (Q : Option Addr × Nat) (L : List Tk) (R : Rs Sc) (w : World) (ps : List (Ty × List Value)) (A : Option Addr) (n c k op : Nat) (d : Dg) (m : Nat) : Prop :=
  (Blk w W0.heap.size [.slice A n c] 25 ∧ RowOf TyAt w (W0.heap.size + 1) 45 2 g A n c ps ∧ Rd w g Q L k op d ∧ Spared W0 w (onG g)) ∧ (k < L.length ∧ n ≤ k ∧ op ≤ 1) ∧
    (d.2.2 = 0 → op = 0 ∧ (L.drop k).length ≤ m ∧ R = ((typesLoop m (L.drop k)).then fun l ts => .ok (ps.map (·.1) ++ l) ts).then finP) ∧ (d.2.2 ≠ 0 → R = .no d)
def DtAt (w5 : World) (g : Nat) (Q : Option Addr × Nat) (L : List Tk) (R : Rs Sc) (C : Ty → List Tk → Rs Sc) (a : Txt) (k0 : Nat) (w : World) (qs : List (Rl × List Value)) (B : Option Addr) (n c k op : Nat) (d : Dg) (j : Nat) : Prop :=
  (Blk w w5.heap.size [strV a, .slice B n c] 45 ∧ RowOf RlAt w (w5.heap.size + 1) 48 6 g B n c qs ∧ Rd w g Q L k op d ∧ Spared w5 w (onG g)) ∧ (k < L.length ∧ k0 ≤ k ∧ n ≤ k + 1 ∧ op ≤ 1) ∧
    (d.2.2 = 0 → op = 0 ∧ n ≤ k ∧ (L.drop k).length ≤ j ∧ R = (relsLoop j (L.drop k)).then fun rs r => C ⟨a, qs.map (·.1) ++ rs⟩ r) ∧ (d.2.2 ≠ 0 → R = .no d)
theorem rel_there {W : World} {g : Nat} {Q : Option Addr × Nat} {L : List Tk} {k : Nat} {d : Dg} (he : Ends L) (h : Rd W g Q L k 0 d) (hk : k < L.length) (hd : d.2.2 = 0) (ht : L[k].1 = relW2 ∨ L[k].1 = defW2) :
    ∃ P : List Tk → Rs Rl, Calls Try.prog 28 #[.pointer (some ⟨g, 0, none⟩)] W (RlOut P W g Q L k d) ∧
      (∀ j, relsLoop (j + 1) (L.drop k) = (P (L.drop k)).then fun x r => (relsLoop j r).then fun l r => .ok (x :: l) r) ∧ ∀ x r, P (L.drop k) = .ok x r → r.length + 1 < (L.drop k).length := by
  have hn := nx_drop hk
  have hl : (L.drop k).tail.length + 1 = (L.drop k).length := by rw [drop_tail, List.length_drop, List.length_drop]; omega
  by_cases h1 : L[k].1 = relW2
  · refine ⟨_, rel_told he h hk hd h1, fun j => ?_, fun x r hx => ?_⟩
    · rw [relsLoop, hn, if_pos h1]
    · have h2 := told_lv _ x r hx
      have h3 : 0 < (L.drop k).tail.length := by
        rcases Nat.eq_zero_or_pos (L.drop k).tail.length with h0 | h0
        · rw [List.eq_nil_of_length_eq_zero h0] at hx
          cases hx
        · exact h0
      omega
  · have h2 := ht.resolve_left h1
    refine ⟨_, rel_define he h hk hd h2, fun j => ?_, fun x r hx => ?_⟩
    · rw [relsLoop, hn, if_neg h1, if_pos h2]
    · have h4 := def_lv _ x r hx
      have h3 : 0 < (L.drop k).tail.length := by
        rcases Nat.eq_zero_or_pos (L.drop k).tail.length with h0 | h0
        · rw [List.eq_nil_of_length_eq_zero h0] at hx
          cases hx
        · exact h0
      omega
def msr (g : Nat) (w : World) : Nat := 2 * (6000 - (intOf ((w.cell? ⟨g, 1, none⟩).getD (.int .i64 0))).toNat) + (if intOf ((w.cell? ⟨g, 5, none⟩).getD (.int .i64 0)) = 0 then 1 else 0)
theorem Rd.msr {W : World} {g : Nat} {Q : Option Addr × Nat} {L : List Tk} {k op : Nat} {d : Dg} (h : Rd W g Q L k op d) : msr g W = 2 * (6000 - k) + (if d.2.2 = 0 then 1 else 0) := by
  have e1 := h.1.cell (i := 1) (by simp)
  have e5 := h.1.cell (i := 5) (by simp)
  simp only [List.getElem_cons_succ, List.getElem_cons_zero] at e1 e5
  unfold Go.Proofs.Ytpiaiibobjlipaa.msr
  rw [e1, e5]
  show 2 * (6000 - ((k : Int)).toNat) + (if ((d.2.2 : Nat) : Int) = 0 then 1 else 0) = _
  rw [Int.toNat_natCast]
  by_cases h0 : d.2.2 = 0
  · rw [if_pos h0, if_pos (by omega)]
  · rw [if_neg h0, if_neg (by omega)]
end Go.Proofs.Ytpiaiibobjlipaa
