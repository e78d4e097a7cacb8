/-
  Rows of tuples appended to rows of the call's own; cuts of rows of tuples. Conditions: at most 1,000,000 tuples; the bounds of the cuts.
-/
import Derived.Test.YtehabjiacgibpaaGreatCRowG
namespace Go.Proofs.YtehabjiacgibpaaGreat
open Go.RowKit
theorem cutU_tail (A : Option Addr) (n c m : Nat) (hm : m ≤ n) (hc : n ≤ c) : ∃ A', (∀ W, (Instr.slice 22 (.slice A n c) (some (.int .i64 (m : Int))) none none).run Tryz.prog W = .ok (.slice A' (n - m) (c - m)) W) ∧ (m < n → A' = A.map (·.add (m * 6))) ∧ (A = none → A' = none) := by
  have e2 : Tryz.prog.elem 22 = 34 := by kernel_rfl
  have hi : (Tryz.prog.info? 34).map (fun i => i.size) = some 6 := by kernel_rfl
  obtain ⟨i, hi, hz⟩ := Option.map_eq_some_iff.1 hi
  by_cases hcm : c - m = 0
  · refine ⟨A, fun W => ?_, fun h => by omega, id⟩
    rw [run_slice_l W 22 A n c (by kernel_rfl) .i64 (m : Int) (by omega) (by omega), e2]
    simp [sizeOf, typeInfo, hi, hz, sliced, hcm]
    intro h
    omega
  · refine ⟨A.map (·.add (m * 6)), fun W => ?_, fun _ => rfl, fun h => by rw [h]; rfl⟩
    rw [run_slice_l W 22 A n c (by kernel_rfl) .i64 (m : Int) (by omega) (by omega), e2]
    simp [sizeOf, typeInfo, hi, hz, sliced]
    intro h
    omega
theorem cutU_head (A : Option Addr) (n c m : Nat) (hm : m ≤ c) (W : World) : (Instr.slice 22 (.slice A n c) none (some (.int .i64 (m : Int))) none).run Tryz.prog W = .ok (.slice A m c) W := by
  have e2 : Tryz.prog.elem 22 = 34 := by kernel_rfl
  have hi : (Tryz.prog.info? 34).map (fun i => i.size) = some 6 := by kernel_rfl
  obtain ⟨i, hi, hz⟩ := Option.map_eq_some_iff.1 hi
  rw [run_slice_h W 22 A n c (by kernel_rfl) .i64 (m : Int) (by omega) (by omega), e2]
  simp [sizeOf, typeInfo, hi, hz, sliced]
  intro _
  cases A with
  | none => rfl
  | some a =>
    show some (a.add 0) = some a
    simp [Addr.add]
theorem own_cut {w : World} {base : Nat} {e : TypeId} {s n c : Nat} {A : Option Addr} {xs : List Value} (h : w.ownsRow base e s (.slice A n c) n xs) {k : Nat} (hk : k ≤ n) : w.ownsRow base e s (.slice A k c) k (xs.take (k * s)) := by
  have hks : k * s ≤ n * s := Nat.mul_le_mul_right s hk
  refine ⟨by rw [List.length_take, h.1]; omega, ?_⟩
  rcases h.2 with ⟨hv, h0⟩ | ⟨g, cap, cur, hv, hb, hh, hnc, hcm, hsz, htake⟩
  · injection hv with h1 _ h3
    subst h1 h3
    exact .inl ⟨by rw [show k = 0 by omega], by omega⟩
  · injection hv with h1 _ h3
    subst h1 h3
    refine .inr ⟨g, c, cur, rfl, hb, hh, by omega, hcm, hsz, ?_⟩
    rw [← htake, List.take_take, Nat.min_eq_left hks]
theorem append_none (A : Option Addr) (n c d : Nat) (hc : n ≤ c) (ty : TypeId) (w : World) : (Builtin.append_ #[22, 22] ty #[.slice A n c, .slice none 0 d]).run Tryz.prog w = .ok (.slice A n c) w := by
  simp [Builtin.append_, go_sem, Builtin.firstCells, Builtin.lenOf, hc]
  cases A <;> rfl
theorem wpList_tups {w : World} {ops : Array Oper} {rest : List Oper} {o : Oper} {a : Act} {Q : Exit → Act → World → Prop} (hgd : o.guard = none) (s x : Operand)
    (ho : o.op = .call { callee := .builtin .append, args := #[s, x], argTypes := #[22, 22] })
    {base : Nat} {A : Option Addr} {n c : Nat} {xs : List Value} {B : Option Addr} {l : List Tup} {m d : Nat}
    (hs : a.eval s = .slice A n c) (hx : a.eval x = .slice B m d) (hm : m = l.length) (hr : TuR w B l) (hown : w.ownsRow base 34 6 (.slice A n c) n xs) (hbase : base ≤ w.heap.size) (hn : n + l.length ≤ 1000000)
    (K : ∀ A' c' w', w'.ownsRow base 34 6 (.slice A' (n + m) c') (n + m) (xs ++ l.flatMap encT) → Below base w w' → w.grownBy w' (Value.slice A n c).ownBlock → wpList Tryz.prog ops Q rest (a.put o.dst (.slice A' (n + m) c')) w') :
    wpList Tryz.prog ops Q (o :: rest) a w := by
  obtain ⟨i, z, R⟩ := rowTu
  subst hm
  rcases B with _ | ad
  · obtain rfl : l = [] := by
      rcases hr with h | ⟨_, _, h, _⟩
      · exact h
      · cases h
    refine wpList_plain hgd fun K' hK => ?_
    unfold Oper.wp execOp
    have hr := append_none A n c d (own_cap hown) o.type w
    have hx : a.eval x = .slice none 0 d := hx
    simp only [ho, resolve, invoke, builtin, Sem.run_bind, Sem.run_pure, Result.andThen_ok, List.map_toArray, List.map_cons, List.map_nil, hs, hx, hr]
    exact hK _ _ (K A c w (by simpa using hown) (Below.refl _ _) (World.grownBy.refl w _))
  · have hnews : ∀ (i : Nat) u, (l.flatMap encT)[i]? = some u → w.cell? (ad.add i) = some u := by
      rcases hr with rfl | ⟨b, off, hA, h1, h2, h3⟩
      · intro i u hu; simp at hu
      · injection hA with hA
        subst hA
        exact TuR.news (.inr ⟨b, off, rfl, h1, h2, h3⟩)
    refine wpList_append_own_at w hgd s x 22 ho base 34 i z 6 96 R.ht R.hi R.hz R.hs R.hb R.zs (by decide) _ n xs hs hown ad l.length d (l.flatMap encT) hx (flatT_len l) hnews (flatT_one l) (by unfold maxLen; omega) (by omega) hbase ?_
    intro v' w' ho2 hg _ _
    obtain ⟨A', c', rfl⟩ := ownrow_shape ho2
    exact K A' c' w' ho2 (below_grown (Below.refl _ _) hbase hown hg) hg
theorem wpList_tups0 {w : World} {ops : Array Oper} {rest : List Oper} {o : Oper} {a : Act} {Q : Exit → Act → World → Prop} (hgd : o.guard = none) (s x : Operand)
    (ho : o.op = .call { callee := .builtin .append, args := #[s, x], argTypes := #[22, 22] })
    {B : Option Addr} {l : List Tup} {m d : Nat} (hs : a.eval s = .slice none 0 0) (hx : a.eval x = .slice B m d) (hm : m = l.length) (hr : TuR w B l) (hn : l.length ≤ 1000000)
    (K : ∀ A' c' w', w'.ownsRow w.heap.size 34 6 (.slice A' m c') m (l.flatMap encT) → Below w.heap.size w w' → wpList Tryz.prog ops Q rest (a.put o.dst (.slice A' m c')) w') :
    wpList Tryz.prog ops Q (o :: rest) a w := by
  refine wpList_tups hgd s x ho hs hx hm hr (World.ownsRow_nil w w.heap.size _ _) (Nat.le_refl _) (by omega) ?_
  intro A' c' w' h1 h2 _
  rw [Nat.zero_add, List.nil_append] at h1
  rw [Nat.zero_add]
  exact K A' c' w' h1 h2
theorem TuR.cut {W : World} {A A' : Option Addr} {l : List Tup} (h : TuR W A l) {k : Nat} (hA : k < l.length → A' = A.map (·.add (k * 6))) : TuR W A' (l.drop k) := by
  by_cases hk : k < l.length
  · obtain ⟨b, off, rfl, _⟩ := h.addr (by omega)
    have h2 := h.tail k
    rw [hA hk]
    show TuR W (some ((⟨b, off, none⟩ : Addr).add (k * 6))) _
    rw [show (⟨b, off, none⟩ : Addr).add (k * 6) = ⟨b, off + k * 6, none⟩ by simp [Addr.add]]
    exact h2
  · rw [List.drop_of_length_le (by omega)]
    exact .nil _ _
theorem flat_take (l : List Tup) (k : Nat) : (l.take k).flatMap encT = (l.flatMap encT).take (k * 6) := by
  induction l generalizing k with
  | nil => simp
  | cons x r ih =>
    cases k with
    | zero => simp
    | succ k =>
      rw [List.take_succ_cons, List.flatMap_cons, List.flatMap_cons, ih, List.take_append, List.take_of_length_le (show (encT x).length ≤ (k + 1) * 6 from by show 6 ≤ _; omega)]
      congr 2
      show k * 6 = (k + 1) * 6 - 6
      omega
end Go.Proofs.YtehabjiacgibpaaGreat
