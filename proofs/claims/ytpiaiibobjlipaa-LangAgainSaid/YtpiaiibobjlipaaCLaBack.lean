/-
  How many parts a schema has: as Few counts them; as the tokens it is parsed from bound them; as its text is bounded by them. No program is named.
  Arguments of this layer: an expression, a schema. No conditions.
  LangBack answers true: a schema that may be printed is parsed as it was, if its text is not too long. Condition: the schema is there.
-/
import Derived.Test.YtpiaiibobjlipaaCPaW
import Derived.Test.YtpiaiibobjlipaaCPaPr
import Derived.Test.YtpiaiibobjlipaaCPaSc
import Derived.Test.YtpiaiibobjlipaaCLaMay
import Derived.Test.YtpiaiibobjlipaaCLaW
import Derived.Test.YtpiaiibobjlipaaCNmTab
import Derived.Lib.SmallJoins
import Derived.Test.YtpiaiibobjlipaaCLpTm
namespace Go.Proofs.Ytpiaiibobjlipaa
open Go.RowKit
def wR (x : Rl) : Nat := x.refs.length + nodes x.expr
def wRs : List Rl → Nat
  | [] => 0
  | x :: r => wR x + wRs r
def wTs : Sc → Nat
  | [] => 0
  | t :: r => 1 + wRs t.rels + wTs r
theorem nodes_pos (e : Ex) : 1 ≤ nodes e := by cases e; simp [nodes]
theorem weightL_pos : ∀ (l : List Ex) (m : Int), 0 < weightL l m → 0 < m
  | [], m, h => by unfold weightL at h; exact h
  | x :: r, m, h => by
    unfold weightL at h
    by_cases h0 : 0 < m
    · exact h0
    · rw [if_neg h0] at h; exact h
theorem weight_nodes : ∀ (e : Ex) (m : Int), 0 < weightE e m → weightE e m + nodes e = m := by
  intro e
  refine Ex.all (P := fun e => ∀ m : Int, 0 < weightE e m → weightE e m + nodes e = m) (fun k n o ks ih m => ?_) e
  have hL : ∀ (l : List Ex), (∀ x ∈ l, x ∈ ks) → ∀ m : Int, 0 < weightL l m → weightL l m + nodesL l = m := by
    intro l
    induction l with
    | nil => intro _ m h; unfold weightL nodesL; simp
    | cons x r ihr =>
      intro hs m h
      unfold weightL nodesL
      unfold weightL at h
      by_cases h0 : 0 < m
      · rw [if_pos h0] at h ⊢
        have h1 := ihr (fun y hy => hs y (List.mem_cons_of_mem _ hy)) (weightE x m) h
        have h2 := ih x (hs x (List.mem_cons_self ..)) m (weightL_pos _ _ h)
        push_cast
        omega
      · rw [if_neg h0] at h; exact absurd h h0
  intro h
  unfold weightE at h ⊢
  by_cases hk : m < ks.length
  · rw [if_pos hk] at h; omega
  · rw [if_neg hk] at h ⊢
    have := hL ks (fun _ h => h) (m - 1) h
    unfold nodes
    push_cast
    omega
theorem weightE_nn : ∀ (e : Ex) (m : Int), 1 ≤ m → 0 ≤ weightE e m := by
  intro e
  refine Ex.all (P := fun e => ∀ m : Int, 1 ≤ m → 0 ≤ weightE e m) (fun k n o ks ih m => ?_) e
  have hL : ∀ (l : List Ex), (∀ x ∈ l, x ∈ ks) → ∀ m : Int, 0 ≤ m → 0 ≤ weightL l m := by
    intro l
    induction l with
    | nil => intro _ m h; unfold weightL; exact h
    | cons x r ihr =>
      intro hs m h
      unfold weightL
      by_cases h0 : 0 < m
      · rw [if_pos h0]
        exact ihr (fun y hy => hs y (List.mem_cons_of_mem _ hy)) _ (ih x (hs x (List.mem_cons_self ..)) m (by omega))
      · rw [if_neg h0]; exact h
  intro h
  unfold weightE
  by_cases hk : m < ks.length
  · rw [if_pos hk]; omega
  · rw [if_neg hk]
    exact hL ks (fun _ h => h) (m - 1) (by omega)
theorem fewRs_pos (most : Int) : ∀ (l : List Rl) (n q : Int), fewRs most l n = some q → 0 < q → 0 < n ∧ q + wRs l = n
  | [], n, q, h, hq => by
    unfold fewRs at h
    injection h with h
    subst h
    exact ⟨hq, by simp [wRs]⟩
  | x :: r, n, q, h, hq => by
    unfold fewRs at h
    by_cases h0 : 0 < n
    · rw [if_pos h0] at h
      split at h
      · cases h
      · obtain ⟨h1, h2⟩ := fewRs_pos most r _ q h hq
        have h3 := weight_nodes _ _ h1
        refine ⟨h0, ?_⟩
        simp only [wRs, wR]
        push_cast
        omega
    · rw [if_neg h0] at h
      injection h with h
      omega
theorem fewTs_pos (most : Int) : ∀ (l : List Ty) (n q : Int), fewTs most l n = some q → 0 < q → 0 < n ∧ q + wTs l = n + l.length
  | [], n, q, h, hq => by
    unfold fewTs at h
    injection h with h
    subst h
    exact ⟨hq, by simp [wTs]⟩
  | t :: r, n, q, h, hq => by
    unfold fewTs at h
    by_cases h0 : 0 < n
    · rw [if_pos h0] at h
      split at h
      · cases h
      · cases hr : fewRs most t.rels n with
        | none => rw [hr] at h; cases h
        | some m =>
          rw [hr] at h
          obtain ⟨h1, h2⟩ := fewTs_pos most r m q h hq
          obtain ⟨_, h3⟩ := fewRs_pos most t.rels n m hr h1
          refine ⟨h0, ?_⟩
          simp only [wTs, List.length_cons]
          push_cast
          omega
    · rw [if_neg h0] at h
      injection h with h
      omega
theorem few_parts {s : Sc} {most : Int} (h : fewS s most = true) : (wTs s : Int) < most := by
  unfold fewS at h
  cases hr : fewTs most s (most - s.length) with
  | none => rw [hr] at h; cases h
  | some q =>
    rw [hr] at h
    have hq : 0 < q := of_decide_eq_true h
    obtain ⟨_, h2⟩ := fewTs_pos most s _ q hr hq
    omega
def Sz {α : Type} (x : Rs α) (g : α → Nat) (n : Nat) : Prop := ∀ a r, x = .ok a r → g a + r.length ≤ n
theorem Sz.then {α β : Type} {x : Rs α} {f : α → List Tk → Rs β} {g : α → Nat} {h : β → Nat} {n m : Nat} (hx : Sz x g n) (hf : ∀ a r, g a + r.length ≤ n → Sz (f a r) h m) : Sz (x.then f) h m := by
  intro b r hb
  obtain ⟨a, r', h1, h2⟩ := Rs.then_ok hb
  exact hf a r' (hx a r' h1) b r h2
theorem Sz.ok {α : Type} {g : α → Nat} {a : α} {r : List Tk} {n : Nat} (h : g a + r.length ≤ n) : Sz (.ok a r) g n := by
  intro b r' hb
  injection hb with h1 h2
  subst h1 h2; exact h
theorem Sz.no {α : Type} {g : α → Nat} {d : Dg} {n : Nat} : Sz (.no d : Rs α) g n := by
  intro b r' hb; cases hb
theorem Sz.mono {α : Type} {x : Rs α} {g : α → Nat} {n m : Nat} (h : Sz x g n) (hm : n ≤ m) : Sz x g m := fun a r ha => Nat.le_trans (h a r ha) hm
theorem nx_ne {ts : List Tk} {s : Txt} (h : (nx ts).1 = s) (hs : s ≠ []) : ts.tail.length + 1 = ts.length := by
  cases ts with
  | nil => exact absurd h.symm hs
  | cons t r => simp
theorem name_sz (ts : List Tk) : Sz (nameP ts) (fun _ => 1) ts.length := by
  unfold nameP
  split
  · rename_i h
    have := nx_ne (ts := ts) rfl (fun e => by rw [e] at h; revert h; decide)
    exact Sz.ok (by omega)
  · exact Sz.no
theorem must_sz (s : Txt) (hs : s ≠ []) (ts : List Tk) : Sz (mustP s ts) (fun _ => 1) ts.length := by
  unfold mustP
  split
  · rename_i h
    have := nx_ne h hs
    exact Sz.ok (by omega)
  · exact Sz.no
theorem ref_sz (ts : List Tk) : Sz (refP ts) (fun _ => 1) ts.length := by
  unfold refP
  refine (name_sz ts).then fun a r hr => ?_
  split
  · rename_i h
    have := nx_ne h (by decide)
    refine (name_sz _).then fun b r' hr' => Sz.ok ?_
    omega
  · exact Sz.ok hr
theorem refs_sz : ∀ (n : Nat) (ts : List Tk), Sz (refsLoop n ts) List.length ts.length
  | 0, ts => Sz.ok (by simp)
  | n + 1, ts => by
    unfold refsLoop
    split
    · rename_i h
      have := nx_ne h (by decide)
      refine (ref_sz _).then fun x r hr => (refs_sz n r).then fun l r' hr' => Sz.ok ?_
      simp; omega
    · exact Sz.ok (by simp)
theorem atom_sz {sub : Option (List Tk → Rs Ex)} (hs : ∀ f, sub = some f → ∀ ts, Sz (f ts) nodes ts.length) (ts : List Tk) : Sz (atomK sub ts) nodes ts.length := by
  unfold atomK
  split
  · rename_i h
    have := nx_ne h (by decide)
    cases sub with
    | none => exact Sz.no
    | some f =>
      refine (hs f rfl _).then fun e r hr => (must_sz _ (by decide) _).then fun _ r' hr' => Sz.ok ?_
      omega
  · refine (name_sz ts).then fun a r hr => ?_
    split
    · rename_i h
      have := nx_ne h (by decide)
      refine (name_sz _).then fun b r' hr' => Sz.ok ?_
      simp [nodes, nodesL]; omega
    · exact Sz.ok (by simp [nodes, nodesL]; omega)
theorem two_sz (k : Int) (t : Tk) (a b : Ex) (r : List Tk) : Sz (twoP k t a b r) nodes (nodes a + nodes b + 1 + r.length) := by
  unfold twoP
  split
  · exact Sz.no
  · exact Sz.ok (by simp [nodes, nodesL])
theorem termLoop_sz {sub : Option (List Tk → Rs Ex)} (hs : ∀ f, sub = some f → ∀ ts, Sz (f ts) nodes ts.length) : ∀ (n : Nat) (a : Ex) (ts : List Tk), Sz (termLoop sub n a ts) nodes (nodes a + ts.length)
  | 0, a, ts => Sz.ok (Nat.le_refl _)
  | n + 1, a, ts => by
    unfold termLoop
    split
    · rename_i h
      have := nx_ne h (by decide)
      refine (atom_sz hs _).then fun b r hr => (two_sz _ _ _ _ _).then fun e r' hr' => (termLoop_sz hs n e r').mono ?_
      omega
    · exact Sz.ok (Nat.le_refl _)
theorem term_sz {sub : Option (List Tk → Rs Ex)} (hs : ∀ f, sub = some f → ∀ ts, Sz (f ts) nodes ts.length) (ts : List Tk) : Sz (termK sub ts) nodes ts.length := by
  unfold termK
  exact (atom_sz hs ts).then fun a r hr => (termLoop_sz hs _ _ _).mono hr
theorem exprLoop_sz {sub : Option (List Tk → Rs Ex)} (hs : ∀ f, sub = some f → ∀ ts, Sz (f ts) nodes ts.length) : ∀ (n : Nat) (a : Ex) (ts : List Tk), Sz (exprLoop sub n a ts) nodes (nodes a + ts.length)
  | 0, a, ts => Sz.ok (Nat.le_refl _)
  | n + 1, a, ts => by
    unfold exprLoop
    split
    · rename_i h
      have : ts.tail.length + 1 = ts.length := by
        rcases h with h | h
        · exact nx_ne h (by decide)
        · exact nx_ne h (by decide)
      refine (term_sz hs _).then fun b r hr => (two_sz _ _ _ _ _).then fun e r' hr' => (exprLoop_sz hs n e r').mono ?_
      omega
    · exact Sz.ok (Nat.le_refl _)
theorem expr_sz {sub : Option (List Tk → Rs Ex)} (hs : ∀ f, sub = some f → ∀ ts, Sz (f ts) nodes ts.length) (ts : List Tk) : Sz (exprK sub ts) nodes ts.length := by
  unfold exprK
  exact (term_sz hs ts).then fun a r hr => (exprLoop_sz hs _ _ _).mono hr
theorem exprD_sz : ∀ (d : Nat) (ts : List Tk), Sz (exprD d ts) nodes ts.length
  | 0, ts => expr_sz (fun f h => by cases h) ts
  | d + 1, ts => expr_sz (fun f h ts => by
      injection h with h
      subst h
      exact exprD_sz d ts) ts
theorem told_sz (ts : List Tk) : Sz (toldP ts) wR ts.length := by
  unfold toldP
  refine (name_sz ts).then fun _ r hr => (must_sz _ (by decide) r).then fun _ r1 h1 => (ref_sz r1).then fun _ r2 h2 => (refs_sz _ r2).then fun _ r3 h3 => Sz.ok ?_
  simp [wR, noEx, nodes, nodesL]; omega
theorem def_sz (ts : List Tk) : Sz (defP ts) wR ts.length := by
  unfold defP
  refine (name_sz ts).then fun _ r hr => (must_sz _ (by decide) r).then fun _ r1 h1 => (exprD_sz 12 r1).then fun _ r2 h2 => Sz.ok ?_
  simp [wR]; omega
theorem rels_sz : ∀ (n : Nat) (ts : List Tk), Sz (relsLoop n ts) wRs ts.length
  | 0, ts => Sz.ok (by simp [wRs])
  | n + 1, ts => by
    unfold relsLoop
    split
    · rename_i h
      have := nx_ne h (by decide)
      refine (told_sz _).then fun x r hr => (rels_sz n r).then fun l r' hr' => Sz.ok ?_
      simp [wRs]; omega
    · split
      · rename_i h
        have := nx_ne h (by decide)
        refine (def_sz _).then fun x r hr => (rels_sz n r).then fun l r' hr' => Sz.ok ?_
        simp [wRs]; omega
      · exact Sz.ok (by simp [wRs])
theorem types_sz : ∀ (n : Nat) (ts : List Tk), Sz (typesLoop n ts) wTs ts.length
  | 0, ts => Sz.ok (by simp [wTs])
  | n + 1, ts => by
    unfold typesLoop
    split
    · rename_i h
      have := nx_ne h (by decide)
      refine (name_sz _).then fun s r hr => (rels_sz _ r).then fun rs r1 h1 => (types_sz n r1).then fun l r' hr' => Sz.ok ?_
      simp [wTs]; omega
    · exact Sz.ok (by simp [wTs])
theorem tokL_len : ∀ (n : Nat) (l : Txt) (a b : Nat), l.length ≤ n → (tokL l a b).length ≤ l.length + 1 := by
  intro n
  induction n with
  | zero =>
    intro l a b h
    obtain rfl : l = [] := List.eq_nil_of_length_eq_zero (by omega)
    rw [tokL]; simp
  | succ n ih =>
    intro l a b h
    cases l with
    | nil => rw [tokL]; simp
    | cons c r =>
      have hr : r.length ≤ n := by simpa using h
      rw [tokL]
      by_cases h1 : c = 10
      · rw [if_pos h1]; have := ih r (a + 1) 1 hr; simp; omega
      · rw [if_neg h1]
        by_cases h2 : c = 32 ∨ c = 9
        · rw [if_pos h2]; have := ih r a (b + 1) hr; simp; omega
        · rw [if_neg h2]
          by_cases h3 : wordL (c :: r) = 0
          · rw [dif_pos h3]
            by_cases h4 : signT c = [63]
            · rw [if_pos h4]; simp
            · rw [if_neg h4]; have := ih r a (b + 1) hr; simp; omega
          · rw [dif_neg h3]
            have h5 : ((c :: r).drop (wordL (c :: r))).length ≤ n := by rw [List.length_drop, List.length_cons]; omega
            have h6 := ih ((c :: r).drop (wordL (c :: r))) a (b + wordL (c :: r)) h5
            rw [List.length_drop, List.length_cons] at h6
            simp only [List.length_cons]; omega
theorem parse_parts (l : Txt) : wTs (parseT l).1 ≤ 4097 := by
  unfold parseT
  split
  · simp [wTs]
  · rename_i hl
    have h1 : Sz (wholeP (tokL l 1 1)) wTs (tokL l 1 1).length := by
      unfold wholeP
      refine (types_sz _ _).then fun s r hr => ?_
      split
      · exact Sz.ok hr
      · exact Sz.no
    have h2 := tokL_len l.length l 1 1 (Nat.le_refl _)
    cases hw : wholeP (tokL l 1 1) with
    | ok s r => have := h1 s r hw; dsimp only; omega
    | no d => simp [wTs]
theorem showE_parts : ∀ (e : Ex) (m : Int), mayE e m = true → (showE e).length ≤ 33 * nodes e := by
  intro e
  refine Ex.all (P := fun e => ∀ m : Int, mayE e m = true → (showE e).length ≤ 33 * nodes e) (fun k n o ks ih m h => ?_) e
  unfold mayE at h
  by_cases hb : m = 0 ∨ k < 0 ∨ 4 < k
  · rw [if_pos hb] at h; cases h
  rw [if_neg hb] at h
  unfold showE nodes
  by_cases hk : k ≤ 1
  · rw [if_pos hk] at h
    simp only [Bool.and_eq_true, Bool.or_eq_true] at h
    obtain ⟨h1, _, h3⟩ := h
    have l1 := (nameL_len h1).2
    by_cases h0 : k = 0
    · rw [if_pos h0]; omega
    · rw [if_neg h0, if_pos (by omega)]
      have h4 : nameL o = true := h3.resolve_left (by simpa using h0)
      have l2 := (nameL_len h4).2
      simp; omega
  · rw [if_neg hk] at h
    rw [if_neg (by omega), if_neg (by omega)]
    simp only [Bool.and_eq_true, decide_eq_true_eq] at h
    obtain ⟨h1, h2⟩ := h
    obtain ⟨x, y, rfl⟩ : ∃ x y, ks = [x, y] := by
      match ks, h1 with
      | [a, b], _ => exact ⟨a, b, rfl⟩
    simp only [mayL, Bool.and_true, Bool.and_eq_true] at h2
    have e1 := ih x (by simp) (m - 1) h2.1
    have e2 := ih y (by simp) (m - 1) h2.2
    simp only [showAll, nodesL, List.getD_cons_zero, List.getD_cons_succ, List.length_append, List.length_cons, List.length_nil, opT_len]
    omega
theorem rfT_parts {x : Rf} (h : mayRf x = true) : (rfT x).length ≤ 33 := by
  unfold mayRf at h
  simp only [Bool.and_eq_true, Bool.or_eq_true] at h
  have l1 := (nameL_len h.1).2
  unfold rfT
  by_cases h2 : x.2 = []
  · rw [if_pos h2]; simp; omega
  · rw [if_neg h2]
    have h3 : nameL x.2 = true := h.2.resolve_left (by simpa using h2)
    have l2 := (nameL_len h3).2
    simp; omega
theorem rfsT_parts : ∀ (b : Bool) (l : List Rf), l.all mayRf = true → (rfsT b l).length ≤ 36 * l.length
  | _, [], _ => by simp [rfsT]
  | b, x :: r, h => by
    rw [List.all_cons, Bool.and_eq_true] at h
    have h1 := rfT_parts h.1
    have h2 := rfsT_parts false r h.2
    cases b <;> simp [rfsT] <;> omega
theorem rlT_parts {x : Rl} (h : mayR x = true) : (rlT x).length ≤ 66 * wR x := by
  unfold mayR at h
  simp only [Bool.and_eq_true] at h
  have l1 := (nameL_len h.1).2
  have l2 := rfsT_parts true x.refs h.2.1
  have l3 := nodes_pos x.expr
  unfold rlT wR
  by_cases h0 : x.refs.length = 0
  · rw [if_pos h0]
    have h4 : mayE x.expr 12 = true := by
      have := h.2.2
      rw [h0] at this
      simpa using this
    have l4 := showE_parts _ _ h4
    simp [dfW]; omega
  · rw [if_neg h0]
    simp [rlW]; omega
theorem rlsT_parts : ∀ l : List Rl, l.all mayR = true → (rlsT l).length ≤ 66 * wRs l
  | [], _ => by simp [rlsT]
  | x :: r, h => by
    rw [List.all_cons, Bool.and_eq_true] at h
    have h1 := rlT_parts h.1
    have h2 := rlsT_parts r h.2
    simp [rlsT, wRs]; omega
theorem scT_parts : ∀ s : Sc, mayS s = true → (scT s).length ≤ 66 * wTs s
  | [], _ => by simp [scT]
  | t :: r, h => by
    unfold mayS at h
    rw [List.all_cons, Bool.and_eq_true] at h
    have h2 := scT_parts r h.2
    have h1 := h.1
    unfold mayT at h1
    rw [Bool.and_eq_true] at h1
    have l1 := (nameL_len h1.1).2
    have l2 := rlsT_parts t.rels h1.2
    simp [scT, tyT, tyW, wTs]; omega
theorem few_text {s : Sc} (h : fewS s 300 = true) (hm : mayS s = true) : (scT s).length ≤ 500000 := by
  have h1 := few_parts h
  have h2 := scT_parts s hm
  omega
theorem parse_text (l : Txt) (hm : mayS (parseT l).1 = true) : (scT (parseT l).1).length ≤ 500000 := by
  have h1 := parse_parts l
  have h2 := scT_parts _ hm
  omega
theorem height_nodes : ∀ e : Ex, heightE e ≤ nodes e := by
  intro e
  refine Ex.all (P := fun e => heightE e ≤ nodes e) (fun k n o ks ih => ?_) e
  have hL : ∀ l : List Ex, (∀ x ∈ l, x ∈ ks) → heightL l ≤ nodesL l := by
    intro l
    induction l with
    | nil => intro _; simp [heightL]
    | cons x r ihr =>
      intro hs
      have h1 := ih x (hs x (List.mem_cons_self ..))
      have h2 := ihr (fun y hy => hs y (List.mem_cons_of_mem _ hy))
      unfold heightL nodesL
      omega
  have := hL ks (fun _ h => h)
  unfold heightE nodes
  omega
theorem weight_height {e : Ex} (h : weightE e 300 ≠ 0) : heightE e ≤ 1000000 := by
  have h1 := weightE_nn e 300 (by decide)
  have h2 := weight_nodes e 300 (by omega)
  have h3 := height_nodes e
  omega
end Go.Proofs.Ytpiaiibobjlipaa
namespace Go.Proofs.Ytpiaiibobjlipaa
open Go.ChangeShapes Go.WideShapes Go.ChangeAt Go.RowKit
set_option maxRecDepth 100000
section
variable {H : Type} {enc : TypeId × Value → H} {W : World}
abbrev noF : Nat → Prop := fun _ => False
theorem open_row {α : Type} {P : Program} {t e : TypeId} {k fuel : Nat} {R : World → (Nat → Prop) → α → List Value → Prop} {cs : List Value} {y : DataW H × List MemPlace} (ht : P.underlying t = some (.slice e)) (hk : P.cellsOf e = k) (hk0 : 0 < k)
    (hR : ∀ m, m < fuel → ∀ cs y, DataW.trod enc P W 0 (fun _ => true) true m e cs = some y → ∃ x, R W noF x cs) (h : DataW.trod enc P W 0 (fun _ => true) true fuel t cs = some y) :
    ∃ (A : Option Addr) (l : List α) (c : Nat), cs = [.slice A l.length c] ∧ RowAt k R W noF A l ∧ l.length ≤ 9223372036854775807 := by
  rcases DataW.trod_slice ht h with ⟨h1, _⟩ | ⟨a, len, cap, elems, rest, n, hn, h1, _, _, hlc, hcm, hlen, hel, _⟩
  · exact ⟨none, [], 0, h1, .inl rfl, by simp⟩
  · subst h1
    have each : ∀ i, i < len → ∃ p : α × List Value, W.cells? 0 (a.add (i * k)) k = some p.2 ∧ R W noF p.1 p.2 := by
      intro i hi
      have := hel i hi
      rw [hk, List.getElem?_eq_getElem (by omega)] at this
      obtain ⟨cs, hcs, hy⟩ := Option.bind_eq_some_iff.1 this
      obtain ⟨x, hx⟩ := hR n (by omega) cs _ hy
      exact ⟨(x, cs), hcs, hx⟩
    by_cases h0 : len = 0
    · subst h0; exact ⟨some a, [], cap, rfl, .inl rfl, by simp⟩
    haveI : Inhabited (α × List Value) := ⟨(each 0 (by omega)).choose⟩
    obtain ⟨f, hfo⟩ := Go.Deep.choose_lt each
    have hl : ((List.range len).map (fun i => (f i).1)).length = len := by simp
    refine ⟨some a, (List.range len).map (fun i => (f i).1), cap, by rw [hl], ?_, by rw [hl]; unfold maxLen at hcm; omega⟩
    · obtain ⟨b, off, spot⟩ := a
      have hspot : spot = none := by
        have h2 := (World.cells?_some (hfo 0 (by omega)).1).2.2 0 hk0
        have h3 := (World.cells?_some (hfo 0 (by omega)).1).2.1
        rw [List.getElem?_eq_getElem (by omega)] at h2
        simpa [Addr.add] using World.cell?_spot h2
      subst hspot
      have hc : ∀ i, i < len → ∀ j, j < k → W.cell? ⟨b, off + i * k + j, none⟩ = (f i).2[j]? := fun i hi j hj => by
        have := (World.cells?_some (hfo i hi).1).2.2 j hj
        rwa [add_plain, add_plain] at this
      have hb : b < W.heap.size := by
        have h2 := hc 0 (by omega) 0 hk0
        have h3 := (World.cells?_some (hfo 0 (by omega)).1).2.1
        rw [List.getElem?_eq_getElem (by omega)] at h2
        exact World.block_lt_of_cell? W _ h2
      refine .inr ⟨b, off, rfl, hb, fun h => h, fun j hj => ?_⟩
      rw [hl] at hj
      simp only [List.getElem_map, List.getElem_range]
      exact ⟨(f j).2, (hfo j hj).2, fun i hi => hc j hj i hi⟩
theorem struct2f {P : Program} {t : TypeId} {f0 f1 : Field} {fuel : Nat} {cs : List Value} {y : DataW H × List MemPlace} (ht : P.underlying t = some (.struct #[f0, f1])) (h : DataW.trod enc P W 0 (fun _ => true) true fuel t cs = some y) :
    ∃ y0 y1 n, fuel = n + 1 ∧ cs.length = P.cellsOf t ∧ DataW.trod enc P W 0 (fun _ => true) true n f0.type ((cs.drop f0.offset).take (P.cellsOf f0.type)) = some y0 ∧ DataW.trod enc P W 0 (fun _ => true) true n f1.type ((cs.drop f1.offset).take (P.cellsOf f1.type)) = some y1 := by
  obtain ⟨xs, n, hn, rfl, hl, hlen, hf⟩ := DataW.trod_struct ht h
  match xs, hlen with
  | [y0, y1], _ => exact ⟨y0, y1, n, hn, hl, by simpa using hf 0 f0 rfl, by simpa using hf 1 f1 rfl⟩
theorem struct3f {P : Program} {t : TypeId} {f0 f1 f2 : Field} {fuel : Nat} {cs : List Value} {y : DataW H × List MemPlace} (ht : P.underlying t = some (.struct #[f0, f1, f2])) (h : DataW.trod enc P W 0 (fun _ => true) true fuel t cs = some y) :
    ∃ y0 y1 y2 n, fuel = n + 1 ∧ cs.length = P.cellsOf t ∧ DataW.trod enc P W 0 (fun _ => true) true n f0.type ((cs.drop f0.offset).take (P.cellsOf f0.type)) = some y0 ∧ DataW.trod enc P W 0 (fun _ => true) true n f1.type ((cs.drop f1.offset).take (P.cellsOf f1.type)) = some y1 ∧
      DataW.trod enc P W 0 (fun _ => true) true n f2.type ((cs.drop f2.offset).take (P.cellsOf f2.type)) = some y2 := by
  obtain ⟨xs, n, hn, rfl, hl, hlen, hf⟩ := DataW.trod_struct ht h
  match xs, hlen with
  | [y0, y1, y2], _ => exact ⟨y0, y1, y2, n, hn, hl, by simpa using hf 0 f0 rfl, by simpa using hf 1 f1 rfl, by simpa using hf 2 f2 rfl⟩
theorem struct4f {P : Program} {t : TypeId} {f0 f1 f2 f3 : Field} {fuel : Nat} {cs : List Value} {y : DataW H × List MemPlace} (ht : P.underlying t = some (.struct #[f0, f1, f2, f3])) (h : DataW.trod enc P W 0 (fun _ => true) true fuel t cs = some y) :
    ∃ y0 y1 y2 y3 n, fuel = n + 1 ∧ cs.length = P.cellsOf t ∧ DataW.trod enc P W 0 (fun _ => true) true n f0.type ((cs.drop f0.offset).take (P.cellsOf f0.type)) = some y0 ∧ DataW.trod enc P W 0 (fun _ => true) true n f1.type ((cs.drop f1.offset).take (P.cellsOf f1.type)) = some y1 ∧
      DataW.trod enc P W 0 (fun _ => true) true n f2.type ((cs.drop f2.offset).take (P.cellsOf f2.type)) = some y2 ∧ DataW.trod enc P W 0 (fun _ => true) true n f3.type ((cs.drop f3.offset).take (P.cellsOf f3.type)) = some y3 := by
  obtain ⟨xs, n, hn, rfl, hl, hlen, hf⟩ := DataW.trod_struct ht h
  match xs, hlen with
  | [y0, y1, y2, y3], _ => exact ⟨y0, y1, y2, y3, n, hn, hl, by simpa using hf 0 f0 rfl, by simpa using hf 1 f1 rfl, by simpa using hf 2 f2 rfl, by simpa using hf 3 f3 rfl⟩
theorem open_txt {n : Nat} {cs : List Value} {y : DataW H × List MemPlace} (h : DataW.trod enc Try.prog W 0 (fun _ => true) true n 9 cs = some y) : ∃ l : Txt, cs = [strV l] ∧ small l := by
  obtain ⟨s, hs, _, hm⟩ := DataW.trod_string Try.underlying9 h
  refine ⟨s.data.toList, hs, ?_⟩
  unfold maxLen at hm
  unfold small
  rw [size_list]; exact hm
theorem open_fit {n : Nat} {cs : List Value} {y : DataW H × List MemPlace} (h : DataW.trod enc Try.prog W 0 (fun _ => true) true n 3 cs = some y) : ∃ z : Int, cs = [.int .i64 z] ∧ fitsI z := by
  obtain ⟨z, hz, _, wz⟩ := DataW.trod_int Try.underlying3 h
  exact ⟨z, hz, by unfold fitsI; simpa [Lit.wf, IntKind.min, IntKind.max, IntKind.signed, IntKind.bits] using wz⟩
theorem open_ex : ∀ (n : Nat) (cs : List Value) (y : DataW H × List MemPlace), DataW.trod enc Try.prog W 0 (fun _ => true) true n 35 cs = some y → ∃ e : Ex, ExAt W noF e cs := by
  intro n
  induction n using Nat.strongRecOn with
  | _ n ih =>
    intro cs y h
    have ci : Try.prog.cellsOf 3 = 1 := by kernel_rfl
    have cs1 : Try.prog.cellsOf 9 = 1 := by kernel_rfl
    have ck : Try.prog.cellsOf 33 = 1 := by kernel_rfl
    obtain ⟨y0, y1, y2, y3, m, hm, hl, h0, h1, h2, h3⟩ := struct4f Try.underlying35 h
    have hl4 : cs.length = 4 := by rw [hl]; kernel_rfl
    obtain ⟨v0, v1, v2, v3, rfl⟩ : ∃ v0 v1 v2 v3, cs = [v0, v1, v2, v3] := by
      match cs, hl4 with
      | [a, b, c, d], _ => exact ⟨a, b, c, d, rfl⟩
    simp only [ci, cs1, ck, List.drop_zero, List.take_succ_cons, List.take_zero, List.drop_succ_cons] at h0 h1 h2 h3
    obtain ⟨z, e0, b0⟩ := open_fit h0
    obtain ⟨a, e1, b1⟩ := open_txt h1
    obtain ⟨o, e2, b2⟩ := open_txt h2
    obtain ⟨A, ks, c, e3, hr, b3⟩ := open_row (k := 4) (R := ExAt) Try.underlying33 (by kernel_rfl) (by decide) (fun j hj cs y hy => ih j (by omega) cs y hy) h3
    injection e0 with e0 _
    injection e1 with e1 _
    injection e2 with e2 _
    injection e3 with e3 _
    subst e0 e1 e2 e3
    exact ⟨.mk z a o ks, ExAt.of_row ⟨b0, b1, b2, b3⟩ hr⟩
theorem open_rf (n : Nat) (cs : List Value) (y : DataW H × List MemPlace) (h : DataW.trod enc Try.prog W 0 (fun _ => true) true n 78 cs = some y) : ∃ x : Rf, RfAt W noF x cs := by
  have cs1 : Try.prog.cellsOf 9 = 1 := by kernel_rfl
  obtain ⟨y0, y1, m, hm, hl, h0, h1⟩ := struct2f Try.underlying78 h
  have hl2 : cs.length = 2 := by rw [hl]; kernel_rfl
  obtain ⟨v0, v1, rfl⟩ : ∃ v0 v1, cs = [v0, v1] := by
    match cs, hl2 with
    | [a, b], _ => exact ⟨a, b, rfl⟩
  simp only [cs1, List.drop_zero, List.take_succ_cons, List.take_zero, List.drop_succ_cons] at h0 h1
  obtain ⟨a, e0, b0⟩ := open_txt h0
  obtain ⟨b, e1, b1⟩ := open_txt h1
  injection e0 with e0 _
  injection e1 with e1 _
  subst e0 e1
  exact ⟨(a, b), rfl, b0, b1⟩
theorem open_rl (n : Nat) (cs : List Value) (y : DataW H × List MemPlace) (h : DataW.trod enc Try.prog W 0 (fun _ => true) true n 48 cs = some y) : ∃ x : Rl, RlAt W noF x cs := by
  have cs1 : Try.prog.cellsOf 9 = 1 := by kernel_rfl
  have cr : Try.prog.cellsOf 46 = 1 := by kernel_rfl
  have ce : Try.prog.cellsOf 35 = 4 := by kernel_rfl
  obtain ⟨y0, y1, y2, m, hm, hl, h0, h1, h2⟩ := struct3f Try.underlying48 h
  have hl6 : cs.length = 6 := by rw [hl]; kernel_rfl
  obtain ⟨v0, v1, v2, v3, v4, v5, rfl⟩ : ∃ v0 v1 v2 v3 v4 v5, cs = [v0, v1, v2, v3, v4, v5] := by
    match cs, hl6 with
    | [a, b, c, d, e, f], _ => exact ⟨a, b, c, d, e, f, rfl⟩
  simp only [cs1, cr, ce, List.drop_zero, List.take_succ_cons, List.take_zero, List.drop_succ_cons] at h0 h1 h2
  obtain ⟨a, e0, b0⟩ := open_txt h0
  obtain ⟨A, rs, c, e1, hr, b1⟩ := open_row (k := 2) (R := RfAt) Try.underlying46 (by kernel_rfl) (by decide) (fun j _ cs y hy => open_rf j cs y hy) h1
  obtain ⟨e, he⟩ := open_ex _ _ _ h2
  injection e0 with e0 _
  injection e1 with e1 _
  subst e0 e1
  exact ⟨⟨a, rs, e⟩, A, c, _, rfl, ⟨b0, b1⟩, hr, he⟩
theorem open_ty (n : Nat) (cs : List Value) (y : DataW H × List MemPlace) (h : DataW.trod enc Try.prog W 0 (fun _ => true) true n 45 cs = some y) : ∃ x : Ty, TyAt W noF x cs := by
  have cs1 : Try.prog.cellsOf 9 = 1 := by kernel_rfl
  have cr : Try.prog.cellsOf 43 = 1 := by kernel_rfl
  obtain ⟨y0, y1, m, hm, hl, h0, h1⟩ := struct2f Try.underlying45 h
  have hl2 : cs.length = 2 := by rw [hl]; kernel_rfl
  obtain ⟨v0, v1, rfl⟩ : ∃ v0 v1, cs = [v0, v1] := by
    match cs, hl2 with
    | [a, b], _ => exact ⟨a, b, rfl⟩
  simp only [cs1, cr, List.drop_zero, List.take_succ_cons, List.take_zero, List.drop_succ_cons] at h0 h1
  obtain ⟨a, e0, b0⟩ := open_txt h0
  obtain ⟨A, rs, c, e1, hr, b1⟩ := open_row (k := 6) (R := RlAt) Try.underlying43 (by kernel_rfl) (by decide) (fun j _ cs y hy => open_rl j cs y hy) h1
  injection e0 with e0 _
  injection e1 with e1 _
  subst e0 e1
  exact ⟨⟨a, rs⟩, A, c, rfl, ⟨b0, b1⟩, hr⟩
theorem open_expr {v : Value} {d : DataW H} {ps : List MemPlace} {r : Reach} {b0 : Nat} (hval : Value.okWide Try.prog W r b0 35 v) (h : DataW.Trod enc Try.prog W 0 (fun _ => true) true 35 v d ps) :
    ∃ (e : Ex) (cs : List Value), v = .agg cs.toArray ∧ ExAt W noF e cs := by
  obtain ⟨cs, rfl, hsz⟩ := okWide_struct Try.underlying35 hval
  obtain ⟨fuel, hf⟩ := h
  have hf' : DataW.trod enc Try.prog W 0 (fun _ => true) true fuel 35 cs.toList = some (d, ps) := by simpa [Value.cells] using hf
  obtain ⟨e, he⟩ := open_ex _ _ _ hf'
  exact ⟨e, cs.toList, by simp, he⟩
theorem open_schema {v : Value} {d : DataW H} {ps : List MemPlace} {r : Reach} {b0 : Nat} (hval : Value.okWide Try.prog W r b0 25 v) (h : DataW.Trod enc Try.prog W 0 (fun _ => true) true 25 v d ps) :
    ∃ (A : Option Addr) (s : Sc) (c : Nat), v = .agg #[.slice A s.length c] ∧ ScAt W noF A s ∧ s.length ≤ 9223372036854775807 := by
  obtain ⟨cs, rfl, hsz⟩ := okWide_struct Try.underlying25 hval
  obtain ⟨fuel, hf⟩ := h
  have hf' : DataW.trod enc Try.prog W 0 (fun _ => true) true fuel 25 cs.toList = some (d, ps) := by simpa [Value.cells] using hf
  have hl1 : cs.toList.length = 1 := by rw [Array.length_toList, hsz]; kernel_rfl
  obtain ⟨v0, hcs⟩ : ∃ v0, cs.toList = [v0] := by
    match cs.toList, hl1 with
    | [a], _ => exact ⟨a, rfl⟩
  have ecs : cs = #[v0] := Array.toList_inj.1 hcs
  subst ecs
  obtain ⟨y0, n, _, _, h0⟩ := trod_struct1 Try.underlying25 hf'
  have ct : Try.prog.cellsOf 23 = 1 := by kernel_rfl
  simp only [ct, List.drop_zero, List.take_succ_cons, List.take_zero] at h0
  obtain ⟨A, s, c, e0, hr, b⟩ := open_row (k := 2) (R := TyAt) Try.underlying23 (by kernel_rfl) (by decide) (fun j _ cs y hy => open_ty j cs y hy) h0
  injection e0 with e0 _
  subst e0
  exact ⟨A, s, c, rfl, hr, b⟩
end
end Go.Proofs.Ytpiaiibobjlipaa
namespace Go.Proofs.Ytpiaiibobjlipaa
open Go.RowKit
theorem pprint_text (s : Sc) (W : World) (F : Nat → Prop) (A : Option Addr) (c : Nat) (hs : ScAt W F A s) (hl : s.length ≤ 9223372036854775807) (hm : mayS s = true) (hlen : (scT s).length ≤ 500000) :
    Calls Try.prog 14 #[.agg #[.slice A s.length c]] W fun r w' => r = .returned (strV (scT s)) ∧ Below W.heap.size W w' := by
  have h := pprint_any s W F A c hs hl hlen
  unfold printT at h
  rw [if_pos hm] at h; exact h
set_option maxRecDepth 100000 in
set_option maxHeartbeats 2000000 in
theorem langBack_walk (s : Sc) (A : Option Addr) (c : Nat) (W : World) (hs : ScAt W noF A s) (hl : s.length ≤ 9223372036854775807) :
    Calls Try.prog 5 #[.agg #[.slice A s.length c]] W fun e w' => e = .returned (.bool true) ∧ Below W.heap.size W w' := by
  obtain ⟨W1, hW⟩ : ∃ W1, W1 = W.alloc (.cells #[.slice A s.length c] 25) := ⟨_, rfl⟩
  have HK0 : Hid (Blk W1 W.heap.size [.slice A s.length c] 25) := by rw [hW]; exact Lib.hid (Blk.new W _ _)
  have HB0 : Hid (Below W.heap.size W W1) := by rw [hW]; exact Lib.hid ((Below.refl W.heap.size W).alloc (Nat.le_refl _) _)
  have HW := Lib.hid hW
  have HX : Hid (∀ w, Below W1.heap.size W1 w → w.cell? ⟨W.heap.size, 0, none⟩ = some (.slice A s.length c)) := Lib.hid (fun w hw => (HK0.out.below hw HK0.out.lt).cell (i := 0) (by simp))
  have HS : Hid (∀ w, Below W1.heap.size W1 w → ScAt w noF A s) := Lib.hid (fun w hw => hs.below (HB0.out.trans (hw.mono HB0.out.size)))
  have HA := Lib.hid (awake_any W1)
  clear hW hs
  go_enter Try.func5, Try.ntmps5
  go_wp2_with fail
  rw [← HW.out]
  refine HA.out.mono ?_
  rintro e w1 ⟨rfl, hb1⟩
  have HB1 := Lib.hid hb1
  have x1 := HX.out w1 hb1
  have HF := Lib.hid (few_any s 300 w1 noF A c (HS.out w1 hb1) hl (by omega))
  obtain ⟨q, hq⟩ : ∃ q, fewS s 300 = q := ⟨_, rfl⟩
  rw [hq] at HF
  have HQ := Lib.hid hq
  clear hb1 hq HA
  cases q
  · go_wp2_with fail
    refine HF.out.mono ?_
    rintro e w2 ⟨rfl, hb2⟩
    go_wp2_with fail
    go_ret
    have hb := hop HB1.out hb2
    exact ⟨rfl, HB0.out.trans (hb.mono HB0.out.size)⟩
  go_wp2_with fail
  refine HF.out.mono ?_
  rintro e w2 ⟨rfl, hb2⟩
  have HB2 := Lib.hid (hop HB1.out hb2)
  have x2 := HX.out w2 HB2.out
  have HM := Lib.hid (pmay_any s w2 noF A c (HS.out w2 HB2.out) hl)
  obtain ⟨q, hq⟩ : ∃ q, mayS s = q := ⟨_, rfl⟩
  rw [hq] at HM
  have HQM := Lib.hid hq
  clear hb2 hq HF x1
  cases q
  · go_wp2_with fail
    refine HM.out.mono ?_
    rintro e w3 ⟨rfl, hb3⟩
    go_wp2_with fail
    go_ret
    have hb := hop HB2.out hb3
    exact ⟨rfl, HB0.out.trans (hb.mono HB0.out.size)⟩
  go_wp2_with fail
  refine HM.out.mono ?_
  rintro e w3 ⟨rfl, hb3⟩
  have HB3 := Lib.hid (hop HB2.out hb3)
  have x3 := HX.out w3 HB3.out
  have HP := Lib.hid (pprint_text s w3 noF A c (HS.out w3 HB3.out) hl HQM.out (few_text HQ.out HQM.out))
  have HPP : Hid ((scT s).length ≤ 4096 → parseT (scT s) = (normS s, (0, 0, 0))) := Lib.hid (parse_print HQM.out)
  have HTL := Lib.hid (few_text HQ.out HQM.out)
  obtain ⟨t, ht⟩ : ∃ t, t = scT s := ⟨_, rfl⟩
  rw [← ht] at HP HPP HTL
  clear hb3 HM x2 ht
  by_cases hlen : 4096 < t.length
  · have hd : (4096 : Int) < (t.length : Int) := by omega
    have hdd : decide (4096 < t.length) = true := decide_eq_true hlen
    clear hlen
    go_wp2_with fail
    refine HP.out.mono ?_
    rintro e w4 ⟨rfl, hb4⟩
    go_wp2_with fail
    go_ret
    have hb := hop HB3.out hb4
    exact ⟨rfl, HB0.out.trans (hb.mono HB0.out.size)⟩
  have hd : (t.length : Int) ≤ 4096 := by omega
  have hdd : decide (4096 < t.length) = false := decide_eq_false hlen
  have HPA := Lib.hid (fun w => parse_any ⟨t.toArray⟩ w (by have := HTL.out; simp [ByteArray.size]; omega))
  have e1 : (⟨t.toArray⟩ : ByteArray).data.toList = t := by simp
  rw [e1, HPP.out (by omega)] at HPA
  clear e1 hlen HPP
  go_wp2_with fail
  refine HP.out.mono ?_
  rintro e w4 ⟨rfl, hb4⟩
  have HB4 := Lib.hid (hop HB3.out hb4)
  have x4 := HX.out w4 HB4.out
  clear hb4 x3
  go_wp2_with fail
  refine (HPA.out w4).mono ?_
  rintro e w5 ⟨A1, c1, rfl, hs5, hn5, hb5⟩
  dsimp only at hs5 hn5 ⊢
  have HB5 := Lib.hid (hop HB4.out hb5)
  have HS5 := Lib.hid hs5
  have HE : Hid (eqS (normS s) s = true) := Lib.hid (eqS_norm HQM.out)
  obtain ⟨n, hn⟩ : ∃ n, n = normS s := ⟨_, rfl⟩
  rw [← hn] at HS5 HE hn5 ⊢
  obtain ⟨u5, hu5⟩ : ∃ u5, u5 = (w5.alloc (.cells #[.slice A1 n.length c1] 25)).alloc (.cells #[.int .i64 0, .int .i64 0, .int .i64 0] 28) := ⟨_, rfl⟩
  have hbu : Below w5.heap.size w5 u5 := by rw [hu5]; exact ((Below.refl _ _).alloc (Nat.le_refl _) _).alloc (by simp) _
  have HXB : Hid (Blk u5 w5.heap.size [.slice A1 n.length c1] 25) := by rw [hu5]; exact Lib.hid ((Blk.new w5 _ _).alloc _)
  have HXE : Hid (Blk u5 (w5.heap.size + 1) [.int .i64 0, .int .i64 0, .int .i64 0] 28) := by
    rw [hu5]
    have := Blk.new (w5.alloc (.cells #[.slice A1 n.length c1] 25)) [.int .i64 0, .int .i64 0, .int .i64 0] 28
    rw [World.size_alloc] at this
    exact Lib.hid this
  have HBU := Lib.hid (hop HB5.out hbu)
  have HSC := Lib.hid (schemas_any n s u5 _ _ A1 A c1 c (ScAt.below hbu HS5.out) (HS.out u5 HBU.out) (by omega))
  rw [HE.out] at HSC
  have a0 := HXB.out.cell (i := 0) (by simp)
  have b0 := HX.out u5 HBU.out
  simp only [List.getElem_cons_zero] at a0
  have HU := Lib.hid hu5
  rw [hu5] at a0 b0
  clear hs5 hb5 hu5 hbu hn x4 HP HPA
  go_wp2_with fail
  rw [← HU.out]
  refine HSC.out.mono ?_
  rintro e w6 ⟨rfl, hb6⟩
  have g2 := (HXE.out.below hb6 HXE.out.lt).cell (i := 2) (by simp)
  simp only [List.getElem_cons_succ, List.getElem_cons_zero] at g2
  have HB6 := Lib.hid (hop HBU.out hb6)
  clear hb6
  go_wp2_with fail
  go_ret
  exact ⟨rfl, HB0.out.trans (HB6.out.mono HB0.out.size)⟩
end Go.Proofs.Ytpiaiibobjlipaa
