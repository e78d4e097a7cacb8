/-
  Expressions and schemas as Lean data, and how they lie in memory, outside some blocks. No program is named.
  How many parts an expression has (conciergelaw11's weight), counted down. Conditions: the expression is there; the number fits an int.
  What the document's Name comes to. Condition: a string's length fits an int.
  How high an expression is, and may it be (conciergeref11's Height, MayExpr)? Conditions: it is there; it is at most 1,000,000 high; what it may have is from 0 to 1,000.
  The grammar as Lean functions over tokens: tokens of a text; atoms, terms, expressions, refs, relations, types; the first fault. No program is named.
  The tokens of a text, by fuel: for texts written out. No program is named.
  'append(l, x)' of a struct just laid, onto a row of the call's own. No program is named.
-/
import Derived.Test.YtehabjiacgibpaaCFlat
import Derived.Maps.AppendAt
import Derived.OwnWalk
namespace Go.Proofs.Ytehabjiacgibpaa
open Go.RowKit
inductive Ex where
  | mk (kind : Int) (name over : Txt) (kids : List Ex)
def Ex.kind : Ex → Int | .mk k _ _ _ => k
def Ex.name : Ex → Txt | .mk _ n _ _ => n
def Ex.over : Ex → Txt | .mk _ _ o _ => o
def Ex.kids : Ex → List Ex | .mk _ _ _ ks => ks
mutual
def nodes : Ex → Nat
  | .mk _ _ _ ks => nodesL ks + 1
def nodesL : List Ex → Nat
  | [] => 0
  | k :: r => nodes k + nodesL r
end
mutual
theorem Ex.all {P : Ex → Prop} (h : ∀ k n o ks, (∀ x ∈ ks, P x) → P (.mk k n o ks)) : ∀ e, P e
  | .mk k n o ks => h k n o ks (Ex.allL h ks)
theorem Ex.allL {P : Ex → Prop} (h : ∀ k n o ks, (∀ x ∈ ks, P x) → P (.mk k n o ks)) : ∀ ks : List Ex, ∀ x ∈ ks, P x
  | [], _, hx => by cases hx
  | k :: r, x, hx => (List.mem_cons.1 hx).elim (fun e => e ▸ Ex.all h k) (Ex.allL h r x)
end
def small (l : Txt) : Prop := l.length ≤ 9223372036854775807
def fitsI (k : Int) : Prop := -9223372036854775808 ≤ k ∧ k ≤ 9223372036854775807
mutual
def ExAt (W : World) (F : Nat → Prop) : Ex → List Value → Prop
  | .mk k n o ks, cs => ∃ A c, cs = [.int .i64 k, strV n, strV o, .slice A ks.length c] ∧ (fitsI k ∧ small n ∧ small o ∧ ks.length ≤ 9223372036854775807) ∧
      (ks = [] ∨ ∃ b off, A = some ⟨b, off, none⟩ ∧ b < W.heap.size ∧ ¬ F b ∧ KidsAt W F b off ks)
def KidsAt (W : World) (F : Nat → Prop) (b : Nat) : Nat → List Ex → Prop
  | _, [] => True
  | off, e :: r => (∃ cs, ExAt W F e cs ∧ ∀ i, i < 4 → W.cell? ⟨b, off + i, none⟩ = cs[i]?) ∧ KidsAt W F b (off + 4) r
end
theorem ExAt.len {W : World} {F : Nat → Prop} {e : Ex} {cs : List Value} (h : ExAt W F e cs) : cs.length = 4 := by
  obtain ⟨k, n, o, ks⟩ := e
  unfold ExAt at h
  obtain ⟨A, c, rfl, _⟩ := h
  rfl
theorem KidsAt.get {W : World} {F : Nat → Prop} {b : Nat} : ∀ {ks : List Ex} {off : Nat}, KidsAt W F b off ks → ∀ j (h : j < ks.length), ∃ cs, ExAt W F ks[j] cs ∧ ∀ i, i < 4 → W.cell? ⟨b, off + j * 4 + i, none⟩ = cs[i]?
  | [], _, _, j, h => absurd h (by simp)
  | e :: r, off, hk, 0, _ => by
    unfold KidsAt at hk
    simpa using hk.1
  | e :: r, off, hk, j + 1, h => by
    unfold KidsAt at hk
    obtain ⟨cs, h1, h2⟩ := KidsAt.get hk.2 j (by simpa using h)
    refine ⟨cs, h1, fun i hi => ?_⟩
    rw [← h2 i hi]
    congr 2
    omega
theorem KidsAt.of {W : World} {F : Nat → Prop} {b : Nat} : ∀ {ks : List Ex} {off : Nat}, (∀ j (h : j < ks.length), ∃ cs, ExAt W F ks[j] cs ∧ ∀ i, i < 4 → W.cell? ⟨b, off + j * 4 + i, none⟩ = cs[i]?) → KidsAt W F b off ks
  | [], _, _ => by unfold KidsAt; trivial
  | e :: r, off, h => by
    unfold KidsAt
    refine ⟨?_, KidsAt.of (fun j hj => ?_)⟩
    · obtain ⟨cs, h1, h2⟩ := h 0 (by simp)
      exact ⟨cs, h1, fun i hi => by simpa using h2 i hi⟩
    obtain ⟨cs, h1, h2⟩ := h (j + 1) (by simpa using hj)
    refine ⟨cs, h1, fun i hi => ?_⟩
    rw [← h2 i hi]
    congr 2
    omega
theorem Spared.cellOf {W W' : World} {F : Nat → Prop} (hs : Spared W W' F) {b : Nat} (hb : b < W.heap.size) (hF : ¬ F b) (o : Nat) : W'.cell? ⟨b, o, none⟩ = W.cell? ⟨b, o, none⟩ := by
  have := hs.block b hb hF
  simp [World.cell?, this]
theorem ExAt.moved {W W' : World} {F G : Nat → Prop} (hs : Spared W W' F) (hG : ∀ i, G i → F i ∨ W.heap.size ≤ i) : ∀ (e : Ex) (cs : List Value), ExAt W F e cs → ExAt W' G e cs := by
  intro e
  refine Ex.all (P := fun e => ∀ cs, ExAt W F e cs → ExAt W' G e cs) (fun k n o ks ih cs h => ?_) e
  unfold ExAt at h ⊢
  obtain ⟨A, c, rfl, hb, h⟩ := h
  refine ⟨A, c, rfl, hb, ?_⟩
  rcases h with h | ⟨b, off, rfl, hlt, hF, hk⟩
  · exact .inl h
  · refine .inr ⟨b, off, rfl, Nat.lt_of_lt_of_le hlt hs.size, fun hg => (hG b hg).elim hF (fun h => by omega), KidsAt.of (fun j hj => ?_)⟩
    obtain ⟨cs, h1, h2⟩ := hk.get j hj
    exact ⟨cs, ih _ (List.getElem_mem hj) cs h1, fun i hi => by rw [hs.cellOf hlt hF]; exact h2 i hi⟩
theorem ExAt.below {W W' : World} {F : Nat → Prop} (hb : Below W.heap.size W W') {e : Ex} {cs : List Value} (h : ExAt W F e cs) : ExAt W' F e cs :=
  ExAt.moved (Spared.of_below hb F) (fun _ h => .inl h) e cs h
def RowAt {α : Type} (n : Nat) (R : World → (Nat → Prop) → α → List Value → Prop) (W : World) (F : Nat → Prop) (A : Option Addr) (l : List α) : Prop :=
  l = [] ∨ ∃ b off, A = some ⟨b, off, none⟩ ∧ b < W.heap.size ∧ ¬ F b ∧ ∀ j (h : j < l.length), ∃ cs, R W F l[j] cs ∧ ∀ i, i < n → W.cell? ⟨b, off + j * n + i, none⟩ = cs[i]?
theorem RowAt.moved {α : Type} {n : Nat} {R : World → (Nat → Prop) → α → List Value → Prop} {W W' : World} {F G : Nat → Prop} {A : Option Addr} {l : List α} (hs : Spared W W' F) (hG : ∀ i, G i → F i ∨ W.heap.size ≤ i)
    (hR : ∀ x ∈ l, ∀ cs, R W F x cs → R W' G x cs) (h : RowAt n R W F A l) : RowAt n R W' G A l := by
  rcases h with h | ⟨b, off, rfl, hlt, hF, hk⟩
  · exact .inl h
  · refine .inr ⟨b, off, rfl, Nat.lt_of_lt_of_le hlt hs.size, fun hg => (hG b hg).elim hF (fun h => by omega), fun j hj => ?_⟩
    obtain ⟨cs, h1, h2⟩ := hk j hj
    exact ⟨cs, hR _ (List.getElem_mem hj) cs h1, fun i hi => by rw [hs.cellOf hlt hF]; exact h2 i hi⟩
theorem ExAt.row {W : World} {F : Nat → Prop} {k : Int} {n o : Txt} {ks : List Ex} {cs : List Value} (h : ExAt W F (.mk k n o ks) cs) : ∃ A c, cs = [.int .i64 k, strV n, strV o, .slice A ks.length c] ∧ (fitsI k ∧ small n ∧ small o ∧ ks.length ≤ 9223372036854775807) ∧ RowAt 4 ExAt W F A ks := by
  unfold ExAt at h
  obtain ⟨A, c, h1, h2, h3⟩ := h
  refine ⟨A, c, h1, h2, ?_⟩
  rcases h3 with h3 | ⟨b, off, rfl, hlt, hF, hk⟩
  · exact .inl h3
  · exact .inr ⟨b, off, rfl, hlt, hF, fun j hj => hk.get j hj⟩
theorem ExAt.of_row {W : World} {F : Nat → Prop} {k : Int} {n o : Txt} {ks : List Ex} {A : Option Addr} {c : Nat} (hb : fitsI k ∧ small n ∧ small o ∧ ks.length ≤ 9223372036854775807) (h : RowAt 4 ExAt W F A ks) : ExAt W F (.mk k n o ks) [.int .i64 k, strV n, strV o, .slice A ks.length c] := by
  unfold ExAt
  refine ⟨A, c, rfl, hb, ?_⟩
  rcases h with h | ⟨b, off, rfl, hlt, hF, hk⟩
  · exact .inl h
  · exact .inr ⟨b, off, rfl, hlt, hF, KidsAt.of hk⟩
abbrev Rf := Txt × Txt
structure Rl where
  name : Txt
  refs : List Rf
  expr : Ex
structure Ty where
  name : Txt
  rels : List Rl
abbrev Sc := List Ty
def RfAt (_ : World) (_ : Nat → Prop) (x : Rf) (cs : List Value) : Prop := cs = [strV x.1, strV x.2] ∧ small x.1 ∧ small x.2
def RlAt (W : World) (F : Nat → Prop) (x : Rl) (cs : List Value) : Prop := ∃ A c es, cs = strV x.name :: .slice A x.refs.length c :: es ∧ (small x.name ∧ x.refs.length ≤ 9223372036854775807) ∧ RowAt 2 RfAt W F A x.refs ∧ ExAt W F x.expr es
def TyAt (W : World) (F : Nat → Prop) (x : Ty) (cs : List Value) : Prop := ∃ A c, cs = [strV x.name, .slice A x.rels.length c] ∧ ((small x.name ∧ x.rels.length ≤ c) ∧ x.rels.length ≤ 9223372036854775807) ∧ RowAt 6 RlAt W F A x.rels
def ScAt (W : World) (F : Nat → Prop) (A : Option Addr) (s : Sc) : Prop := RowAt 2 TyAt W F A s
section
variable {W W' : World} {F G : Nat → Prop}
theorem RlAt.moved (hs : Spared W W' F) (hG : ∀ i, G i → F i ∨ W.heap.size ≤ i) {x : Rl} {cs : List Value} (h : RlAt W F x cs) : RlAt W' G x cs := by
  obtain ⟨A, c, es, h1, h2, h3, h4⟩ := h
  exact ⟨A, c, es, h1, h2, h3.moved hs hG (fun _ _ _ h => h), ExAt.moved hs hG _ _ h4⟩
theorem TyAt.moved (hs : Spared W W' F) (hG : ∀ i, G i → F i ∨ W.heap.size ≤ i) {x : Ty} {cs : List Value} (h : TyAt W F x cs) : TyAt W' G x cs := by
  obtain ⟨A, c, h1, h2, h3⟩ := h
  exact ⟨A, c, h1, h2, h3.moved hs hG (fun _ _ _ h => h.moved hs hG)⟩
theorem ScAt.moved (hs : Spared W W' F) (hG : ∀ i, G i → F i ∨ W.heap.size ≤ i) {A : Option Addr} {s : Sc} (h : ScAt W F A s) : ScAt W' G A s :=
  RowAt.moved hs hG (fun _ _ _ h => h.moved hs hG) h
theorem ScAt.below (hb : Below W.heap.size W W') {A : Option Addr} {s : Sc} (h : ScAt W F A s) : ScAt W' F A s := h.moved (Spared.of_below hb F) (fun _ h => .inl h)
theorem RlAt.below (hb : Below W.heap.size W W') {x : Rl} {cs : List Value} (h : RlAt W F x cs) : RlAt W' F x cs := h.moved (Spared.of_below hb F) (fun _ h => .inl h)
theorem TyAt.below (hb : Below W.heap.size W W') {x : Ty} {cs : List Value} (h : TyAt W F x cs) : TyAt W' F x cs := h.moved (Spared.of_below hb F) (fun _ h => .inl h)
end
end Go.Proofs.Ytehabjiacgibpaa
namespace Go.Proofs.Ytehabjiacgibpaa
open Go.RowKit
def ExFour (W : World) (b o : Nat) (k : Int) (n v : Txt) (A : Option Addr) (m c : Nat) : Prop :=
  W.cell? ⟨b, o, none⟩ = some (.int .i64 k) ∧ W.cell? ⟨b, o + 1, none⟩ = some (strV n) ∧ W.cell? ⟨b, o + 2, none⟩ = some (strV v) ∧ W.cell? ⟨b, o + 3, none⟩ = some (.slice A m c)
theorem RowAt.kid {W : World} {F : Nat → Prop} {A : Option Addr} {ks : List Ex} (h : RowAt 4 ExAt W F A ks) {j : Nat} (hj : j < ks.length) :
    ∃ b off k n o A' m c, A = some ⟨b, off, none⟩ ∧ ExAt W F ks[j] [.int .i64 k, strV n, strV o, .slice A' m c] ∧ ∀ W', Below W.heap.size W W' → ExFour W' b (off + j * 4) k n o A' m c := by
  rcases h with rfl | ⟨b, off, rfl, hb, _, hk⟩
  · simp at hj
  · obtain ⟨cs, h1, h2⟩ := hk j hj
    rcases hx : ks[j] with ⟨k, n, o, xs⟩
    rw [hx] at h1
    obtain ⟨A', c, rfl, _, _⟩ := h1.row
    refine ⟨b, off, k, n, o, A', xs.length, c, rfl, h1, fun W' hW => ?_⟩
    have hc : ∀ i, i < 4 → W'.cell? ⟨b, off + j * 4 + i, none⟩ = [Value.int .i64 k, strV n, strV o, .slice A' xs.length c][i]? := fun i hi => (hW.cell (p := ⟨b, off + j * 4 + i, none⟩) hb).trans (h2 i hi)
    exact ⟨hc 0 (by decide), hc 1 (by decide), hc 2 (by decide), hc 3 (by decide)⟩
mutual
def weightE : Ex → Int → Int
  | .mk _ _ _ ks, m => if m < ks.length then 0 else weightL ks (m - 1)
def weightL : List Ex → Int → Int
  | [], m => m
  | k :: r, m => if 0 < m then weightL r (weightE k m) else m
end
theorem weightE_le : ∀ (e : Ex) (m : Int), weightE e m ≤ m ∨ (weightE e m = 0 ∧ m < 0) := by
  intro e
  refine Ex.all (P := fun e => ∀ m : Int, weightE e m ≤ m ∨ (weightE e m = 0 ∧ m < 0)) (fun k n o ks ih m => ?_) e
  have hL : ∀ (l : List Ex), (∀ x ∈ l, x ∈ ks) → ∀ m : Int, weightL l m ≤ m := by
    intro l
    induction l with
    | nil => intro _ m; unfold weightL; exact Int.le_refl _
    | cons x r ihr =>
      intro hs m
      unfold weightL
      by_cases h0 : 0 < m
      · rw [if_pos h0]
        have h1 := ihr (fun y hy => hs y (List.mem_cons_of_mem _ hy)) (weightE x m)
        rcases ih x (hs x (List.mem_cons_self ..)) m with h2 | ⟨_, h2⟩ <;> omega
      · rw [if_neg h0]; exact Int.le_refl _
  unfold weightE
  by_cases h : m < ks.length
  · rw [if_pos h]; omega
  · rw [if_neg h]
    have := hL ks (fun _ h => h) (m - 1)
    omega
theorem weightE_ge : ∀ (e : Ex) (m : Int), -1 ≤ weightE e m := by
  intro e
  refine Ex.all (P := fun e => ∀ m : Int, -1 ≤ weightE e m) (fun k n o ks ih m => ?_) e
  have hL : ∀ (l : List Ex), (∀ x ∈ l, x ∈ ks) → ∀ m : Int, -1 ≤ m → -1 ≤ weightL l m := by
    intro l
    induction l with
    | nil => intro _ m h; unfold weightL; exact h
    | cons x r ihr =>
      intro hs m hm
      unfold weightL
      by_cases h0 : 0 < m
      · rw [if_pos h0]
        exact ihr (fun y hy => hs y (List.mem_cons_of_mem _ hy)) _ (ih x (hs x (List.mem_cons_self ..)) m)
      · rw [if_neg h0]; exact hm
  unfold weightE
  by_cases h : m < ks.length
  · rw [if_pos h]; omega
  · rw [if_neg h]
    exact hL ks (fun _ h => h) _ (by omega)
set_option maxHeartbeats 1000000 in
theorem weight_any : ∀ (e : Ex) (W : World) (F : Nat → Prop) (cs : List Value) (m : Int), ExAt W F e cs → -9223372036854775808 ≤ m ∧ m ≤ 9223372036854775807 →
    Calls Try.prog 24 #[.agg cs.toArray, .int .i64 m] W fun e' w' => e' = .returned (.int .i64 (weightE e m)) ∧ Below W.heap.size W w' := by
  intro e
  refine Ex.all (P := fun e => ∀ (W : World) (F : Nat → Prop) (cs : List Value) (m : Int), ExAt W F e cs → -9223372036854775808 ≤ m ∧ m ≤ 9223372036854775807 →
    Calls Try.prog 24 #[.agg cs.toArray, .int .i64 m] W fun e' w' => e' = .returned (.int .i64 (weightE e m)) ∧ Below W.heap.size W w') (fun k n o ks ih W F cs m hE hm => ?_) e
  obtain ⟨A, c, rfl, ⟨_, _, _, hl⟩, hr⟩ := hE.row
  show Calls _ _ #[.agg #[.int .i64 k, strV n, strV o, .slice A ks.length c], .int .i64 m] _ _
  obtain ⟨m1, m2⟩ := hm
  obtain ⟨W1, hW⟩ : ∃ W1, W1 = W.alloc (.cells #[.int .i64 k, strV n, strV o, .slice A ks.length c] 56) := ⟨_, rfl⟩
  have HK0 : Hid (Blk W1 W.heap.size [.int .i64 k, strV n, strV o, .slice A ks.length c] 56) := by rw [hW]; exact Lib.hid (Blk.new W _ _)
  have HB0 : Hid (Below W.heap.size W W1) := by rw [hW]; exact Lib.hid ((Below.refl W.heap.size W).alloc (Nat.le_refl _) _)
  have HR := Lib.hid hr
  have HI := Lib.hid ih
  have HW := Lib.hid hW
  clear ih hr hE hW
  unfold weightE
  by_cases h : m < ks.length
  · rw [if_pos h]
    go_enter Try.func24, Try.ntmps24
    go_wp2_with fail
    go_ret
    exact ⟨rfl, by rw [← HW.out]; exact HB0.out⟩
  · rw [if_neg h]
    have h0 : (ks.length : Int) ≤ m := by omega
    obtain ⟨v, hv⟩ : ∃ v, v = weightL ks (m - 1) := ⟨_, rfl⟩
    rw [← hv]
    have HV := Lib.hid hv
    have hd : decide (m < (ks.length : Int)) = false := decide_eq_false h
    clear hv h
    go_enter Try.func24, Try.ntmps24
    go_wp2_with fail
    rw [← HW.out]
    go_loopw [1, 5] (fun s i wr => ∃ (q : Int) (j : Nat), j ≤ ks.length ∧ i = .int .i64 j ∧ s = .int .i64 q ∧ (-9223372036854775808 ≤ q ∧ q ≤ 9223372036854775807) ∧ Hid (weightL (ks.drop j) q = v) ∧ Hid (Below W1.heap.size W1 wr)) (fun _ i _ => ks.length - (intOf i).toNat)
    case atStart => exact ⟨m - 1, 0, by omega, rfl, rfl, by omega, Lib.hid HV.out.symm, Lib.hid (Below.refl _ _)⟩
    case round =>
      obtain ⟨q, j, hj, rfl, rfl, ⟨q1, q2⟩, HQ, BW⟩ := hrel
      have x3 := (HK0.out.below BW.out HK0.out.lt).cell (i := 3) (by simp)
      simp only [List.getElem_cons_succ, List.getElem_cons_zero] at x3
      by_cases hlt : j < ks.length
      · have HD := Lib.hid (List.drop_eq_getElem_cons hlt)
        by_cases hq : 0 < q
        · obtain ⟨b, off, k', n', o', A', m', c', rfl, hE', hcells⟩ := HR.out.kid hlt
          obtain ⟨z0, z1, z2, z3⟩ := hcells wr (HB0.out.trans (BW.out.mono HB0.out.size))
          have HC := Lib.hid (HI.out ks[j] (List.getElem_mem hlt) wr F _ q (hE'.below (HB0.out.trans (BW.out.mono HB0.out.size))) ⟨q1, q2⟩)
          clear hE' hcells
          obtain ⟨q', hq'⟩ : ∃ q', q' = weightE ks[j] q := ⟨_, rfl⟩
          rw [← hq'] at HC
          have hle := weightE_le ks[j] q
          rw [← hq'] at hle
          have hge := weightE_ge ks[j] q
          rw [← hq'] at hge
          have HQ2 : Hid (weightL (ks.drop (j + 1)) q' = v) := by
            show _ = _
            rw [← HQ.out, HD.out, weightL, if_pos hq, hq']
          clear hq'
          go_wp2_with (go_at_call 24; refine HC.out.mono ?_; rintro e w2 ⟨rfl, hb2⟩)
          go_roundw
          case rel => exact ⟨q', j + 1, by omega, by go_num, rfl, by omega, HQ2, Lib.hid (hop BW.out hb2)⟩
          case measure => simp [intOf]; omega
        · have HQ2 : Hid (q = v) := by
            show _ = _
            rw [← HQ.out, HD.out, weightL, if_neg hq]
          have hdq : decide (0 < q) = false := decide_eq_false hq
          go_wp2_with fail
          go_ret
          exact ⟨by rw [HQ2.out]; rfl, HB0.out.trans (BW.out.mono HB0.out.size)⟩
      · have HQ2 : Hid (q = v) := by
          show _ = _
          rw [← HQ.out, List.drop_of_length_le (by omega), weightL]
        go_wp2_with fail
        go_ret
        exact ⟨by rw [HQ2.out]; rfl, HB0.out.trans (BW.out.mono HB0.out.size)⟩
end Go.Proofs.Ytehabjiacgibpaa
namespace Go.Proofs.Ytehabjiacgibpaa
open Go.RowKit
set_option maxHeartbeats 400000 in
theorem refName_bad (s : ByteArray) (w : World) (hm : s.size ≤ 9223372036854775807) (hb : nameBad s.data.toList) :
    Calls Try.prog 40 #[.string s] w fun e w' => e = .returned (.bool false) ∧ w = w' := by
  have hp := name_parts s hb
  clear hb
  rcases hp with rfl | ⟨h0, h1⟩ | ⟨h0, h1, h2⟩ | ⟨h0, h1, h2, h3⟩ | ⟨h0, h1, h2, h3, h4⟩
  all_goals go_enter Try.func40, Try.ntmps40
  all_goals go_wp2_with fail
  all_goals go_ret
  all_goals exact ⟨rfl, rfl⟩
set_option maxHeartbeats 400000 in
theorem refName_any (s : ByteArray) (w : World) (hm : s.size ≤ 9223372036854775807) :
    Calls Try.prog 40 #[.string s] w fun e w' => e = .returned (.bool (nameL s.data.toList)) ∧ w = w' := by
  by_cases hb : nameBad s.data.toList
  · rw [name_bad hb]; exact refName_bad s w hm hb
  obtain ⟨h0, h1, h2, h3, h4, h5⟩ := name_fine s hb
  have HB := Lib.hid hb
  clear hb
  go_enter Try.func40, Try.ntmps40
  go_wp2_with fail
  go_loop [3] (fun i => ∃ k : Nat, k ≤ s.size ∧ i = .int .i64 k ∧ Hid (NmTo s k)) (fun i => s.size - (intOf i).toNat)
  case atStart => exact ⟨0, by omega, rfl, Lib.hid (NmTo.zero s)⟩
  case round =>
    obtain ⟨k, hk, rfl, H⟩ := hrel
    by_cases hlt : k < s.size
    · have hx := s[k].toNat_lt
      by_cases hlow : 97 ≤ s[k].toNat ∧ s[k].toNat ≤ 122
      · obtain ⟨d1, d2⟩ := hlow
        have HG := Lib.hid (H.out.low hlt d1 d2)
        go_wp2_with fail
        go_round
        case rel => exact ⟨k + 1, by omega, by go_num, HG⟩
        case measure => simp [intOf]; omega
      · by_cases h0 : 0 < k
        · have k0 : ((k : Int) == 0) = false := beq_eq_false_iff_ne.2 (by omega)
          by_cases h95 : s[k].toNat = 95
          · have HG := Lib.hid (H.out.more hlt h0 (.inl h95))
            have e95 : (s[k].toNat : Int) = 95 := by omega
            clear h95 hlow
            go_wp2_with fail
            go_round
            case rel => exact ⟨k + 1, by omega, by go_num, HG⟩
            case measure => simp [intOf]; omega
          · have e95 : ¬ (s[k].toNat : Int) = 95 := by omega
            have n95 : ((s[k].toNat : Int) != 95) = true := bne_iff_ne.2 (by omega)
            by_cases hdig : 48 ≤ s[k].toNat ∧ s[k].toNat ≤ 57
            · have HG := Lib.hid (H.out.more hlt h0 (.inr hdig))
              obtain ⟨b1, b2⟩ := hdig
              have a1 : ¬ 97 ≤ s[k].toNat := by omega
              clear h95 hlow
              go_wp2_with fail
              go_round
              case rel => exact ⟨k + 1, by omega, by go_num, HG⟩
              case measure => simp [intOf]; omega
            · have HG : Hid (nameL s.data.toList = false) := Lib.hid (H.out.other hlt hlow h95 hdig)
              have hc : s[k].toNat < 48 ∨ (48 ≤ s[k].toNat ∧ 57 < s[k].toNat ∧ s[k].toNat < 97) ∨ (48 ≤ s[k].toNat ∧ 57 < s[k].toNat ∧ 97 ≤ s[k].toNat ∧ 122 < s[k].toNat ∧ decide ((s[k].toNat : Int) ≤ 122) = false) := by simp only [decide_eq_false_iff_not]; omega
              clear h95 hlow hdig
              rcases hc with c1 | ⟨c1, c2, c3⟩ | ⟨c1, c2, c3, c4, c5⟩
              all_goals go_wp2_with fail
              all_goals go_ret
              all_goals exact ⟨by rw [HG.out]; rfl, rfl⟩
        · obtain rfl : k = 0 := by omega
          have HG : Hid (nameL s.data.toList = false) := Lib.hid (NmTo.first h1 hlow)
          have hc : s[0].toNat < 97 ∨ (97 ≤ s[0].toNat ∧ 122 < s[0].toNat ∧ decide ((s[0].toNat : Int) ≤ 122) = false) := by simp only [decide_eq_false_iff_not]; omega
          clear hlow
          rcases hc with c1 | ⟨c1, c2, c3⟩
          all_goals go_wp2_with fail
          all_goals go_ret
          all_goals exact ⟨by rw [HG.out]; rfl, rfl⟩
    · have HG : Hid (nameL s.data.toList = true) := Lib.hid (H.out.done hlt (by omega) HB.out)
      go_wp2_with fail
      all_goals go_ret
      all_goals exact ⟨by rw [HG.out]; rfl, rfl⟩
theorem refName_txt (l : Txt) (w : World) (hm : l.length ≤ 9223372036854775807) :
    Calls Try.prog 40 #[strV l] w fun e w' => e = .returned (.bool (nameL l)) ∧ w = w' := by
  have h := refName_any ⟨l.toArray⟩ w (by simpa [ByteArray.size] using hm)
  simpa using h
end Go.Proofs.Ytehabjiacgibpaa
namespace Go.Proofs.Ytehabjiacgibpaa
open Go.RowKit
mutual
def heightE : Ex → Nat
  | .mk _ _ _ ks => heightL ks + 1
def heightL : List Ex → Nat
  | [] => 0
  | k :: r => max (heightE k) (heightL r)
end
theorem heightL_mem {x : Ex} : ∀ {ks : List Ex}, x ∈ ks → heightE x ≤ heightL ks
  | [], h => by cases h
  | k :: r, h => by
    unfold heightL
    rcases List.mem_cons.1 h with rfl | h
    · exact Nat.le_max_left _ _
    · exact Nat.le_trans (heightL_mem h) (Nat.le_max_right _ _)
set_option maxHeartbeats 1000000 in
theorem height_any : ∀ (e : Ex) (W : World) (F : Nat → Prop) (cs : List Value), ExAt W F e cs → heightE e ≤ 1000000 →
    Calls Try.prog 89 #[.agg cs.toArray] W fun e' w' => e' = .returned (.int .i64 (heightE e)) ∧ Below W.heap.size W w' := by
  intro e
  refine Ex.all (P := fun e => ∀ (W : World) (F : Nat → Prop) (cs : List Value), ExAt W F e cs → heightE e ≤ 1000000 →
    Calls Try.prog 89 #[.agg cs.toArray] W fun e' w' => e' = .returned (.int .i64 (heightE e)) ∧ Below W.heap.size W w') (fun k n o ks ih W F cs hE hm => ?_) e
  obtain ⟨A, c, rfl, ⟨_, _, _, hl⟩, hr⟩ := hE.row
  show Calls _ _ #[.agg #[.int .i64 k, strV n, strV o, .slice A ks.length c]] _ _
  obtain ⟨W1, hW⟩ : ∃ W1, W1 = W.alloc (.cells #[.int .i64 k, strV n, strV o, .slice A ks.length c] 56) := ⟨_, rfl⟩
  have HK0 : Hid (Blk W1 W.heap.size [.int .i64 k, strV n, strV o, .slice A ks.length c] 56) := by rw [hW]; exact Lib.hid (Blk.new W _ _)
  have HB0 : Hid (Below W.heap.size W W1) := by rw [hW]; exact Lib.hid ((Below.refl W.heap.size W).alloc (Nat.le_refl _) _)
  unfold heightE at hm ⊢
  obtain ⟨v, hv⟩ : ∃ v, v = heightL ks := ⟨_, rfl⟩
  have HMem := Lib.hid (fun x (hx : x ∈ ks) => Nat.le_trans (heightL_mem hx) (Nat.le_of_succ_le hm))
  rw [← hv] at hm ⊢
  have HR := Lib.hid hr
  have HI := Lib.hid ih
  have HW := Lib.hid hW
  have HV := Lib.hid hv
  clear ih hr hE hW hv
  go_enter Try.func89, Try.ntmps89
  go_wp2_with fail
  rw [← HW.out]
  go_loopw [3, 4] (fun sn i wr => ∃ (j q : Nat), j ≤ ks.length ∧ i = .int .i64 j ∧ sn = .int .i64 q ∧ q ≤ 1000000 ∧ Hid (max q (heightL (ks.drop j)) = v) ∧ Hid (Below W1.heap.size W1 wr)) (fun _ i _ => ks.length - (intOf i).toNat)
  case atStart => exact ⟨0, 0, by omega, rfl, rfl, by omega, Lib.hid (by rw [Nat.zero_max]; exact HV.out.symm), Lib.hid (Below.refl _ _)⟩
  case round =>
    obtain ⟨j, q, hj, rfl, rfl, hq, HQ, BW⟩ := hrel
    have x3 := (HK0.out.below BW.out HK0.out.lt).cell (i := 3) (by simp)
    simp only [List.getElem_cons_succ, List.getElem_cons_zero] at x3
    by_cases hlt : j < ks.length
    · have HD := Lib.hid (List.drop_eq_getElem_cons hlt)
      obtain ⟨b, off, k', n', o', A', m', c', rfl, hE', hcells⟩ := HR.out.kid hlt
      obtain ⟨z0, z1, z2, z3⟩ := hcells wr (HB0.out.trans (BW.out.mono HB0.out.size))
      have hx := HMem.out ks[j] (List.getElem_mem hlt)
      have HC := Lib.hid (HI.out ks[j] (List.getElem_mem hlt) wr F _ (hE'.below (HB0.out.trans (BW.out.mono HB0.out.size))) hx)
      obtain ⟨h, hh⟩ : ∃ h, h = heightE ks[j] := ⟨_, rfl⟩
      rw [← hh] at HC hx
      have HN : Hid (max q (max h (heightL (ks.drop (j + 1)))) = v) := by
        show _ = _
        rw [← HQ.out, HD.out, heightL, hh]
      clear hE' hcells hh
      by_cases hqh : q < h
      · have HN2 : Hid (max h (heightL (ks.drop (j + 1))) = v) := by
          show _ = _
          rw [← HN.out]; omega
        go_wp2_with (go_at_call 89; refine HC.out.mono ?_; rintro e w2 ⟨rfl, hb2⟩)
        go_roundw
        case rel => exact ⟨j + 1, h, by omega, by go_num, rfl, by omega, HN2, Lib.hid (hop BW.out hb2)⟩
        case measure => simp [intOf]; omega
      · have HN2 : Hid (max q (heightL (ks.drop (j + 1))) = v) := by
          show _ = _
          rw [← HN.out]; omega
        have hd : decide (q < h) = false := decide_eq_false hqh
        go_wp2_with (go_at_call 89; refine HC.out.mono ?_; rintro e w2 ⟨rfl, hb2⟩)
        go_roundw
        case rel => exact ⟨j + 1, q, by omega, by go_num, rfl, by omega, HN2, Lib.hid (hop BW.out hb2)⟩
        case measure => simp [intOf]; omega
    · have HQ2 : Hid (q = v) := by
        show _ = _
        rw [← HQ.out, List.drop_of_length_le (by omega), heightL]; omega
      go_wp2_with fail
      go_ret
      exact ⟨by rw [← HQ2.out]; simp, HB0.out.trans (BW.out.mono HB0.out.size)⟩
end Go.Proofs.Ytehabjiacgibpaa
namespace Go.Proofs.Ytehabjiacgibpaa
open Go.RowKit
abbrev Tk := Txt × Nat × Nat
abbrev Dg := Nat × Nat × Nat
def signs : Txt := [58, 124, 35, 43, 45, 38, 46, 40, 41]
def signT (c : UInt8) : Txt := if c ∈ signs then [c] else [63]
def wordL : Txt → Nat
  | [] => 0
  | c :: r => if lowB c then (r.takeWhile nmB).length + 1 else 0
theorem wordL_le (l : Txt) : wordL l ≤ l.length := by
  cases l with
  | nil => simp [wordL]
  | cons c r =>
    have h := (List.takeWhile_sublist (l := r) nmB).length_le
    rw [wordL]
    by_cases hc : lowB c = true
    · rw [if_pos hc]; simp; omega
    · rw [if_neg hc]; omega
def tokL (l : Txt) (line col : Nat) : List Tk :=
  match l with
  | [] => [([], line, col)]
  | c :: r =>
    if c = 10 then tokL r (line + 1) 1
    else if c = 32 ∨ c = 9 then tokL r line (col + 1)
    else if h : wordL (c :: r) = 0 then (if signT c = [63] then [([63], line, col)] else (signT c, line, col) :: tokL r line (col + 1))
    else ((c :: r).take (wordL (c :: r)), line, col) :: tokL ((c :: r).drop (wordL (c :: r))) line (col + wordL (c :: r))
termination_by l.length
decreasing_by
  all_goals simp
  all_goals omega
inductive Rs (α : Type) where
  | ok (a : α) (r : List Tk)
  | no (d : Dg)
def Rs.then {α β : Type} (x : Rs α) (f : α → List Tk → Rs β) : Rs β :=
  match x with
  | .ok a r => f a r
  | .no d => .no d
def failT (t : Tk) (e : Nat) : Dg := (t.2.1, t.2.2, e)
def nx (ts : List Tk) : Tk := ts.headD ([], 0, 0)
def nameP (ts : List Tk) : Rs Txt := if nameL (nx ts).1 then .ok (nx ts).1 ts.tail else .no (failT (nx ts) 8)
def mustP (s : Txt) (ts : List Tk) : Rs Unit := if (nx ts).1 = s then .ok () ts.tail else .no (failT (nx ts) 8)
def atomK (sub : Option (List Tk → Rs Ex)) (ts : List Tk) : Rs Ex :=
  if (nx ts).1 = [40] then
    (match sub with
    | none => .no (failT (nx ts) 9)
    | some f => (f ts.tail).then fun e r => (mustP [41] r).then fun _ r => .ok e r)
  else (nameP ts).then fun s r => if (nx r).1 = [46] then (nameP r.tail).then fun o r => .ok (.mk 1 s o []) r else .ok (.mk 0 s [] []) r
def twoP (k : Int) (t : Tk) (a b : Ex) (r : List Tk) : Rs Ex := if 12 < heightE (.mk k [] [] [a, b]) then .no (failT t 9) else .ok (.mk k [] [] [a, b]) r
def termLoop (sub : Option (List Tk → Rs Ex)) : Nat → Ex → List Tk → Rs Ex
  | 0, a, ts => .ok a ts
  | n + 1, a, ts => if (nx ts).1 = [38] then (atomK sub ts.tail).then fun b r => (twoP 3 (nx ts) a b r).then fun e r => termLoop sub n e r else .ok a ts
def termK (sub : Option (List Tk → Rs Ex)) (ts : List Tk) : Rs Ex := (atomK sub ts).then fun a r => termLoop sub ts.length a r
def exprLoop (sub : Option (List Tk → Rs Ex)) : Nat → Ex → List Tk → Rs Ex
  | 0, a, ts => .ok a ts
  | n + 1, a, ts => if (nx ts).1 = [43] ∨ (nx ts).1 = [45] then (termK sub ts.tail).then fun b r => (twoP (if (nx ts).1 = [45] then 4 else 2) (nx ts) a b r).then fun e r => exprLoop sub n e r else .ok a ts
def exprK (sub : Option (List Tk → Rs Ex)) (ts : List Tk) : Rs Ex := (termK sub ts).then fun a r => exprLoop sub ts.length a r
def exprD : Nat → List Tk → Rs Ex
  | 0 => exprK none
  | d + 1 => exprK (some (exprD d))
def subD : Nat → Option (List Tk → Rs Ex)
  | 0 => none
  | d + 1 => some (exprD d)
theorem exprD_eq (d : Nat) : exprD d = exprK (subD d) := by cases d <;> rfl
def refP (ts : List Tk) : Rs Rf := (nameP ts).then fun s r => if (nx r).1 = [35] then (nameP r.tail).then fun o r => .ok (s, o) r else .ok (s, []) r
def refsLoop : Nat → List Tk → Rs (List Rf)
  | 0, ts => .ok [] ts
  | n + 1, ts => if (nx ts).1 = [124] then (refP ts.tail).then fun x r => (refsLoop n r).then fun l r => .ok (x :: l) r else .ok [] ts
def relW2 : Txt := [114, 101, 108, 97, 116, 105, 111, 110]
def defW2 : Txt := [100, 101, 102, 105, 110, 101]
def typW2 : Txt := [116, 121, 112, 101]
def noEx : Ex := .mk 0 [] [] []
def toldP (ts : List Tk) : Rs Rl := (nameP ts).then fun n r => (mustP [58] r).then fun _ r => (refP r).then fun x r => (refsLoop r.length r).then fun l r => .ok ⟨n, x :: l, noEx⟩ r
def defP (ts : List Tk) : Rs Rl := (nameP ts).then fun n r => (mustP [58] r).then fun _ r => (exprD 12 r).then fun e r => .ok ⟨n, [], e⟩ r
def relsLoop : Nat → List Tk → Rs (List Rl)
  | 0, ts => .ok [] ts
  | n + 1, ts =>
    if (nx ts).1 = relW2 then (toldP ts.tail).then fun x r => (relsLoop n r).then fun l r => .ok (x :: l) r
    else if (nx ts).1 = defW2 then (defP ts.tail).then fun x r => (relsLoop n r).then fun l r => .ok (x :: l) r
    else .ok [] ts
def typesLoop : Nat → List Tk → Rs Sc
  | 0, ts => .ok [] ts
  | n + 1, ts => if (nx ts).1 = typW2 then (nameP ts.tail).then fun s r => (relsLoop r.length r).then fun rs r => (typesLoop n r).then fun l r => .ok (⟨s, rs⟩ :: l) r else .ok [] ts
def wholeP (ts : List Tk) : Rs Sc := (typesLoop ts.length ts).then fun s r => if (nx r).1 = [] then .ok s r else .no (failT (nx r) 8)
def parseT (l : Txt) : Sc × Dg := if 4096 < l.length then ([], (1, 1, 2)) else (match wholeP (tokL l 1 1) with | .ok s _ => (s, (0, 0, 0)) | .no d => ([], d))
theorem Rs.then_ok {α β : Type} {x : Rs α} {f : α → List Tk → Rs β} {b : β} {r : List Tk} (h : x.then f = .ok b r) : ∃ a r', x = .ok a r' ∧ f a r' = .ok b r := by
  cases x with
  | ok a r' => exact ⟨a, r', rfl, h⟩
  | no d => cases h
end Go.Proofs.Ytehabjiacgibpaa
namespace Go.Proofs.Ytehabjiacgibpaa
open Go.RowKit
def tokF : Nat → Txt → Nat → Nat → List Tk
  | 0, _, _, _ => []
  | n + 1, l, line, col =>
    match l with
    | [] => [([], line, col)]
    | c :: r =>
      if c = 10 then tokF n r (line + 1) 1
      else if c = 32 ∨ c = 9 then tokF n r line (col + 1)
      else if wordL (c :: r) = 0 then (if signT c = [63] then [([63], line, col)] else (signT c, line, col) :: tokF n r line (col + 1))
      else ((c :: r).take (wordL (c :: r)), line, col) :: tokF n ((c :: r).drop (wordL (c :: r))) line (col + wordL (c :: r))
theorem tokF_eq : ∀ (n : Nat) (l : Txt) (line col : Nat), l.length < n → tokF n l line col = tokL l line col
  | 0, l, _, _, h => absurd h (Nat.not_lt_zero _)
  | n + 1, [], line, col, _ => by rw [tokF, tokL]
  | n + 1, c :: r, line, col, h => by
    have hr : r.length < n := by simpa using h
    rw [tokF, tokL]
    by_cases h1 : c = 10
    · rw [if_pos h1, if_pos h1, tokF_eq n r _ _ hr]
    · rw [if_neg h1, if_neg h1]
      by_cases h2 : c = 32 ∨ c = 9
      · rw [if_pos h2, if_pos h2, tokF_eq n r _ _ hr]
      · rw [if_neg h2, if_neg h2]
        by_cases h3 : wordL (c :: r) = 0
        · rw [if_pos h3, dif_pos h3, tokF_eq n r _ _ hr]
        · rw [if_neg h3, dif_neg h3, tokF_eq n _ _ _ (by rw [List.length_drop]; simp at h ⊢; omega)]
end Go.Proofs.Ytehabjiacgibpaa
namespace Go.Proofs.Ytehabjiacgibpaa
open Go.RowKit
structure RowT (P : Program) (t e : TypeId) (s b : Nat) (i : TypeInfo) (z : Value) : Prop where
  ht : P.underlying t = some (.slice e)
  hi : P.info? e = some i
  hz : i.zero = some z
  hs : i.size = s
  hb : i.bytes = b
  zs : z.cells.size = s
theorem ownrow_shape {e : TypeId} {s : Nat} {w : World} {base n : Nat} {v : Value} {xs : List Value} (h : w.ownsRow base e s v n xs) : ∃ A c, v = .slice A n c := by
  rcases h.2 with ⟨rfl, h0⟩ | ⟨g, cap, cur, rfl, _⟩
  · exact ⟨none, 0, by rw [h0]⟩
  · exact ⟨_, _, rfl⟩
theorem cells_new (w : World) (L : List Value) (t : TypeId) : ∀ j u, L[j]? = some u → (w.alloc (.cells L.toArray t)).cell? ((⟨w.heap.size, 0, none⟩ : Addr).add j) = some u := by
  intro j u hj
  rw [add_plain, World.cell?_alloc_at _ _ _ _ rfl]
  simpa using hj
theorem wpList_append_struct {P : Program} (w : World) {ops : Array Oper} {rest : List Oper} {o : Oper} {ac : Act} {Q : Exit → Act → World → Prop} (hgd : o.guard = none) (s x : Operand) (t : TypeId)
    (ho : o.op = .call { callee := .builtin .append, args := #[s, x], argTypes := #[t, t] })
    {e : TypeId} {k b : Nat} {i : TypeInfo} {z : Value} (R : RowT P t e k b i z) (hk : 0 < k) (hb64 : b ≤ 128)
    (w0 : World) (A : Option Addr) (n c : Nat) (xs : List Value) (L : List Value) (hL : L.length = k) (hs : ac.eval s = .slice A n c) (hx : ac.eval x = .slice (some ⟨w.heap.size, 0, none⟩) 1 1)
    (hb : Below w0.heap.size w0 w) (h : w.ownsRow w0.heap.size e k (.slice A n c) n xs) (hone : ∀ u ∈ L, u.oneCell' = true) (hn : n ≤ 1000000)
    (K : ∀ A' c' w', w'.ownsRow w0.heap.size e k (.slice A' (n + 1) c') (n + 1) (xs ++ L) → Below w0.heap.size w0 w' → (w.alloc (.cells L.toArray e)).grownBy w' (Value.slice A n c).ownBlock →
      ((Value.slice A' (n + 1) c').ownBlock = (Value.slice A n c).ownBlock ∨ (Value.slice A' (n + 1) c').ownBlock = some (w.heap.size + 1)) → wpList P ops Q rest (ac.put o.dst (.slice A' (n + 1) c')) w') :
    wpList P ops Q (o :: rest) ac (w.alloc (.cells L.toArray e)) := by
  have hB : w0.heap.size ≤ (w.alloc (.cells L.toArray e)).heap.size := by have := hb.size; simp; omega
  have hlist : (w.alloc (.cells L.toArray e)).ownsRow w0.heap.size e k (.slice A n c) n xs := h.alloc _
  refine wpList_append_own_at (w.alloc (.cells L.toArray e)) hgd s x t ho w0.heap.size e i z k b R.ht R.hi R.hz R.hs R.hb R.zs hk _ n _ hs hlist ⟨w.heap.size, 0, none⟩ 1 1 L hx (by rw [hL, Nat.one_mul]) (cells_new _ _ _) hone (by unfold maxLen; omega) (Nat.le_trans (Nat.mul_le_mul_left _ hb64) (by omega)) hB ?_
  intro v' w' hown hg _ hat
  obtain ⟨A', c', rfl⟩ := ownrow_shape hown
  exact K A' c' w' hown (below_grown (hb.alloc hb.size _) hB hlist hg) hg (by simpa using hat)
end Go.Proofs.Ytehabjiacgibpaa
