/-
  Expressions and schemas as Lean data, and how they lie in memory, outside some blocks. No program is named.
  How many parts an expression has (conciergelaw11's weight), counted down. Conditions: the expression is there; the number fits an int.
  Are two expressions the same, as lists. No program is named.
  Rows of refs, of relations, of types, cell by cell; are two relations, two schemas the same, as lists. No program is named.
  Has a schema few parts (conciergelaw11's Few)? Conditions: it is there; the bound is from 0 to 1,000.
  What the document's ID comes to. Condition: a string's length fits an int.
  What the document's Name comes to. Condition: a string's length fits an int.
  What the document's cut comes to. Condition: a string's length fits an int.
  What the document's Object, Subject and Tuple come to. Condition: a string's length fits an int.
  What the document's Subject and Tuple come to. Condition: a string's length fits an int.
-/
import Derived.Test.YtehabjiacgibpaaGreatCFlat
import Derived.Deep.RegionHeldLaw
import Derived.Laws.DeepStrings4
import Derived.Deep.QuietTactic
import Derived.BigQuiet
namespace Go.Proofs.YtehabjiacgibpaaGreat
open Go.RowKit
inductive Ex where
  | mk (kind : Int) (name over : Txt) (kids : List Ex)
def Ex.kind : Ex → Int | .mk k _ _ _ => k
def Ex.name : Ex → Txt | .mk _ n _ _ => n
def Ex.over : Ex → Txt | .mk _ _ o _ => o
def Ex.kids : Ex → List Ex | .mk _ _ _ ks => ks
mutual
theorem Ex.all {P : Ex → Prop} (h : ∀ k n o ks, (∀ x ∈ ks, P x) → P (.mk k n o ks)) : ∀ e, P e
  | .mk k n o ks => h k n o ks (Ex.allL h ks)
theorem Ex.allL {P : Ex → Prop} (h : ∀ k n o ks, (∀ x ∈ ks, P x) → P (.mk k n o ks)) : ∀ ks : List Ex, ∀ x ∈ ks, P x
  | [], _, hx => by cases hx
  | k :: r, x, hx => (List.mem_cons.1 hx).elim (fun e => e ▸ Ex.all h k) (Ex.allL h r x)
end
def small (l : Txt) : Prop := l.length ≤ 9223372036854775807
def fitsI (k : Int) : Prop := -9223372036854775808 ≤ k ∧ k ≤ 9223372036854775807
mutual
def ExAt (W : World) (F : Nat → Prop) : Ex → List Value → Prop
  | .mk k n o ks, cs => ∃ A c, cs = [.int .i64 k, strV n, strV o, .slice A ks.length c] ∧ (fitsI k ∧ small n ∧ small o ∧ ks.length ≤ 9223372036854775807) ∧
      (ks = [] ∨ ∃ b off, A = some ⟨b, off, none⟩ ∧ b < W.heap.size ∧ ¬ F b ∧ KidsAt W F b off ks)
def KidsAt (W : World) (F : Nat → Prop) (b : Nat) : Nat → List Ex → Prop
  | _, [] => True
  | off, e :: r => (∃ cs, ExAt W F e cs ∧ ∀ i, i < 4 → W.cell? ⟨b, off + i, none⟩ = cs[i]?) ∧ KidsAt W F b (off + 4) r
end
theorem ExAt.len {W : World} {F : Nat → Prop} {e : Ex} {cs : List Value} (h : ExAt W F e cs) : cs.length = 4 := by
  obtain ⟨k, n, o, ks⟩ := e
  unfold ExAt at h
  obtain ⟨A, c, rfl, _⟩ := h
  rfl
theorem KidsAt.get {W : World} {F : Nat → Prop} {b : Nat} : ∀ {ks : List Ex} {off : Nat}, KidsAt W F b off ks → ∀ j (h : j < ks.length), ∃ cs, ExAt W F ks[j] cs ∧ ∀ i, i < 4 → W.cell? ⟨b, off + j * 4 + i, none⟩ = cs[i]?
  | [], _, _, j, h => absurd h (by simp)
  | e :: r, off, hk, 0, _ => by
    unfold KidsAt at hk
    simpa using hk.1
  | e :: r, off, hk, j + 1, h => by
    unfold KidsAt at hk
    obtain ⟨cs, h1, h2⟩ := KidsAt.get hk.2 j (by simpa using h)
    refine ⟨cs, h1, fun i hi => ?_⟩
    rw [← h2 i hi]
    congr 2
    omega
theorem KidsAt.of {W : World} {F : Nat → Prop} {b : Nat} : ∀ {ks : List Ex} {off : Nat}, (∀ j (h : j < ks.length), ∃ cs, ExAt W F ks[j] cs ∧ ∀ i, i < 4 → W.cell? ⟨b, off + j * 4 + i, none⟩ = cs[i]?) → KidsAt W F b off ks
  | [], _, _ => by unfold KidsAt; trivial
  | e :: r, off, h => by
    unfold KidsAt
    refine ⟨?_, KidsAt.of (fun j hj => ?_)⟩
    · obtain ⟨cs, h1, h2⟩ := h 0 (by simp)
      exact ⟨cs, h1, fun i hi => by simpa using h2 i hi⟩
    obtain ⟨cs, h1, h2⟩ := h (j + 1) (by simpa using hj)
    refine ⟨cs, h1, fun i hi => ?_⟩
    rw [← h2 i hi]
    congr 2
    omega
theorem Spared.cellOf {W W' : World} {F : Nat → Prop} (hs : Spared W W' F) {b : Nat} (hb : b < W.heap.size) (hF : ¬ F b) (o : Nat) : W'.cell? ⟨b, o, none⟩ = W.cell? ⟨b, o, none⟩ := by
  have := hs.block b hb hF
  simp [World.cell?, this]
theorem ExAt.moved {W W' : World} {F G : Nat → Prop} (hs : Spared W W' F) (hG : ∀ i, G i → F i ∨ W.heap.size ≤ i) : ∀ (e : Ex) (cs : List Value), ExAt W F e cs → ExAt W' G e cs := by
  intro e
  refine Ex.all (P := fun e => ∀ cs, ExAt W F e cs → ExAt W' G e cs) (fun k n o ks ih cs h => ?_) e
  unfold ExAt at h ⊢
  obtain ⟨A, c, rfl, hb, h⟩ := h
  refine ⟨A, c, rfl, hb, ?_⟩
  rcases h with h | ⟨b, off, rfl, hlt, hF, hk⟩
  · exact .inl h
  · refine .inr ⟨b, off, rfl, Nat.lt_of_lt_of_le hlt hs.size, fun hg => (hG b hg).elim hF (fun h => by omega), KidsAt.of (fun j hj => ?_)⟩
    obtain ⟨cs, h1, h2⟩ := hk.get j hj
    exact ⟨cs, ih _ (List.getElem_mem hj) cs h1, fun i hi => by rw [hs.cellOf hlt hF]; exact h2 i hi⟩
theorem ExAt.below {W W' : World} {F : Nat → Prop} (hb : Below W.heap.size W W') {e : Ex} {cs : List Value} (h : ExAt W F e cs) : ExAt W' F e cs :=
  ExAt.moved (Spared.of_below hb F) (fun _ h => .inl h) e cs h
def RowAt {α : Type} (n : Nat) (R : World → (Nat → Prop) → α → List Value → Prop) (W : World) (F : Nat → Prop) (A : Option Addr) (l : List α) : Prop :=
  l = [] ∨ ∃ b off, A = some ⟨b, off, none⟩ ∧ b < W.heap.size ∧ ¬ F b ∧ ∀ j (h : j < l.length), ∃ cs, R W F l[j] cs ∧ ∀ i, i < n → W.cell? ⟨b, off + j * n + i, none⟩ = cs[i]?
theorem RowAt.moved {α : Type} {n : Nat} {R : World → (Nat → Prop) → α → List Value → Prop} {W W' : World} {F G : Nat → Prop} {A : Option Addr} {l : List α} (hs : Spared W W' F) (hG : ∀ i, G i → F i ∨ W.heap.size ≤ i)
    (hR : ∀ x ∈ l, ∀ cs, R W F x cs → R W' G x cs) (h : RowAt n R W F A l) : RowAt n R W' G A l := by
  rcases h with h | ⟨b, off, rfl, hlt, hF, hk⟩
  · exact .inl h
  · refine .inr ⟨b, off, rfl, Nat.lt_of_lt_of_le hlt hs.size, fun hg => (hG b hg).elim hF (fun h => by omega), fun j hj => ?_⟩
    obtain ⟨cs, h1, h2⟩ := hk j hj
    exact ⟨cs, hR _ (List.getElem_mem hj) cs h1, fun i hi => by rw [hs.cellOf hlt hF]; exact h2 i hi⟩
theorem ExAt.row {W : World} {F : Nat → Prop} {k : Int} {n o : Txt} {ks : List Ex} {cs : List Value} (h : ExAt W F (.mk k n o ks) cs) : ∃ A c, cs = [.int .i64 k, strV n, strV o, .slice A ks.length c] ∧ (fitsI k ∧ small n ∧ small o ∧ ks.length ≤ 9223372036854775807) ∧ RowAt 4 ExAt W F A ks := by
  unfold ExAt at h
  obtain ⟨A, c, h1, h2, h3⟩ := h
  refine ⟨A, c, h1, h2, ?_⟩
  rcases h3 with h3 | ⟨b, off, rfl, hlt, hF, hk⟩
  · exact .inl h3
  · exact .inr ⟨b, off, rfl, hlt, hF, fun j hj => hk.get j hj⟩
theorem ExAt.of_row {W : World} {F : Nat → Prop} {k : Int} {n o : Txt} {ks : List Ex} {A : Option Addr} {c : Nat} (hb : fitsI k ∧ small n ∧ small o ∧ ks.length ≤ 9223372036854775807) (h : RowAt 4 ExAt W F A ks) : ExAt W F (.mk k n o ks) [.int .i64 k, strV n, strV o, .slice A ks.length c] := by
  unfold ExAt
  refine ⟨A, c, rfl, hb, ?_⟩
  rcases h with h | ⟨b, off, rfl, hlt, hF, hk⟩
  · exact .inl h
  · exact .inr ⟨b, off, rfl, hlt, hF, KidsAt.of hk⟩
abbrev Rf := Txt × Txt
structure Rl where
  name : Txt
  refs : List Rf
  expr : Ex
structure Ty where
  name : Txt
  rels : List Rl
abbrev Sc := List Ty
def RfAt (_ : World) (_ : Nat → Prop) (x : Rf) (cs : List Value) : Prop := cs = [strV x.1, strV x.2] ∧ small x.1 ∧ small x.2
def RlAt (W : World) (F : Nat → Prop) (x : Rl) (cs : List Value) : Prop := ∃ A c es, cs = strV x.name :: .slice A x.refs.length c :: es ∧ (small x.name ∧ x.refs.length ≤ 9223372036854775807) ∧ RowAt 2 RfAt W F A x.refs ∧ ExAt W F x.expr es
def TyAt (W : World) (F : Nat → Prop) (x : Ty) (cs : List Value) : Prop := ∃ A c, cs = [strV x.name, .slice A x.rels.length c] ∧ ((small x.name ∧ x.rels.length ≤ c) ∧ x.rels.length ≤ 9223372036854775807) ∧ RowAt 6 RlAt W F A x.rels
def ScAt (W : World) (F : Nat → Prop) (A : Option Addr) (s : Sc) : Prop := RowAt 2 TyAt W F A s
section
variable {W W' : World} {F G : Nat → Prop}
theorem RlAt.moved (hs : Spared W W' F) (hG : ∀ i, G i → F i ∨ W.heap.size ≤ i) {x : Rl} {cs : List Value} (h : RlAt W F x cs) : RlAt W' G x cs := by
  obtain ⟨A, c, es, h1, h2, h3, h4⟩ := h
  exact ⟨A, c, es, h1, h2, h3.moved hs hG (fun _ _ _ h => h), ExAt.moved hs hG _ _ h4⟩
theorem TyAt.moved (hs : Spared W W' F) (hG : ∀ i, G i → F i ∨ W.heap.size ≤ i) {x : Ty} {cs : List Value} (h : TyAt W F x cs) : TyAt W' G x cs := by
  obtain ⟨A, c, h1, h2, h3⟩ := h
  exact ⟨A, c, h1, h2, h3.moved hs hG (fun _ _ _ h => h.moved hs hG)⟩
theorem ScAt.moved (hs : Spared W W' F) (hG : ∀ i, G i → F i ∨ W.heap.size ≤ i) {A : Option Addr} {s : Sc} (h : ScAt W F A s) : ScAt W' G A s :=
  RowAt.moved hs hG (fun _ _ _ h => h.moved hs hG) h
theorem ScAt.below (hb : Below W.heap.size W W') {A : Option Addr} {s : Sc} (h : ScAt W F A s) : ScAt W' F A s := h.moved (Spared.of_below hb F) (fun _ h => .inl h)
theorem RlAt.below (hb : Below W.heap.size W W') {x : Rl} {cs : List Value} (h : RlAt W F x cs) : RlAt W' F x cs := h.moved (Spared.of_below hb F) (fun _ h => .inl h)
theorem TyAt.below (hb : Below W.heap.size W W') {x : Ty} {cs : List Value} (h : TyAt W F x cs) : TyAt W' F x cs := h.moved (Spared.of_below hb F) (fun _ h => .inl h)
end
end Go.Proofs.YtehabjiacgibpaaGreat
namespace Go.Proofs.YtehabjiacgibpaaGreat
open Go.RowKit
def ExFour (W : World) (b o : Nat) (k : Int) (n v : Txt) (A : Option Addr) (m c : Nat) : Prop :=
  W.cell? ⟨b, o, none⟩ = some (.int .i64 k) ∧ W.cell? ⟨b, o + 1, none⟩ = some (strV n) ∧ W.cell? ⟨b, o + 2, none⟩ = some (strV v) ∧ W.cell? ⟨b, o + 3, none⟩ = some (.slice A m c)
theorem RowAt.kid {W : World} {F : Nat → Prop} {A : Option Addr} {ks : List Ex} (h : RowAt 4 ExAt W F A ks) {j : Nat} (hj : j < ks.length) :
    ∃ b off k n o A' m c, A = some ⟨b, off, none⟩ ∧ ExAt W F ks[j] [.int .i64 k, strV n, strV o, .slice A' m c] ∧ ∀ W', Below W.heap.size W W' → ExFour W' b (off + j * 4) k n o A' m c := by
  rcases h with rfl | ⟨b, off, rfl, hb, _, hk⟩
  · simp at hj
  · obtain ⟨cs, h1, h2⟩ := hk j hj
    rcases hx : ks[j] with ⟨k, n, o, xs⟩
    rw [hx] at h1
    obtain ⟨A', c, rfl, _, _⟩ := h1.row
    refine ⟨b, off, k, n, o, A', xs.length, c, rfl, h1, fun W' hW => ?_⟩
    have hc : ∀ i, i < 4 → W'.cell? ⟨b, off + j * 4 + i, none⟩ = [Value.int .i64 k, strV n, strV o, .slice A' xs.length c][i]? := fun i hi => (hW.cell (p := ⟨b, off + j * 4 + i, none⟩) hb).trans (h2 i hi)
    exact ⟨hc 0 (by decide), hc 1 (by decide), hc 2 (by decide), hc 3 (by decide)⟩
end Go.Proofs.YtehabjiacgibpaaGreat
namespace Go.Proofs.YtehabjiacgibpaaGreat
open Go.RowKit
end Go.Proofs.YtehabjiacgibpaaGreat
namespace Go.Proofs.YtehabjiacgibpaaGreat
open Go.RowKit
theorem RowAt.pair {W : World} {F : Nat → Prop} {A : Option Addr} {ks : List Rf} (h : RowAt 2 RfAt W F A ks) {j : Nat} (hj : j < ks.length) :
    ∃ b off, A = some ⟨b, off, none⟩ ∧ ∀ W', Below W.heap.size W W' → W'.cell? ⟨b, off + j * 2, none⟩ = some (strV ks[j].1) ∧ W'.cell? ⟨b, off + j * 2 + 1, none⟩ = some (strV ks[j].2) := by
  rcases h with rfl | ⟨b, off, rfl, hb, _, hk⟩
  · simp at hj
  · obtain ⟨cs, ⟨rfl, _, _⟩, h2⟩ := hk j hj
    refine ⟨b, off, rfl, fun W' hW => ?_⟩
    have hc : ∀ i, i < 2 → W'.cell? ⟨b, off + j * 2 + i, none⟩ = [strV ks[j].1, strV ks[j].2][i]? := fun i hi => (hW.cell (p := ⟨b, off + j * 2 + i, none⟩) hb).trans (h2 i hi)
    exact ⟨hc 0 (by decide), hc 1 (by decide)⟩
theorem RlAt.six {W : World} {F : Nat → Prop} {x : Rl} {cs : List Value} (h : RlAt W F x cs) : ∃ A c k n o A' m c', cs = [strV x.name, .slice A x.refs.length c, .int .i64 k, strV n, strV o, .slice A' m c'] ∧ (small x.name ∧ x.refs.length ≤ 9223372036854775807) ∧ RowAt 2 RfAt W F A x.refs ∧
    ExAt W F x.expr [.int .i64 k, strV n, strV o, .slice A' m c'] := by
  obtain ⟨A, c, es, rfl, h2, h3, h4⟩ := h
  rcases he : x.expr with ⟨k, n, o, ks⟩
  rw [he] at h4
  obtain ⟨A', c', rfl, _, _⟩ := h4.row
  exact ⟨A, c, k, n, o, A', ks.length, c', rfl, h2, h3, h4⟩
def RlSix (W : World) (b o : Nat) (n : Txt) (A : Option Addr) (m c : Nat) (k : Int) (p q : Txt) (E : Option Addr) (m' c' : Nat) : Prop :=
  W.cell? ⟨b, o, none⟩ = some (strV n) ∧ W.cell? ⟨b, o + 1, none⟩ = some (.slice A m c) ∧ W.cell? ⟨b, o + 2, none⟩ = some (.int .i64 k) ∧ W.cell? ⟨b, o + 3, none⟩ = some (strV p) ∧ W.cell? ⟨b, o + 4, none⟩ = some (strV q) ∧ W.cell? ⟨b, o + 5, none⟩ = some (.slice E m' c')
theorem RowAt.rel {W : World} {F : Nat → Prop} {A : Option Addr} {ks : List Rl} (h : RowAt 6 RlAt W F A ks) {j : Nat} (hj : j < ks.length) :
    ∃ b off n A' m c k p q E m' c', A = some ⟨b, off, none⟩ ∧ RlAt W F ks[j] [strV n, .slice A' m c, .int .i64 k, strV p, strV q, .slice E m' c'] ∧ ∀ W', Below W.heap.size W W' → RlSix W' b (off + j * 6) n A' m c k p q E m' c' := by
  rcases h with rfl | ⟨b, off, rfl, hb, _, hk⟩
  · simp at hj
  · obtain ⟨cs, h1, h2⟩ := hk j hj
    obtain ⟨A', c, k, n, o, E, m, d, rfl, _, _, _⟩ := h1.six
    refine ⟨b, off, _, A', _, c, k, n, o, E, m, d, rfl, h1, fun W' hW => ?_⟩
    have hc : ∀ i, i < 6 → W'.cell? ⟨b, off + j * 6 + i, none⟩ = [strV ks[j].name, .slice A' ks[j].refs.length c, .int .i64 k, strV n, strV o, .slice E m d][i]? := fun i hi => (hW.cell (p := ⟨b, off + j * 6 + i, none⟩) hb).trans (h2 i hi)
    exact ⟨hc 0 (by decide), hc 1 (by decide), hc 2 (by decide), hc 3 (by decide), hc 4 (by decide), hc 5 (by decide)⟩
theorem RowAt.tyc {W : World} {F : Nat → Prop} {A : Option Addr} {ks : List Ty} (h : RowAt 2 TyAt W F A ks) {j : Nat} (hj : j < ks.length) :
    ∃ b off A' c, A = some ⟨b, off, none⟩ ∧ ((small ks[j].name ∧ ks[j].rels.length ≤ c) ∧ ks[j].rels.length ≤ 9223372036854775807) ∧ RowAt 6 RlAt W F A' ks[j].rels ∧ ∀ W', Below W.heap.size W W' → W'.cell? ⟨b, off + j * 2, none⟩ = some (strV ks[j].name) ∧ W'.cell? ⟨b, off + j * 2 + 1, none⟩ = some (.slice A' ks[j].rels.length c) := by
  rcases h with rfl | ⟨b, off, rfl, hb, _, hk⟩
  · simp at hj
  · obtain ⟨cs, ⟨A', c, rfl, hs, hr⟩, h2⟩ := hk j hj
    refine ⟨b, off, A', c, rfl, hs, hr, fun W' hW => ?_⟩
    have hc : ∀ i, i < 2 → W'.cell? ⟨b, off + j * 2 + i, none⟩ = [strV ks[j].name, .slice A' ks[j].rels.length c][i]? := fun i hi => (hW.cell (p := ⟨b, off + j * 2 + i, none⟩) hb).trans (h2 i hi)
    exact ⟨hc 0 (by decide), hc 1 (by decide)⟩
theorem RowAt.ty {W : World} {F : Nat → Prop} {A : Option Addr} {ks : List Ty} (h : RowAt 2 TyAt W F A ks) {j : Nat} (hj : j < ks.length) :
    ∃ b off A' c, A = some ⟨b, off, none⟩ ∧ (small ks[j].name ∧ ks[j].rels.length ≤ 9223372036854775807) ∧ RowAt 6 RlAt W F A' ks[j].rels ∧ ∀ W', Below W.heap.size W W' → W'.cell? ⟨b, off + j * 2, none⟩ = some (strV ks[j].name) ∧ W'.cell? ⟨b, off + j * 2 + 1, none⟩ = some (.slice A' ks[j].rels.length c) := by
  obtain ⟨b, off, A', c, h1, h2, h3⟩ := h.tyc hj
  exact ⟨b, off, A', c, h1, ⟨h2.1.1, h2.2⟩, h3⟩
end Go.Proofs.YtehabjiacgibpaaGreat
namespace Go.Proofs.YtehabjiacgibpaaGreat
open Go.RowKit
end Go.Proofs.YtehabjiacgibpaaGreat
namespace Go.Proofs.YtehabjiacgibpaaGreat
open Go.RowKit
set_option maxHeartbeats 400000 in
theorem refID_any (s : ByteArray) (w : World) (hm : s.size ≤ 9223372036854775807) :
    Calls Tryz.prog 96 #[.string s] w fun e w' => e = .returned (.bool (idL s.data.toList)) ∧ w = w' := by
  by_cases hb : s.data.toList.length = 0 ∨ 24 < s.data.toList.length
  · rw [id_bad hb]
    rw [size_list] at hb
    by_cases h0 : s = ByteArray.empty
    · subst h0
      clear hb
      go_enter Tryz.func96, Tryz.ntmps96
      go_wp2_with fail
      all_goals go_ret
      all_goals exact ⟨rfl, rfl⟩
    · have h1 : 24 < s.size := by
        rcases hb with h | h
        · exact absurd ((empty_iff s).2 (by rw [size_list]; exact h)) h0
        · exact h
      clear hb
      go_enter Tryz.func96, Tryz.ntmps96
      go_wp2_with fail
      all_goals go_ret
      all_goals exact ⟨rfl, rfl⟩
  obtain ⟨h0, h1, h2, h3⟩ := id_fine s hb
  have HB := Lib.hid hb
  clear hb
  go_enter Tryz.func96, Tryz.ntmps96
  go_wp2_with fail
  go_loop [3] (fun i => ∃ k : Nat, k ≤ s.size ∧ i = .int .i64 k ∧ Hid ((s.data.toList.take k).all idB = true)) (fun i => s.size - (intOf i).toNat)
  case atStart => exact ⟨0, by omega, rfl, Lib.hid rfl⟩
  case round =>
    obtain ⟨k, hk, rfl, H⟩ := hrel
    by_cases hlt : k < s.size
    · have hx := s[k].toNat_lt
      have HN := Lib.hid (all_next (p := idB) s k hlt H.out)
      rcases id_class s[k].toNat with hc | hc | hc | hc | hc | hc | ⟨hc, ⟨n1, m1⟩, ⟨n2, m2⟩, ⟨n3, m3⟩⟩
      case inr.inr.inr.inr.inr.inr =>
        have HG : Hid (idL s.data.toList = false) := Lib.hid (id_other H.out hlt (id_no (by omega) n1 n2 n3))
        clear HN H
        rcases hc with c1 | ⟨c1, c2, c3, c4⟩ | ⟨c1, c2, c3, c4, c5, c6, c7⟩ | ⟨c1, c2, c3, c4, c5, c6, c7, c8, c9⟩
        all_goals go_wp2_with fail
        all_goals go_ret
        all_goals exact ⟨by rw [HG.out]; rfl, rfl⟩
      case inl =>
        have HG := Lib.hid (HN.out.1 (id_yes (.inl hc)))
        obtain ⟨d1, d2⟩ := hc
        clear HN
        go_wp2_with fail
        go_round
        case rel => exact ⟨k + 1, by omega, by go_num, HG⟩
        case measure => simp [intOf]; omega
      case inr.inl =>
        have HG := Lib.hid (HN.out.1 (id_yes (.inr (.inl hc))))
        obtain ⟨d1, d2⟩ := hc
        clear HN
        go_wp2_with fail
        go_round
        case rel => exact ⟨k + 1, by omega, by go_num, HG⟩
        case measure => simp [intOf]; omega
      case inr.inr.inl =>
        have HG := Lib.hid (HN.out.1 (id_yes (.inr (.inr (.inl hc)))))
        obtain ⟨d1, d2⟩ := hc
        clear HN
        go_wp2_with fail
        go_round
        case rel => exact ⟨k + 1, by omega, by go_num, HG⟩
        case measure => simp [intOf]; omega
      case inr.inr.inr.inl =>
        have HG := Lib.hid (HN.out.1 (id_yes (.inr (.inr (.inr (.inl hc))))))
        clear HN
        go_wp2_with fail
        go_round
        case rel => exact ⟨k + 1, by omega, by go_num, HG⟩
        case measure => simp [intOf]; omega
      case inr.inr.inr.inr.inl =>
        have HG := Lib.hid (HN.out.1 (id_yes (.inr (.inr (.inr (.inr (.inl hc)))))))
        clear HN
        go_wp2_with fail
        go_round
        case rel => exact ⟨k + 1, by omega, by go_num, HG⟩
        case measure => simp [intOf]; omega
      case inr.inr.inr.inr.inr.inl =>
        have HG := Lib.hid (HN.out.1 (id_yes (.inr (.inr (.inr (.inr (.inr hc)))))))
        clear HN
        go_wp2_with fail
        go_round
        case rel => exact ⟨k + 1, by omega, by go_num, HG⟩
        case measure => simp [intOf]; omega
    · have HG : Hid (idL s.data.toList = true) := Lib.hid (id_done H.out hlt HB.out)
      go_wp2_with fail
      all_goals go_ret
      all_goals exact ⟨by rw [HG.out]; rfl, rfl⟩
end Go.Proofs.YtehabjiacgibpaaGreat
namespace Go.Proofs.YtehabjiacgibpaaGreat
open Go.RowKit
set_option maxHeartbeats 400000 in
theorem refName_bad (s : ByteArray) (w : World) (hm : s.size ≤ 9223372036854775807) (hb : nameBad s.data.toList) :
    Calls Tryz.prog 52 #[.string s] w fun e w' => e = .returned (.bool false) ∧ w = w' := by
  have hp := name_parts s hb
  clear hb
  rcases hp with rfl | ⟨h0, h1⟩ | ⟨h0, h1, h2⟩ | ⟨h0, h1, h2, h3⟩ | ⟨h0, h1, h2, h3, h4⟩
  all_goals go_enter Tryz.func52, Tryz.ntmps52
  all_goals go_wp2_with fail
  all_goals go_ret
  all_goals exact ⟨rfl, rfl⟩
set_option maxHeartbeats 400000 in
theorem refName_any (s : ByteArray) (w : World) (hm : s.size ≤ 9223372036854775807) :
    Calls Tryz.prog 52 #[.string s] w fun e w' => e = .returned (.bool (nameL s.data.toList)) ∧ w = w' := by
  by_cases hb : nameBad s.data.toList
  · rw [name_bad hb]; exact refName_bad s w hm hb
  obtain ⟨h0, h1, h2, h3, h4, h5⟩ := name_fine s hb
  have HB := Lib.hid hb
  clear hb
  go_enter Tryz.func52, Tryz.ntmps52
  go_wp2_with fail
  go_loop [3] (fun i => ∃ k : Nat, k ≤ s.size ∧ i = .int .i64 k ∧ Hid (NmTo s k)) (fun i => s.size - (intOf i).toNat)
  case atStart => exact ⟨0, by omega, rfl, Lib.hid (NmTo.zero s)⟩
  case round =>
    obtain ⟨k, hk, rfl, H⟩ := hrel
    by_cases hlt : k < s.size
    · have hx := s[k].toNat_lt
      by_cases hlow : 97 ≤ s[k].toNat ∧ s[k].toNat ≤ 122
      · obtain ⟨d1, d2⟩ := hlow
        have HG := Lib.hid (H.out.low hlt d1 d2)
        go_wp2_with fail
        go_round
        case rel => exact ⟨k + 1, by omega, by go_num, HG⟩
        case measure => simp [intOf]; omega
      · by_cases h0 : 0 < k
        · have k0 : ((k : Int) == 0) = false := beq_eq_false_iff_ne.2 (by omega)
          by_cases h95 : s[k].toNat = 95
          · have HG := Lib.hid (H.out.more hlt h0 (.inl h95))
            have e95 : (s[k].toNat : Int) = 95 := by omega
            clear h95 hlow
            go_wp2_with fail
            go_round
            case rel => exact ⟨k + 1, by omega, by go_num, HG⟩
            case measure => simp [intOf]; omega
          · have e95 : ¬ (s[k].toNat : Int) = 95 := by omega
            have n95 : ((s[k].toNat : Int) != 95) = true := bne_iff_ne.2 (by omega)
            by_cases hdig : 48 ≤ s[k].toNat ∧ s[k].toNat ≤ 57
            · have HG := Lib.hid (H.out.more hlt h0 (.inr hdig))
              obtain ⟨b1, b2⟩ := hdig
              have a1 : ¬ 97 ≤ s[k].toNat := by omega
              clear h95 hlow
              go_wp2_with fail
              go_round
              case rel => exact ⟨k + 1, by omega, by go_num, HG⟩
              case measure => simp [intOf]; omega
            · have HG : Hid (nameL s.data.toList = false) := Lib.hid (H.out.other hlt hlow h95 hdig)
              have hc : s[k].toNat < 48 ∨ (48 ≤ s[k].toNat ∧ 57 < s[k].toNat ∧ s[k].toNat < 97) ∨ (48 ≤ s[k].toNat ∧ 57 < s[k].toNat ∧ 97 ≤ s[k].toNat ∧ 122 < s[k].toNat ∧ decide ((s[k].toNat : Int) ≤ 122) = false) := by simp only [decide_eq_false_iff_not]; omega
              clear h95 hlow hdig
              rcases hc with c1 | ⟨c1, c2, c3⟩ | ⟨c1, c2, c3, c4, c5⟩
              all_goals go_wp2_with fail
              all_goals go_ret
              all_goals exact ⟨by rw [HG.out]; rfl, rfl⟩
        · obtain rfl : k = 0 := by omega
          have HG : Hid (nameL s.data.toList = false) := Lib.hid (NmTo.first h1 hlow)
          have hc : s[0].toNat < 97 ∨ (97 ≤ s[0].toNat ∧ 122 < s[0].toNat ∧ decide ((s[0].toNat : Int) ≤ 122) = false) := by simp only [decide_eq_false_iff_not]; omega
          clear hlow
          rcases hc with c1 | ⟨c1, c2, c3⟩
          all_goals go_wp2_with fail
          all_goals go_ret
          all_goals exact ⟨by rw [HG.out]; rfl, rfl⟩
    · have HG : Hid (nameL s.data.toList = true) := Lib.hid (H.out.done hlt (by omega) HB.out)
      go_wp2_with fail
      all_goals go_ret
      all_goals exact ⟨by rw [HG.out]; rfl, rfl⟩
theorem refName_txt (l : Txt) (w : World) (hm : l.length ≤ 9223372036854775807) :
    Calls Tryz.prog 52 #[strV l] w fun e w' => e = .returned (.bool (nameL l)) ∧ w = w' := by
  have h := refName_any ⟨l.toArray⟩ w (by simpa [ByteArray.size] using hm)
  simpa using h
end Go.Proofs.YtehabjiacgibpaaGreat
namespace Go.Proofs.YtehabjiacgibpaaGreat
open Go.RowKit
def CutTo (s : ByteArray) (c : UInt8) (k : Nat) : Prop := ∀ j (hj : j < k) (h : j < s.size), s[j] ≠ c
theorem CutTo.next {s : ByteArray} {c : UInt8} {k : Nat} (H : CutTo s c k) (h : k < s.size) (hc : s[k] ≠ c) : CutTo s c (k + 1) := by
  intro j hj h2
  by_cases hjk : j < k
  · exact H j hjk h2
  · obtain rfl : j = k := by omega
    exact hc
theorem CutTo.at_ {s : ByteArray} {c : UInt8} {k : Nat} (H : CutTo s c k) (h : k < s.size) (hc : s[k] = c) :
    cutL s.data.toList c = (s.data.toList.take k, s.data.toList.drop (k + 1), true) :=
  cutL_at _ c k (by simpa using h) hc (fun j hj => H j hj (by omega))
theorem CutTo.none {s : ByteArray} {c : UInt8} {k : Nat} (H : CutTo s c k) (h : ¬ k < s.size) : cutL s.data.toList c = (s.data.toList, [], false) :=
  cutL_none _ c (fun j hj => by have h2 : j < s.size := by simpa using hj
                                exact H j (by omega) h2)
theorem ahead_is (s : ByteArray) (k : Nat) : s.extract 0 k = ⟨(s.data.toList.take k).toArray⟩ := by rw [extract_list]; rfl
theorem behind_is (s : ByteArray) (k : Nat) : s.extract k s.size = ⟨(s.data.toList.drop k).toArray⟩ := by
  rw [extract_list, List.take_of_length_le (by simp)]
set_option maxHeartbeats 400000 in
theorem refCut_any (s : ByteArray) (c : UInt8) (w : World) (hm : s.size ≤ 9223372036854775807) :
    Calls Tryz.prog 61 #[.string s, .int .u8 (c.toNat : Int)] w fun e w' =>
      e = .returned (.tuple #[strV (cutL s.data.toList c).1, strV (cutL s.data.toList c).2.1, .bool (cutL s.data.toList c).2.2]) ∧ Below w.heap.size w w' := by
  go_enter Tryz.func61, Tryz.ntmps61
  go_wp2_with fail
  go_loop [7] (fun i => ∃ k : Nat, k ≤ s.size ∧ i = .int .i64 k ∧ Hid (CutTo s c k)) (fun i => s.size - (intOf i).toNat)
  case atStart => exact ⟨0, by omega, rfl, Lib.hid (fun j hj => absurd hj (by omega))⟩
  case round =>
    obtain ⟨k, hk, rfl, H⟩ := hrel
    by_cases hlt : k < s.size
    · have hx := s[k].toNat_lt
      by_cases hc : s[k] = c
      · have HG := Lib.hid (H.out.at_ hlt hc)
        have e1 : (s[k].toNat : Int) = (c.toNat : Int) := by rw [hc]
        clear hc
        go_wp2_with fail
        go_quiet (fail)
        go_wp2_with fail
        go_ret3
        refine ⟨?_, below_drewN (Below.refl _ _) _⟩
        rw [HG.out]
        show _ = Ending.returned (.tuple #[.string ⟨(s.data.toList.take k).toArray⟩, .string ⟨(s.data.toList.drop (k + 1)).toArray⟩, .bool true])
        rw [← ahead_is, ← behind_is]
        rfl
      · have HG := Lib.hid (H.out.next hlt hc)
        have e1 : ¬ (s[k].toNat : Int) = (c.toNat : Int) := fun h => hc (UInt8.toNat_inj.1 (by omega))
        clear hc
        go_wp2_with fail
        go_round
        case rel => exact ⟨k + 1, by omega, by go_num, HG⟩
        case measure => simp [intOf]; omega
    · have HG := Lib.hid (H.out.none hlt)
      go_wp2_with fail
      go_ret3
      refine ⟨?_, Below.refl _ _⟩
      rw [HG.out]
      show _ = Ending.returned (.tuple #[.string ⟨s.data.toList.toArray⟩, .string ⟨#[]⟩, .bool false])
      rw [← of_list s]
      rfl
end Go.Proofs.YtehabjiacgibpaaGreat
namespace Go.Proofs.YtehabjiacgibpaaGreat
open Go.RowKit
def objL (l : Txt) : Option (Txt × Txt) := if (cutL l 58).2.2 && nameL (cutL l 58).1 && idL (cutL l 58).2.1 then some ((cutL l 58).1, (cutL l 58).2.1) else none
def objV : Option (Txt × Txt) → Value
  | none => .agg #[strV [], strV []]
  | some o => .agg #[strV o.1, strV o.2]
theorem refID_txt (l : Txt) (w : World) (hm : l.length ≤ 9223372036854775807) :
    Calls Tryz.prog 96 #[strV l] w fun e w' => e = .returned (.bool (idL l)) ∧ w = w' := by
  have h := refID_any ⟨l.toArray⟩ w (by simpa [ByteArray.size] using hm)
  simpa using h
theorem refCut_txt (l : Txt) (c : UInt8) (w : World) (hm : l.length ≤ 9223372036854775807) :
    Calls Tryz.prog 61 #[strV l, .int .u8 (c.toNat : Int)] w fun e w' =>
      e = .returned (.tuple #[strV (cutL l c).1, strV (cutL l c).2.1, .bool (cutL l c).2.2]) ∧ Below w.heap.size w w' := by
  have h := refCut_any ⟨l.toArray⟩ c w (by simpa [ByteArray.size] using hm)
  simpa using h
theorem cutL_len (l : Txt) (c : UInt8) : (cutL l c).1.length ≤ l.length ∧ (cutL l c).2.1.length ≤ l.length := by
  induction l with
  | nil => exact ⟨Nat.le_refl _, Nat.le_refl _⟩
  | cons x r ih =>
    unfold cutL
    by_cases hx : x = c
    · rw [if_pos hx]; exact ⟨Nat.zero_le _, Nat.le_succ _⟩
    · rw [if_neg hx]; simp only [List.length_cons]; omega
set_option maxHeartbeats 400000 in
theorem refObject_any (l : Txt) (w : World) (hm : l.length ≤ 9223372036854775807) :
    Calls Tryz.prog 62 #[strV l] w fun e w' =>
      e = .returned (.tuple #[objV (objL l), .bool (objL l).isSome]) ∧ Below w.heap.size w w' := by
  obtain ⟨p, hp⟩ : ∃ p, p = (cutL l 58).1 := ⟨_, rfl⟩
  obtain ⟨q, hq⟩ : ∃ q, q = (cutL l 58).2.1 := ⟨_, rfl⟩
  obtain ⟨b, hb⟩ : ∃ b, b = (cutL l 58).2.2 := ⟨_, rfl⟩
  have hL := cutL_len l 58
  have hCUT := fun W => refCut_txt l 58 W hm
  simp only [show ((58 : UInt8).toNat : Int) = 58 from rfl] at hCUT
  unfold objL
  rw [← hp, ← hq] at hL
  simp only [← hp, ← hq, ← hb] at hCUT
  rw [← hp, ← hq, ← hb]
  have HC := Lib.hid hCUT
  have hN := fun W => refName_txt p W (by omega)
  have hI := fun W => refID_txt q W (by omega)
  clear hp hq hb hL hCUT
  generalize nameL p = x at *
  generalize idL q = y at *
  have HN := Lib.hid hN
  have HI := Lib.hid hI
  clear hN hI
  have hcase : (b = false ∨ (b = true ∧ x = false) ∨ (b = true ∧ x = true ∧ y = false)) ∨ (b = true ∧ x = true ∧ y = true) := by cases b <;> cases x <;> cases y <;> decide
  rcases hcase with hbad | ⟨rfl, rfl, rfl⟩
  · rw [show (b && x && y) = false by rcases hbad with rfl | ⟨rfl, rfl⟩ | ⟨rfl, rfl, rfl⟩ <;> simp, if_neg (by decide)]
    rcases hbad with rfl | ⟨rfl, rfl⟩ | ⟨rfl, rfl, rfl⟩
    all_goals go_enter Tryz.func62, Tryz.ntmps62
    all_goals go_wp2_with (first
      | (go_at_call 61; refine (HC.out _).mono ?_; rintro e w1 ⟨rfl, hb1⟩; have hbk := (Blk.new w [strV [], strV []] 24).below hb1 (by simp); have y0 := hbk.cell (i := 0) (by simp); have y1 := hbk.cell (i := 1) (by simp); have f0 := hbk.free 0; have f1 := hbk.free 1; have HB1 := Lib.hid (((Below.refl w.heap.size w).alloc (Nat.le_refl _) _).trans (hb1.mono (by simp))); clear hb1 hbk)
      | (go_at_call 52; with_reducible refine (HN.out _).mono ?_; rintro e w2 ⟨rfl, rfl⟩)
      | (go_at_call 96; with_reducible refine (HI.out _).mono ?_; rintro e w3 ⟨rfl, rfl⟩))
    all_goals refine bodyPost_ret (v := .tuple #[.agg #[strV [], strV []], .bool false]) (by simp [results, Tryz.results62, go_sem, y0, y1]) rfl ?_
    all_goals exact ⟨rfl, (HB1.out.setCell (Nat.le_refl _) _).setCell (Nat.le_refl _) _⟩
  · rw [show (true && true && true) = true from rfl, if_pos rfl]
    go_enter Tryz.func62, Tryz.ntmps62
    go_wp2_with (first
      | (go_at_call 61; refine (HC.out _).mono ?_; rintro e w1 ⟨rfl, hb1⟩; have hbk := (Blk.new w [strV [], strV []] 24).below hb1 (by simp); have y0 := hbk.cell (i := 0) (by simp); have y1 := hbk.cell (i := 1) (by simp); have f0 := hbk.free 0; have f1 := hbk.free 1; have HB1 := Lib.hid (((Below.refl w.heap.size w).alloc (Nat.le_refl _) _).trans (hb1.mono (by simp))); clear hb1 hbk)
      | (go_at_call 52; with_reducible refine (HN.out _).mono ?_; rintro e w2 ⟨rfl, rfl⟩)
      | (go_at_call 96; with_reducible refine (HI.out _).mono ?_; rintro e w3 ⟨rfl, rfl⟩))
    refine bodyPost_ret (v := .tuple #[.agg #[strV p, strV q], .bool true]) (by simp [results, Tryz.results62, go_sem, y0, y1]) rfl ?_
    exact ⟨rfl, (HB1.out.setCell (Nat.le_refl _) _).setCell (Nat.le_refl _) _⟩
end Go.Proofs.YtehabjiacgibpaaGreat
namespace Go.Proofs.YtehabjiacgibpaaGreat
open Go.RowKit
def subL (l : Txt) : Option (Txt × Txt × Txt) := match objL (cutL l 35).1 with
  | none => none
  | some o => if !(cutL l 35).2.2 || nameL (cutL l 35).2.1 then some (o.1, o.2, (cutL l 35).2.1) else none
def subV : Option (Txt × Txt × Txt) → Value
  | none => .agg #[strV [], strV [], strV []]
  | some o => .agg #[strV o.1, strV o.2.1, strV o.2.2]
theorem below_box3 {w w2 : World} (h : Below w.heap.size w w2) (lt : w.heap.size < w2.heap.size) (a b c : Value) (o : Obj) :
    Below w.heap.size w ((((w2.setCell ⟨w.heap.size, 0, none⟩ a).setCell ⟨w.heap.size, 1, none⟩ b).setCell ⟨w.heap.size, 2, none⟩ c).alloc o) :=
  (((h.setCell (Nat.le_refl _) _).setCell (Nat.le_refl _) _).setCell (Nat.le_refl _) _).alloc (by simp; omega) _
set_option maxHeartbeats 800000 in
theorem refSubject_any (l : Txt) (w : World) (hm : l.length ≤ 9223372036854775807) :
    Calls Tryz.prog 63 #[strV l] w fun e w' =>
      e = .returned (.tuple #[subV (subL l), .bool (subL l).isSome]) ∧ Below w.heap.size w w' := by
  obtain ⟨p, hp⟩ : ∃ p, p = (cutL l 35).1 := ⟨_, rfl⟩
  obtain ⟨q, hq⟩ : ∃ q, q = (cutL l 35).2.1 := ⟨_, rfl⟩
  obtain ⟨b, hb⟩ : ∃ b, b = (cutL l 35).2.2 := ⟨_, rfl⟩
  have hL := cutL_len l 35
  have hCUT := fun W => refCut_txt l 35 W hm
  simp only [show ((35 : UInt8).toNat : Int) = 35 from rfl] at hCUT
  unfold subL
  rw [← hp, ← hq] at hL
  simp only [← hp, ← hq, ← hb] at hCUT
  rw [← hp, ← hq, ← hb]
  have HC := Lib.hid hCUT
  have hO := fun W => refObject_any p W (by omega)
  have hN := fun W => refName_txt q W (by omega)
  clear hp hq hb hL hCUT
  generalize objL p = O at *
  generalize nameL q = y at *
  have HN := Lib.hid hN
  have HO := Lib.hid hO
  clear hN hO
  rcases O with _ | ⟨o1, o2⟩
  · have HO2 : Hid (∀ W, Calls Tryz.prog 62 #[strV p] W fun e w' => e = .returned (.tuple #[.agg #[strV [], strV []], .bool false]) ∧ Below W.heap.size W w') := HO
    clear HO
    go_enter Tryz.func63, Tryz.ntmps63
    go_wp2_with (first
      | (go_at_call 61; refine (HC.out _).mono ?_; rintro e w1 ⟨rfl, hb1⟩; have HK1 := Lib.hid ((Blk.new w [strV [], strV [], strV []] 32).below hb1 (by simp)); have HB1 := Lib.hid (((Below.refl w.heap.size w).alloc (Nat.le_refl _) _).trans (hb1.mono (by simp))); clear hb1)
      | (go_at_call 62; refine (HO2.out _).mono ?_; rintro e w2 ⟨rfl, hb2⟩; have hbk2 := HK1.out.below hb2 HK1.out.lt; have y0 := hbk2.cell (i := 0) (by simp); have y1 := hbk2.cell (i := 1) (by simp); have y2 := hbk2.cell (i := 2) (by simp); have f0 := hbk2.free 0; have f1 := hbk2.free 1; have f2 := hbk2.free 2; have lt2 := hbk2.lt; have HB2 := Lib.hid (HB1.out.trans (hb2.mono (Nat.le_of_lt HK1.out.lt))); clear hb2 hbk2 HK1 HB1)
      | (go_at_call 52; refine (HN.out _).mono ?_; rintro e w3 ⟨rfl, rfl⟩))
    refine bodyPost_ret (v := .tuple #[.agg #[strV [], strV [], strV []], .bool false]) (by simp [results, Tryz.results63, go_sem, y0, y1, y2, lt2]) rfl ?_
    exact ⟨rfl, below_box3 HB2.out lt2 _ _ _ _⟩
  · have HO2 : Hid (∀ W, Calls Tryz.prog 62 #[strV p] W fun e w' => e = .returned (.tuple #[.agg #[strV o1, strV o2], .bool true]) ∧ Below W.heap.size W w') := HO
    clear HO
    have hcase : (b = true ∧ y = false) ∨ (b = false ∨ (b = true ∧ y = true)) := by cases b <;> cases y <;> decide
    rcases hcase with ⟨rfl, rfl⟩ | hcase
    · go_enter Tryz.func63, Tryz.ntmps63
      go_wp2_with (first
        | (go_at_call 61; refine (HC.out _).mono ?_; rintro e w1 ⟨rfl, hb1⟩; have HK1 := Lib.hid ((Blk.new w [strV [], strV [], strV []] 32).below hb1 (by simp)); have HB1 := Lib.hid (((Below.refl w.heap.size w).alloc (Nat.le_refl _) _).trans (hb1.mono (by simp))); clear hb1)
        | (go_at_call 62; refine (HO2.out _).mono ?_; rintro e w2 ⟨rfl, hb2⟩; have hbk2 := HK1.out.below hb2 HK1.out.lt; have y0 := hbk2.cell (i := 0) (by simp); have y1 := hbk2.cell (i := 1) (by simp); have y2 := hbk2.cell (i := 2) (by simp); have f0 := hbk2.free 0; have f1 := hbk2.free 1; have f2 := hbk2.free 2; have lt2 := hbk2.lt; have HB2 := Lib.hid (HB1.out.trans (hb2.mono (Nat.le_of_lt HK1.out.lt))); clear hb2 hbk2 HK1 HB1)
        | (go_at_call 52; refine (HN.out _).mono ?_; rintro e w3 ⟨rfl, rfl⟩))
      refine bodyPost_ret (v := .tuple #[.agg #[strV [], strV [], strV []], .bool false]) (by simp [results, Tryz.results63, go_sem, y0, y1, y2, lt2]) rfl ?_
      exact ⟨rfl, below_box3 HB2.out lt2 _ _ _ _⟩
    · show Calls _ _ _ _ fun e w' => e = .returned (.tuple #[subV (if !b || y then some (o1, o2, q) else none), .bool (if !b || y then some (o1, o2, q) else none).isSome]) ∧ _
      rw [show (if !b || y then some (o1, o2, q) else none) = some (o1, o2, q) by rcases hcase with rfl | ⟨rfl, rfl⟩ <;> simp]
      rcases hcase with rfl | ⟨rfl, rfl⟩
      all_goals go_enter Tryz.func63, Tryz.ntmps63
      all_goals go_wp2_with (first
        | (go_at_call 61; refine (HC.out _).mono ?_; rintro e w1 ⟨rfl, hb1⟩; have HK1 := Lib.hid ((Blk.new w [strV [], strV [], strV []] 32).below hb1 (by simp)); have HB1 := Lib.hid (((Below.refl w.heap.size w).alloc (Nat.le_refl _) _).trans (hb1.mono (by simp))); clear hb1)
        | (go_at_call 62; refine (HO2.out _).mono ?_; rintro e w2 ⟨rfl, hb2⟩; have hbk2 := HK1.out.below hb2 HK1.out.lt; have y0 := hbk2.cell (i := 0) (by simp); have y1 := hbk2.cell (i := 1) (by simp); have y2 := hbk2.cell (i := 2) (by simp); have f0 := hbk2.free 0; have f1 := hbk2.free 1; have f2 := hbk2.free 2; have lt2 := hbk2.lt; have HB2 := Lib.hid (HB1.out.trans (hb2.mono (Nat.le_of_lt HK1.out.lt))); clear hb2 hbk2 HK1 HB1)
        | (go_at_call 52; refine (HN.out _).mono ?_; rintro e w3 ⟨rfl, rfl⟩))
      all_goals refine bodyPost_ret (v := .tuple #[.agg #[strV o1, strV o2, strV q], .bool true]) (by simp [results, Tryz.results63, go_sem, y0, y1, y2, lt2]) rfl ?_
      all_goals exact ⟨rfl, below_box3 HB2.out lt2 _ _ _ _⟩
end Go.Proofs.YtehabjiacgibpaaGreat
