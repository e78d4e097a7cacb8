/-
  The small questions of a page: isLeaf, count; leaf and above, which make one. Conditions: lengths are ints; above asks for a page at least.
-/
import Derived.Test.YtaeocbgmoijedaaChecked
import Derived.Test.YtaeocbgmoijedaaTrM
import Derived.Deep.RegionWith
import Derived.Outline
namespace Go.Proofs.Ytaeocbgmoijedaa
open Go.RowKit

theorem isLeaf_yes (w : World) (A0 A1 : Option Addr) (n0 c0 n1 c1 : Nat) :
    Calls Try.prog 43 #[.agg #[.slice A0 n0 c0, .slice A1 n1 c1, .slice none 0 0]] w fun e w' => e = .returned (.bool true) ∧ Below w.heap.size w w' := by
  go_enter Try.func43, Try.ntmps43
  go_wp2
  go_ret
  exact ⟨rfl, (Below.refl _ _).alloc (Nat.le_refl _) _⟩
theorem isLeaf_no (w : World) (A0 A1 A2 : Option Addr) (n0 c0 n1 c1 n2 c2 : Nat) (h : 0 < n2) :
    Calls Try.prog 43 #[.agg #[.slice A0 n0 c0, .slice A1 n1 c1, .slice A2 n2 c2]] w fun e w' => e = .returned (.bool false) ∧ Below w.heap.size w w' := by
  have h1 : ((n2 : Int) == 0) = false := by rw [beq_eq_false_iff_ne]; omega
  go_enter Try.func43, Try.ntmps43
  go_wp2
  go_ret
  exact ⟨rfl, (Below.refl _ _).alloc (Nat.le_refl _) _⟩
theorem count_any (w : World) (A0 A1 A2 : Option Addr) (n0 c0 n1 c1 n2 c2 : Nat) (h1 : n1 ≤ 1000000) (h2 : n2 ≤ 1000000) :
    Calls Try.prog 50 #[.agg #[.slice A0 n0 c0, .slice A1 n1 c1, .slice A2 n2 c2]] w fun e w' => e = .returned (.int .i64 ((n1 : Int) + (n2 : Int))) ∧ Below w.heap.size w w' := by
  go_enter Try.func50, Try.ntmps50
  go_wp2
  go_ret
  exact ⟨rfl, (Below.refl _ _).alloc (Nat.le_refl _) _⟩

theorem count_leaf (w : World) (A0 A1 : Option Addr) (n0 c0 n1 c1 : Nat) (h1 : n1 ≤ 1000000) :
    Calls Try.prog 50 #[.agg #[.slice A0 n0 c0, .slice A1 n1 c1, .slice none 0 0]] w fun e w' => e = .returned (.int .i64 (n1 : Int)) ∧ Below w.heap.size w w' := by
  have := count_any w A0 A1 none n0 c0 n1 c1 0 0 h1 (by omega)
  rwa [show ((n1 : Int) + ((0 : Nat) : Int)) = (n1 : Int) by omega] at this
theorem count_node (w : World) (A0 A2 : Option Addr) (n0 c0 n2 c2 : Nat) (h2 : n2 ≤ 1000000) :
    Calls Try.prog 50 #[.agg #[.slice A0 n0 c0, .slice none 0 0, .slice A2 n2 c2]] w fun e w' => e = .returned (.int .i64 (n2 : Int)) ∧ Below w.heap.size w w' := by
  have := count_any w A0 none A2 n0 c0 0 0 n2 c2 (by omega) h2
  rwa [show (((0 : Nat) : Int) + (n2 : Int)) = (n2 : Int) by omega] at this

theorem leaf_walk (w : World) (b off n c : Nat) (A0 : Option Addr) (n0 c0 : Nat) (hb : b < w.heap.size) (hc : w.cell? ⟨b, off, none⟩ = some (.slice A0 n0 c0)) (hp : 0 < n) :
    Calls Try.prog 44 #[.slice (some ⟨b, off, none⟩) n c] w fun e w' => e = .returned (.agg #[.slice A0 n0 c0, .slice (some ⟨b, off, none⟩) n c, .slice none 0 0]) ∧ Below w.heap.size w w' := by
  have hlt : (0 : Int) < (n : Int) := by omega
  have hne : ((n : Int) == 0) = false := by rw [beq_eq_false_iff_ne]; omega
  go_enter Try.func44, Try.ntmps44
  go_wp2
  refine bodyPost_ret (v := .agg #[.slice A0 n0 c0, .slice (some ⟨b, off, none⟩) n c, .slice none 0 0]) (by simp [results, Try.results44, go_sem]) rfl ⟨rfl, (Below.refl _ _).alloc (Nat.le_refl _) _⟩
theorem leaf_none (w : World) (A : Option Addr) (c : Nat) :
    Calls Try.prog 44 #[.slice A 0 c] w fun e w' => e = .returned (.agg #[.slice none 0 0, .slice none 0 0, .slice none 0 0]) ∧ Below w.heap.size w w' := by
  go_enter Try.func44, Try.ntmps44
  go_wp2
  exact bodyPost_ret (v := .agg #[.slice none 0 0, .slice none 0 0, .slice none 0 0]) (by simp [results, Try.results44, go_sem]) rfl ⟨rfl, (Below.refl _ _).alloc (Nat.le_refl _) _⟩
theorem above_walk (w : World) (b off n c : Nat) (A0 : Option Addr) (n0 c0 : Nat) (hb : b < w.heap.size) (hc : w.cell? ⟨b, off, none⟩ = some (.slice A0 n0 c0)) (hp : 0 < n) :
    Calls Try.prog 45 #[.slice (some ⟨b, off, none⟩) n c] w fun e w' => e = .returned (.agg #[.slice A0 n0 c0, .slice none 0 0, .slice (some ⟨b, off, none⟩) n c]) ∧ Below w.heap.size w w' := by
  have hlt : (0 : Int) < (n : Int) := by omega
  go_enter Try.func45, Try.ntmps45
  go_wp2
  exact bodyPost_ret (v := .agg #[.slice A0 n0 c0, .slice none 0 0, .slice (some ⟨b, off, none⟩) n c]) (by simp [results, Try.results45, go_sem]) rfl ⟨rfl, (Below.refl _ _).alloc (Nat.le_refl _) _⟩

/-- a page that has l, as it lies -/
structure IsPg (w : World) (F : Nat → Prop) (h : Nat) (l : List (El h)) (p : Pg h) : Prop where
  els : p.els = l
  ok : EOk w F (h + 1) p
  inner : Inner (h + 1) p
theorem IsPg.below {w w' : World} {F : Nat → Prop} {h : Nat} {l : List (El h)} {p : Pg h} (hp : IsPg w F h l p) (hb : Below w.heap.size w w') : IsPg w' F h l p := ⟨hp.els, hp.ok.below hb, hp.inner⟩
theorem IsPg.flat {w : World} {F : Nat → Prop} {h : Nat} {l : List (El h)} {p : Pg h} (hp : IsPg w F h l p) : eflat (h + 1) p = flats h l := by rw [eflat_succ, hp.els]
theorem IsPg.count {w : World} {F : Nat → Prop} {h : Nat} {l : List (El h)} {p : Pg h} (hp : IsPg w F h l p) : ecount (h + 1) p = l.length := by rw [← hp.els]; rfl
theorem IsPg.mk_ {w : World} {F : Nat → Prop} {h : Nat} {A : Option Addr} {l : List (El h)} {c : Nat} (h1 : Cells w F A (rowCells h l)) (h2 : AllOk w F h l) (h3 : l.length ≤ c) (h4 : ∀ x ∈ l, Full h x) : IsPg w F h l (mkPg h A l c) :=
  ⟨rfl, mkPg_ok h A l c h1 h2 h3, mkPg_inner h A l c h4⟩
theorem full_pair (q : El 0) : Full 0 q := ⟨⟨Nat.le_refl _, (by decide : 4 ≤ 8)⟩, trivial⟩
/-- the value of a page -/
def pval (h : Nat) (p : Pg h) : Value := .agg (ecells (h + 1) p).toArray

/-- the page of pairs -/
theorem leaf_any (w : World) (F : Nat → Prop) (A : Option Addr) (l : List (El 0)) (n c : Nat) (h1 : Cells w F A (rowCells 0 l)) (h2 : AllOk w F 0 l) (hn : l.length = n) (hc : n ≤ c) :
    Calls Try.prog 44 #[.slice A n c] w fun e w' => (∃ p : Pg 0, e = .returned (pval 0 p) ∧ IsPg w F 0 l p) ∧ Below w.heap.size w w' := by
  subst hn
  have hI := IsPg.mk_ h1 h2 hc (fun x _ => full_pair x)
  cases l with
  | nil =>
    refine (leaf_none w A c).mono ?_
    rintro e w' ⟨rfl, hb⟩
    exact ⟨⟨mkPg 0 none [] 0, rfl, IsPg.mk_ (.inl rfl) (fun x hx => by cases hx) (Nat.le_refl _) (fun x hx => by cases hx)⟩, hb⟩
  | cons q r =>
    obtain ⟨b, off, rfl, hb, _, hcell⟩ := h1.elem 0 (by simp)
    have c1 : w.cell? ⟨b, off, none⟩ = some (pv (epiece 0 q)) := by have := hcell 0 (by decide); rw [Nat.zero_mul, Nat.add_zero] at this; exact this
    refine (leaf_walk w b off _ c _ _ _ hb c1 (by simp)).mono ?_
    rintro e w' ⟨rfl, hb⟩
    exact ⟨⟨mkPg 0 (some ⟨b, off, none⟩) (q :: r) c, rfl, hI⟩, hb⟩
/-- the page that refers to pages -/
theorem above_any (w : World) (F : Nat → Prop) (h : Nat) (A : Option Addr) (l : List (El (h + 1))) (n c : Nat) (h1 : Cells w F A (rowCells (h + 1) l)) (h2 : AllOk w F (h + 1) l) (hf : ∀ x ∈ l, Full (h + 1) x) (hn : l.length = n) (hc : n ≤ c) (hp : 0 < n) :
    Calls Try.prog 45 #[.slice A n c] w fun e w' => (∃ p : Pg (h + 1), e = .returned (pval (h + 1) p) ∧ IsPg w F (h + 1) l p) ∧ Below w.heap.size w w' := by
  subst hn
  have hI := IsPg.mk_ h1 h2 hc hf
  cases l with
  | nil => simp at hp
  | cons q r =>
    obtain ⟨b, off, rfl, hb, _, hcell⟩ := h1.elem 0 (by simp)
    have c1 : w.cell? ⟨b, off, none⟩ = some (pv (epiece (h + 1) q)) := by
      have := hcell 0 (by decide : 0 < 3)
      rw [Nat.zero_mul, Nat.add_zero] at this
      rw [this]
      cases h <;> rfl
    refine (above_walk w b off _ c _ _ _ hb c1 hp).mono ?_
    rintro e w' ⟨rfl, hb⟩
    exact ⟨⟨mkPg (h + 1) (some ⟨b, off, none⟩) (q :: r) c, rfl, hI⟩, hb⟩
end Go.Proofs.Ytaeocbgmoijedaa
