/-
  How many parts a schema has: as Few counts them; as the tokens it is parsed from bound them. No program is named.
  Few parts are few of each kind. No program is named.
  From a walk to a row: what every law of this seat shares. A law answers true and leaves what was there as it was; its arguments are numbers, bytes and texts. No conditions of its own.
  Arguments of this layer: an expression, a schema. No conditions.
  A schema as an argument, and how long its texts are. No conditions.
-/
import Derived.Test.YtehabjiacgibpaaCLpPa
import Derived.Test.YtehabjiacgibpaaCRoO
import Derived.Test.YtehabjiacgibpaaCFlat
import Derived.ProofKit
import Derived.OpenShut
import Derived.Carry
import Derived.SizedLaws
import Derived.Test.YtehabjiacgibpaaCRowT
import Derived.Lib.SmallJoins
namespace Go.Proofs.Ytehabjiacgibpaa
open Go.RowKit
def wR (x : Rl) : Nat := x.refs.length + nodes x.expr
def wRs : List Rl → Nat
  | [] => 0
  | x :: r => wR x + wRs r
def wTs : Sc → Nat
  | [] => 0
  | t :: r => 1 + wRs t.rels + wTs r
theorem nodes_pos (e : Ex) : 1 ≤ nodes e := by cases e; simp [nodes]
theorem weightL_pos : ∀ (l : List Ex) (m : Int), 0 < weightL l m → 0 < m
  | [], m, h => by unfold weightL at h; exact h
  | x :: r, m, h => by
    unfold weightL at h
    by_cases h0 : 0 < m
    · exact h0
    · rw [if_neg h0] at h; exact h
theorem weight_nodes : ∀ (e : Ex) (m : Int), 0 < weightE e m → weightE e m + nodes e = m := by
  intro e
  refine Ex.all (P := fun e => ∀ m : Int, 0 < weightE e m → weightE e m + nodes e = m) (fun k n o ks ih m => ?_) e
  have hL : ∀ (l : List Ex), (∀ x ∈ l, x ∈ ks) → ∀ m : Int, 0 < weightL l m → weightL l m + nodesL l = m := by
    intro l
    induction l with
    | nil => intro _ m h; unfold weightL nodesL; simp
    | cons x r ihr =>
      intro hs m h
      unfold weightL nodesL
      unfold weightL at h
      by_cases h0 : 0 < m
      · rw [if_pos h0] at h ⊢
        have h1 := ihr (fun y hy => hs y (List.mem_cons_of_mem _ hy)) (weightE x m) h
        have h2 := ih x (hs x (List.mem_cons_self ..)) m (weightL_pos _ _ h)
        push_cast
        omega
      · rw [if_neg h0] at h; exact absurd h h0
  intro h
  unfold weightE at h ⊢
  by_cases hk : m < ks.length
  · rw [if_pos hk] at h; omega
  · rw [if_neg hk] at h ⊢
    have := hL ks (fun _ h => h) (m - 1) h
    unfold nodes
    push_cast
    omega
theorem fewRs_pos (most : Int) : ∀ (l : List Rl) (n q : Int), fewRs most l n = some q → 0 < q → 0 < n ∧ q + wRs l = n
  | [], n, q, h, hq => by
    unfold fewRs at h
    injection h with h
    subst h
    exact ⟨hq, by simp [wRs]⟩
  | x :: r, n, q, h, hq => by
    unfold fewRs at h
    by_cases h0 : 0 < n
    · rw [if_pos h0] at h
      split at h
      · cases h
      · obtain ⟨h1, h2⟩ := fewRs_pos most r _ q h hq
        have h3 := weight_nodes _ _ h1
        refine ⟨h0, ?_⟩
        simp only [wRs, wR]
        push_cast
        omega
    · rw [if_neg h0] at h
      injection h with h
      omega
theorem fewTs_pos (most : Int) : ∀ (l : List Ty) (n q : Int), fewTs most l n = some q → 0 < q → 0 < n ∧ q + wTs l = n + l.length
  | [], n, q, h, hq => by
    unfold fewTs at h
    injection h with h
    subst h
    exact ⟨hq, by simp [wTs]⟩
  | t :: r, n, q, h, hq => by
    unfold fewTs at h
    by_cases h0 : 0 < n
    · rw [if_pos h0] at h
      split at h
      · cases h
      · cases hr : fewRs most t.rels n with
        | none => rw [hr] at h; cases h
        | some m =>
          rw [hr] at h
          obtain ⟨h1, h2⟩ := fewTs_pos most r m q h hq
          obtain ⟨_, h3⟩ := fewRs_pos most t.rels n m hr h1
          refine ⟨h0, ?_⟩
          simp only [wTs, List.length_cons]
          push_cast
          omega
    · rw [if_neg h0] at h
      injection h with h
      omega
theorem few_parts {s : Sc} {most : Int} (h : fewS s most = true) : (wTs s : Int) < most := by
  unfold fewS at h
  cases hr : fewTs most s (most - s.length) with
  | none => rw [hr] at h; cases h
  | some q =>
    rw [hr] at h
    have hq : 0 < q := of_decide_eq_true h
    obtain ⟨_, h2⟩ := fewTs_pos most s _ q hr hq
    omega
def Sz {α : Type} (x : Rs α) (g : α → Nat) (n : Nat) : Prop := ∀ a r, x = .ok a r → g a + r.length ≤ n
theorem Sz.then {α β : Type} {x : Rs α} {f : α → List Tk → Rs β} {g : α → Nat} {h : β → Nat} {n m : Nat} (hx : Sz x g n) (hf : ∀ a r, g a + r.length ≤ n → Sz (f a r) h m) : Sz (x.then f) h m := by
  intro b r hb
  obtain ⟨a, r', h1, h2⟩ := Rs.then_ok hb
  exact hf a r' (hx a r' h1) b r h2
theorem Sz.ok {α : Type} {g : α → Nat} {a : α} {r : List Tk} {n : Nat} (h : g a + r.length ≤ n) : Sz (.ok a r) g n := by
  intro b r' hb
  injection hb with h1 h2
  subst h1 h2; exact h
theorem Sz.no {α : Type} {g : α → Nat} {d : Dg} {n : Nat} : Sz (.no d : Rs α) g n := by
  intro b r' hb; cases hb
theorem Sz.mono {α : Type} {x : Rs α} {g : α → Nat} {n m : Nat} (h : Sz x g n) (hm : n ≤ m) : Sz x g m := fun a r ha => Nat.le_trans (h a r ha) hm
end Go.Proofs.Ytehabjiacgibpaa
namespace Go.Proofs.Ytehabjiacgibpaa
open Go.RowKit
theorem wRs_mem : ∀ {l : List Rl} {x : Rl}, x ∈ l → wR x ≤ wRs l
  | [], _, h => by cases h
  | y :: r, x, h => by
    rcases List.mem_cons.1 h with rfl | h
    · unfold wRs; omega
    · have := wRs_mem h
      unfold wRs; omega
theorem wRs_len : ∀ l : List Rl, l.length ≤ wRs l
  | [] => Nat.zero_le _
  | y :: r => by
    have := wRs_len r
    have h2 := nodes_pos y.expr
    unfold wRs wR
    rw [List.length_cons]; omega
theorem wTs_mem : ∀ {s : Sc} {t : Ty}, t ∈ s → wRs t.rels ≤ wTs s
  | [], _, h => by cases h
  | y :: r, x, h => by
    rcases List.mem_cons.1 h with rfl | h
    · unfold wTs; omega
    · have := wTs_mem h
      unfold wTs; omega
theorem refs_few {s : Sc} {t : Ty} {r : Rl} (ht : t ∈ s) (hr : r ∈ t.rels) : r.refs.length + nodes r.expr ≤ wTs s := by
  have h1 := wRs_mem hr
  have h2 := wTs_mem ht
  unfold wR at h1
  omega
theorem few_80 {s : Sc} (h : fewS s 80 = true) : wTs s ≤ 700 := by
  have := few_parts h
  omega
end Go.Proofs.Ytehabjiacgibpaa
namespace Go.Proofs.Ytehabjiacgibpaa
open Go.ChangeShapes Go.WideShapes Go.ChangeAt Go.RowKit
section
variable {H : Type} {enc : TypeId × Value → H} {P : Program}
theorem trodAll_stays (hl : laidOutB P = true) {W W' : World} (hb : Below W.heap.size W W') :
    ∀ {ts : List TypeId} {vs : List Value} {ds : List (DataW H)} {ps : List MemPlace}, (∀ t ∈ ts, P.readableRec t = true ∧ t < P.types.size) → (∀ x ∈ ps, x.block < W.heap.size) →
      DataW.TrodAll enc P W 0 (fun _ => true) true ts vs ds ps → DataW.TrodAll enc P W' 0 (fun b => decide (b < W.heap.size)) true ts vs ds ps
  | [], vs, ds, ps, _, _, h => by
    obtain ⟨rfl, rfl, rfl⟩ := trodAll_nil h
    exact trodAll_mk0
  | t :: ts, vs, ds, ps, ht, hlt, h => by
    obtain ⟨v, vs', d, ds', p, q, rfl, rfl, rfl, h1, h2⟩ := trodAll_cons h
    have ht0 := ht t (by simp)
    exact trodAll_cons_mk (Below.trod hl ht0.1 ht0.2 h1 hb (fun x hx => hlt x (by simp [hx]))) (trodAll_stays hl hb (fun t h => ht t (by simp [h])) (fun x hx => hlt x (by simp [hx])) h2)
theorem law_post {f : Func} {s : ChangeSpec} {tb : TypeId} (hvars : s.vars = []) (hres : f.resultTypes = #[tb]) (htb : P.underlying tb = some .bool) (hl : laidOutB P = true) (hread : ∀ t ∈ f.params.toList, P.readableRec t = true ∧ t < P.types.size)
    {W W' : World} {args : Array Value} {ds gs : List (DataW H)} {before : List MemPlace} (hW : DataW.Whole enc P f.params.toList s.vars false W args.toList ds gs before)
    (hfn : s.fn H (ds ++ gs) = { results := [.lit (.bool true)], args := ds }) (hb : Below W.heap.size W W') : s.post enc P f false true false false W args (.bool true) W' := by
  have hlt : ∀ p ∈ before, p.block < W.heap.size := fun p hp => hW.lt p hp
  have hW' := hW
  obtain ⟨p, q, hA, hV, rfl, _, _⟩ := hW
  rw [hvars] at hV
  obtain ⟨rfl, rfl⟩ := trodVars_none hV
  refine ⟨ds, [], _, [], p, [], hW', ?_, ?_, ?_, World.keptBut_mono (fun x hx => ⟨hx, ?_⟩) (hb.frame (· ∈ p ++ [])), fun h => by cases h⟩
  · rw [hfn, hres]
    exact trodAll_cons_mk (shut_bool htb _) trodAll_mk0
  · rw [hfn]
    exact trodAll_stays hl hb hread (fun x hx => hlt x (by simp [hx])) hA
  · rw [hfn, hvars]
    rfl
  · simpa using hx
theorem block_of_cell {w : World} {b o : Nat} {v : Value} (h : w.cell? ⟨b, o, none⟩ = some v) : b < w.heap.size := by
  rcases Nat.lt_or_ge b w.heap.size with hlt | hge
  · exact hlt
  · have hn : w.heap[b]? = none := Array.getElem?_eq_none hge
    simp [World.cell?, hn] at h
theorem open_bytes_cap {W : World} {t e : TypeId} {v : Value} {d : DataW H} {ps : List MemPlace} (ht : P.underlying t = some (.slice e)) (he : P.underlying e = some (.int .u8)) (hc : P.cellsOf e = 1)
    {r : Reach} {b0 : Nat} (hval : Value.okWide P W r b0 t v) (h : DataW.Trod enc P W 0 (fun _ => true) true t v d ps) :
    ∃ A l c, v = .slice A l.length c ∧ Seen W A l ∧ ((d = .nil ∧ l = []) ∨ ∃ elems spare, d = .slice elems spare ∧ elems.length = l.length) ∧ l.length ≤ c := by
  have hsl : ∀ cs, v.cells.toList = [cs] → v = cs := by
    obtain ⟨a, n, c, rfl⟩ := okWide_slice ht hval
    intro cs h
    simpa [Value.cells] using h
  obtain ⟨fuel, hf⟩ := h
  rcases open_ints ht he hc hf with ⟨h1, h2⟩ | ⟨a, len, cap, zs, h1, _, hlen, _, hz, h2, hcell, hwf⟩
  · obtain rfl := hsl _ h1
    injection h2 with h2 _
    exact ⟨none, [], 0, rfl, .inl rfl, .inl ⟨h2, rfl⟩, Nat.le_refl _⟩
  · obtain rfl := hsl _ h1
    injection h2 with h2 _
    rw [if_pos rfl] at hz
    have hl : ((zs.take len).map fun z => UInt8.ofNat z.toNat).length = len := by simp; omega
    refine ⟨some a, (zs.take len).map fun z => UInt8.ofNat z.toNat, cap, by rw [hl], ?_, .inr ⟨_, _, h2, by simp [lits]⟩, by rw [hl]; exact hlen⟩
    by_cases h0 : len = 0
    · subst h0; exact .inl (by simp)
    · obtain ⟨b, off, rfl, hc'⟩ := ints_at hcell (by omega)
      refine .inr ⟨b, off, rfl, block_of_cell (hc' 0 (by omega)), fun j hj => ?_⟩
      rw [hl] at hj
      rw [hc' j (by omega)]
      have hjz : j < zs.length := by omega
      have hm := hwf zs[j] (List.getElem_mem hjz)
      have hr : 0 ≤ zs[j] ∧ zs[j] ≤ 255 := by simpa [Lit.wf, IntKind.min, IntKind.max, IntKind.signed, IntKind.bits] using hm
      have e : (List.map (fun z : Int => UInt8.ofNat z.toNat) (zs.take len))[j]'(by rw [hl]; exact hj) = UInt8.ofNat zs[j].toNat := by simp
      rw [e, List.getD_eq_getElem?_getD, List.getElem?_eq_getElem hjz]
      show some (Value.int .u8 zs[j]) = _
      rw [UInt8.toNat_ofNat']
      congr 2
      omega
theorem open_bytes {W : World} {t e : TypeId} {v : Value} {d : DataW H} {ps : List MemPlace} (ht : P.underlying t = some (.slice e)) (he : P.underlying e = some (.int .u8)) (hc : P.cellsOf e = 1)
    {r : Reach} {b0 : Nat} (hval : Value.okWide P W r b0 t v) (h : DataW.Trod enc P W 0 (fun _ => true) true t v d ps) :
    ∃ A l c, v = .slice A l.length c ∧ Seen W A l ∧ ((d = .nil ∧ l = []) ∨ ∃ elems spare, d = .slice elems spare ∧ elems.length = l.length) := by
  obtain ⟨A, l, c, h1, h2, h3, _⟩ := open_bytes_cap ht he hc hval h
  exact ⟨A, l, c, h1, h2, h3⟩
theorem bytes_reach {ts : List TypeId} {ds : List (DataW H)} {j : Nat} {t e : TypeId} {l : List UInt8} {d : DataW H} (h : (DataW.weightsEach P ts ds).all (· ≤ reachBytes) = true) (ht : ts[j]? = some t) (hd : ds[j]? = some d) (hu : P.underlying t = some (.slice e)) (hby : P.bytesOf e = 1)
    (hl : (d = .nil ∧ l = []) ∨ ∃ elems spare, d = .slice elems spare ∧ elems.length = l.length) : l.length ≤ 140737488351232 := by
  rcases hl with ⟨_, rfl⟩ | ⟨elems, spare, rfl, he⟩
  · simp
  · have := sized_slice h ht hd hu
    rw [hby] at this
    have e : reachBytes = 140737488351232 := by decide
    omega
end
end Go.Proofs.Ytehabjiacgibpaa
namespace Go.Proofs.Ytehabjiacgibpaa
open Go.ChangeShapes Go.WideShapes Go.ChangeAt Go.RowKit
set_option maxRecDepth 100000
section
variable {H : Type} {enc : TypeId × Value → H} {W : World}
abbrev noF : Nat → Prop := fun _ => False
theorem open_fit {n : Nat} {cs : List Value} {y : DataW H × List MemPlace} (h : DataW.trod enc Try.prog W 0 (fun _ => true) true n 3 cs = some y) : ∃ z : Int, cs = [.int .i64 z] ∧ fitsI z := by
  obtain ⟨z, hz, _, wz⟩ := DataW.trod_int Try.underlying3 h
  exact ⟨z, hz, by unfold fitsI; simpa [Lit.wf, IntKind.min, IntKind.max, IntKind.signed, IntKind.bits] using wz⟩
end
end Go.Proofs.Ytehabjiacgibpaa
namespace Go.Proofs.Ytehabjiacgibpaa
open Go.ChangeShapes Go.WideShapes Go.ChangeAt Go.RowKit
set_option maxRecDepth 100000
mutual
def txE : Ex → List Txt
  | .mk _ n o ks => n :: o :: txL ks
def txL : List Ex → List Txt
  | [] => []
  | x :: r => txE x ++ txL r
end
def txF (x : Rf) : List Txt := [x.1, x.2]
def txR (x : Rl) : List Txt := x.name :: (x.refs.flatMap txF ++ txE x.expr)
def txT (t : Ty) : List Txt := t.name :: t.rels.flatMap txR
def txS (s : Sc) : List Txt := s.flatMap txT
theorem txL_mem {u : Txt} : ∀ {ks : List Ex}, u ∈ txL ks ↔ ∃ x ∈ ks, u ∈ txE x
  | [] => by unfold txL; simp
  | x :: r => by
    unfold txL
    rw [List.mem_append, txL_mem]
    simp
section
variable {H : Type} {enc : TypeId × Value → H} {W : World}
theorem weights_all {P : Program} {e : TypeId} : ∀ {l : List (DataW H)} {d : DataW H}, d ∈ l → ∀ n ∈ d.weights P e, n ∈ DataW.weightsAll P e l
  | d' :: r, d, hd, n, hn => by
    simp only [DataW.weightsAll, List.mem_append]
    rcases List.mem_cons.1 hd with rfl | h
    · exact Or.inl hn
    · exact Or.inr (weights_all h n hn)
def InW (P : Program) (t : TypeId) (l : List Txt) (d : DataW H) : Prop := ∀ u ∈ l, u.length ∈ d.weights P t
theorem InW.nil {P : Program} {t : TypeId} {d : DataW H} : InW P t [] d := fun u hu => by cases hu
theorem InW.slice {α : Type} {P : Program} {t e : TypeId} (ht : P.underlying t = some (.slice e)) {f : α → List Txt} {l : List α} {d : DataW H} (h : l = [] ∨ ∃ elems spare, d = .slice elems spare ∧ ∀ x ∈ l, ∃ y ∈ elems, InW P e (f x) y) : InW P t (l.flatMap f) d := by
  rcases h with rfl | ⟨elems, spare, rfl, h⟩
  · exact InW.nil
  · intro u hu
    obtain ⟨x, hx, hu⟩ := List.mem_flatMap.1 hu
    obtain ⟨y, hy, hw⟩ := h x hx
    simp only [DataW.weights, ht, List.mem_cons, List.mem_append]
    exact .inr (.inl (weights_all hy _ (hw u hu)))
theorem open_row_w {α : Type} {P : Program} {t e : TypeId} {k fuel : Nat} {R : World → (Nat → Prop) → α → List Value → Prop} {T : α → DataW H → Prop} {cs : List Value} {y : DataW H × List MemPlace} (ht : P.underlying t = some (.slice e)) (hk : P.cellsOf e = k) (hk0 : 0 < k)
    (hR : ∀ m, m < fuel → ∀ cs y, DataW.trod enc P W 0 (fun _ => true) true m e cs = some y → ∃ x, R W noF x cs ∧ T x y.1) (h : DataW.trod enc P W 0 (fun _ => true) true fuel t cs = some y) :
    ∃ (A : Option Addr) (l : List α) (c : Nat), cs = [.slice A l.length c] ∧ RowAt k R W noF A l ∧ (l.length ≤ c ∧ l.length ≤ 9223372036854775807) ∧ (l = [] ∨ ∃ elems spare, y.1 = .slice elems spare ∧ ∀ x ∈ l, ∃ d ∈ elems, T x d) := by
  rcases DataW.trod_slice ht h with ⟨h1, _⟩ | ⟨a, len, cap, elems, rest, n, hn, h1, hy, _, hlc, hcm, hlen, hel, _⟩
  · exact ⟨none, [], 0, h1, .inl rfl, by simp, .inl rfl⟩
  · subst h1
    have each : ∀ i, i < len → ∃ p : α × List Value, W.cells? 0 (a.add (i * k)) k = some p.2 ∧ R W noF p.1 p.2 ∧ ∃ d ∈ elems.map (·.1), T p.1 d := by
      intro i hi
      have := hel i hi
      rw [hk, List.getElem?_eq_getElem (by omega)] at this
      obtain ⟨cs, hcs, hy⟩ := Option.bind_eq_some_iff.1 this
      obtain ⟨x, hx, hT⟩ := hR n (by omega) cs _ hy
      exact ⟨(x, cs), hcs, hx, _, List.mem_map.2 ⟨_, List.getElem_mem _, rfl⟩, hT⟩
    by_cases h0 : len = 0
    · subst h0; exact ⟨some a, [], cap, rfl, .inl rfl, by simp, .inl rfl⟩
    haveI : Inhabited (α × List Value) := ⟨(each 0 (by omega)).choose⟩
    obtain ⟨f, hfo⟩ := Go.Deep.choose_lt each
    have hl : ((List.range len).map (fun i => (f i).1)).length = len := by simp
    refine ⟨some a, (List.range len).map (fun i => (f i).1), cap, by rw [hl], ?_, ⟨by rw [hl]; exact hlc, by rw [hl]; unfold maxLen at hcm; omega⟩, .inr ⟨_, _, by rw [hy], fun x hx => ?_⟩⟩
    · obtain ⟨b, off, spot⟩ := a
      have hspot : spot = none := by
        have h2 := (World.cells?_some (hfo 0 (by omega)).1).2.2 0 hk0
        have h3 := (World.cells?_some (hfo 0 (by omega)).1).2.1
        rw [List.getElem?_eq_getElem (by omega)] at h2
        simpa [Addr.add] using World.cell?_spot h2
      subst hspot
      have hc : ∀ i, i < len → ∀ j, j < k → W.cell? ⟨b, off + i * k + j, none⟩ = (f i).2[j]? := fun i hi j hj => by
        have := (World.cells?_some (hfo i hi).1).2.2 j hj
        rwa [add_plain, add_plain] at this
      have hb : b < W.heap.size := by
        have h2 := hc 0 (by omega) 0 hk0
        have h3 := (World.cells?_some (hfo 0 (by omega)).1).2.1
        rw [List.getElem?_eq_getElem (by omega)] at h2
        exact World.block_lt_of_cell? W _ h2
      refine .inr ⟨b, off, rfl, hb, fun h => h, fun j hj => ?_⟩
      rw [hl] at hj
      simp only [List.getElem_map, List.getElem_range]
      exact ⟨(f j).2, (hfo j hj).2.1, fun i hi => hc j hj i hi⟩
    · obtain ⟨i, hi, rfl⟩ := List.mem_map.1 hx
      exact (hfo i (List.mem_range.1 hi)).2.2
theorem struct1w {P : Program} {t : TypeId} {f0 : Field} {fuel : Nat} {cs : List Value} {y : DataW H × List MemPlace} (ht : P.underlying t = some (.struct #[f0])) (h : DataW.trod enc P W 0 (fun _ => true) true fuel t cs = some y) :
    ∃ y0 n, fuel = n + 1 ∧ cs.length = P.cellsOf t ∧ DataW.trod enc P W 0 (fun _ => true) true n f0.type ((cs.drop f0.offset).take (P.cellsOf f0.type)) = some y0 ∧ ∀ l : List Txt, (∀ u ∈ l, u.length ∈ y0.1.weights P f0.type) → InW P t l y.1 := by
  obtain ⟨xs, n, hn, rfl, hl, hlen, hf⟩ := DataW.trod_struct ht h
  match xs, hlen with
  | [y0], _ =>
    refine ⟨y0, n, hn, hl, by simpa using hf 0 f0 rfl, fun l hl u hu => ?_⟩
    have hu := hl u hu
    simp only [DataW.weights, ht, List.map_cons, List.map_nil, DataW.weightsEach, List.mem_append]
    simpa using hu
theorem struct2w {P : Program} {t : TypeId} {f0 f1 : Field} {fuel : Nat} {cs : List Value} {y : DataW H × List MemPlace} (ht : P.underlying t = some (.struct #[f0, f1])) (h : DataW.trod enc P W 0 (fun _ => true) true fuel t cs = some y) :
    ∃ y0 y1 n, fuel = n + 1 ∧ cs.length = P.cellsOf t ∧ DataW.trod enc P W 0 (fun _ => true) true n f0.type ((cs.drop f0.offset).take (P.cellsOf f0.type)) = some y0 ∧ DataW.trod enc P W 0 (fun _ => true) true n f1.type ((cs.drop f1.offset).take (P.cellsOf f1.type)) = some y1 ∧ ∀ l : List Txt, (∀ u ∈ l, u.length ∈ y0.1.weights P f0.type ∨ u.length ∈ y1.1.weights P f1.type) → InW P t l y.1 := by
  obtain ⟨xs, n, hn, rfl, hl, hlen, hf⟩ := DataW.trod_struct ht h
  match xs, hlen with
  | [y0, y1], _ =>
    refine ⟨y0, y1, n, hn, hl, by simpa using hf 0 f0 rfl, by simpa using hf 1 f1 rfl, fun l hl u hu => ?_⟩
    have hu := hl u hu
    simp only [DataW.weights, ht, List.map_cons, List.map_nil, DataW.weightsEach, List.mem_append]
    simpa using hu
theorem struct3w {P : Program} {t : TypeId} {f0 f1 f2 : Field} {fuel : Nat} {cs : List Value} {y : DataW H × List MemPlace} (ht : P.underlying t = some (.struct #[f0, f1, f2])) (h : DataW.trod enc P W 0 (fun _ => true) true fuel t cs = some y) :
    ∃ y0 y1 y2 n, fuel = n + 1 ∧ cs.length = P.cellsOf t ∧ DataW.trod enc P W 0 (fun _ => true) true n f0.type ((cs.drop f0.offset).take (P.cellsOf f0.type)) = some y0 ∧ DataW.trod enc P W 0 (fun _ => true) true n f1.type ((cs.drop f1.offset).take (P.cellsOf f1.type)) = some y1 ∧ DataW.trod enc P W 0 (fun _ => true) true n f2.type ((cs.drop f2.offset).take (P.cellsOf f2.type)) = some y2 ∧ ∀ l : List Txt, (∀ u ∈ l, u.length ∈ y0.1.weights P f0.type ∨ u.length ∈ y1.1.weights P f1.type ∨ u.length ∈ y2.1.weights P f2.type) → InW P t l y.1 := by
  obtain ⟨xs, n, hn, rfl, hl, hlen, hf⟩ := DataW.trod_struct ht h
  match xs, hlen with
  | [y0, y1, y2], _ =>
    refine ⟨y0, y1, y2, n, hn, hl, by simpa using hf 0 f0 rfl, by simpa using hf 1 f1 rfl, by simpa using hf 2 f2 rfl, fun l hl u hu => ?_⟩
    have hu := hl u hu
    simp only [DataW.weights, ht, List.map_cons, List.map_nil, DataW.weightsEach, List.mem_append]
    simpa using hu
theorem struct4w {P : Program} {t : TypeId} {f0 f1 f2 f3 : Field} {fuel : Nat} {cs : List Value} {y : DataW H × List MemPlace} (ht : P.underlying t = some (.struct #[f0, f1, f2, f3])) (h : DataW.trod enc P W 0 (fun _ => true) true fuel t cs = some y) :
    ∃ y0 y1 y2 y3 n, fuel = n + 1 ∧ cs.length = P.cellsOf t ∧ DataW.trod enc P W 0 (fun _ => true) true n f0.type ((cs.drop f0.offset).take (P.cellsOf f0.type)) = some y0 ∧ DataW.trod enc P W 0 (fun _ => true) true n f1.type ((cs.drop f1.offset).take (P.cellsOf f1.type)) = some y1 ∧ DataW.trod enc P W 0 (fun _ => true) true n f2.type ((cs.drop f2.offset).take (P.cellsOf f2.type)) = some y2 ∧ DataW.trod enc P W 0 (fun _ => true) true n f3.type ((cs.drop f3.offset).take (P.cellsOf f3.type)) = some y3 ∧ ∀ l : List Txt, (∀ u ∈ l, u.length ∈ y0.1.weights P f0.type ∨ u.length ∈ y1.1.weights P f1.type ∨ u.length ∈ y2.1.weights P f2.type ∨ u.length ∈ y3.1.weights P f3.type) → InW P t l y.1 := by
  obtain ⟨xs, n, hn, rfl, hl, hlen, hf⟩ := DataW.trod_struct ht h
  match xs, hlen with
  | [y0, y1, y2, y3], _ =>
    refine ⟨y0, y1, y2, y3, n, hn, hl, by simpa using hf 0 f0 rfl, by simpa using hf 1 f1 rfl, by simpa using hf 2 f2 rfl, by simpa using hf 3 f3 rfl, fun l hl u hu => ?_⟩
    have hu := hl u hu
    simp only [DataW.weights, ht, List.map_cons, List.map_nil, DataW.weightsEach, List.mem_append]
    simpa using hu
theorem open_txt_w {n : Nat} {cs : List Value} {y : DataW H × List MemPlace} (h : DataW.trod enc Try.prog W 0 (fun _ => true) true n 9 cs = some y) : ∃ l : Txt, cs = [strV l] ∧ small l ∧ l.length ∈ y.1.weights Try.prog 9 := by
  obtain ⟨s, hs, hy, hm⟩ := DataW.trod_string Try.underlying9 h
  refine ⟨s.data.toList, hs, ?_, ?_⟩
  · unfold maxLen at hm
    unfold small
    rw [size_list]; exact hm
  · rw [hy]
    simp [DataW.weights]
theorem open_ex_w : ∀ (n : Nat) (cs : List Value) (y : DataW H × List MemPlace), DataW.trod enc Try.prog W 0 (fun _ => true) true n 56 cs = some y → ∃ e : Ex, ExAt W noF e cs ∧ InW Try.prog 56 (txE e) y.1 := by
  intro n
  induction n using Nat.strongRecOn with
  | _ n ih =>
    intro cs y h
    have ci : Try.prog.cellsOf 3 = 1 := by kernel_rfl
    have cs1 : Try.prog.cellsOf 9 = 1 := by kernel_rfl
    have ck : Try.prog.cellsOf 54 = 1 := by kernel_rfl
    obtain ⟨y0, y1, y2, y3, m, hm, hl, h0, h1, h2, h3, hw⟩ := struct4w Try.underlying56 h
    have hl4 : cs.length = 4 := by rw [hl]; kernel_rfl
    obtain ⟨v0, v1, v2, v3, rfl⟩ : ∃ v0 v1 v2 v3, cs = [v0, v1, v2, v3] := by
      match cs, hl4 with
      | [a, b, c, d], _ => exact ⟨a, b, c, d, rfl⟩
    simp only [ci, cs1, ck, List.drop_zero, List.take_succ_cons, List.take_zero, List.drop_succ_cons] at h0 h1 h2 h3
    obtain ⟨z, e0, b0⟩ := open_fit h0
    obtain ⟨a, e1, b1, w1⟩ := open_txt_w h1
    obtain ⟨o, e2, b2, w2⟩ := open_txt_w h2
    obtain ⟨A, ks, c, e3, hr, b3, w3⟩ := open_row_w (k := 4) (R := ExAt) (T := fun e d => InW Try.prog 56 (txE e) d) Try.underlying54 (by kernel_rfl) (by decide) (fun j hj cs y hy => ih j (by omega) cs y hy) h3
    injection e0 with e0 _
    injection e1 with e1 _
    injection e2 with e2 _
    injection e3 with e3 _
    subst e0 e1 e2 e3
    refine ⟨.mk z a o ks, ExAt.of_row ⟨b0, b1, b2, b3.2⟩ hr, hw _ (fun u hu => ?_)⟩
    unfold txE at hu
    rcases List.mem_cons.1 hu with rfl | hu
    · exact .inr (.inl w1)
    rcases List.mem_cons.1 hu with rfl | hu
    · exact .inr (.inr (.inl w2))
    · refine .inr (.inr (.inr (InW.slice Try.underlying54 (f := txE) w3 u ?_)))
      obtain ⟨x, hx, hu⟩ := txL_mem.1 hu
      exact List.mem_flatMap.2 ⟨x, hx, hu⟩
theorem open_rf_w (n : Nat) (cs : List Value) (y : DataW H × List MemPlace) (h : DataW.trod enc Try.prog W 0 (fun _ => true) true n 67 cs = some y) : ∃ x : Rf, RfAt W noF x cs ∧ InW Try.prog 67 (txF x) y.1 := by
  have cs1 : Try.prog.cellsOf 9 = 1 := by kernel_rfl
  obtain ⟨y0, y1, m, hm, hl, h0, h1, hw⟩ := struct2w Try.underlying67 h
  have hl2 : cs.length = 2 := by rw [hl]; kernel_rfl
  obtain ⟨v0, v1, rfl⟩ : ∃ v0 v1, cs = [v0, v1] := by
    match cs, hl2 with
    | [a, b], _ => exact ⟨a, b, rfl⟩
  simp only [cs1, List.drop_zero, List.take_succ_cons, List.take_zero, List.drop_succ_cons] at h0 h1
  obtain ⟨a, e0, b0, w0⟩ := open_txt_w h0
  obtain ⟨b, e1, b1, w1⟩ := open_txt_w h1
  injection e0 with e0 _
  injection e1 with e1 _
  subst e0 e1
  refine ⟨(a, b), ⟨rfl, b0, b1⟩, hw _ (fun u hu => ?_)⟩
  unfold txF at hu
  rcases List.mem_cons.1 hu with rfl | hu
  · exact .inl w0
  · rw [List.mem_singleton.1 hu]
    exact .inr w1
theorem open_rl_w (n : Nat) (cs : List Value) (y : DataW H × List MemPlace) (h : DataW.trod enc Try.prog W 0 (fun _ => true) true n 58 cs = some y) : ∃ x : Rl, RlAt W noF x cs ∧ InW Try.prog 58 (txR x) y.1 := by
  have cs1 : Try.prog.cellsOf 9 = 1 := by kernel_rfl
  have cr : Try.prog.cellsOf 53 = 1 := by kernel_rfl
  have ce : Try.prog.cellsOf 56 = 4 := by kernel_rfl
  obtain ⟨y0, y1, y2, m, hm, hl, h0, h1, h2, hw⟩ := struct3w Try.underlying58 h
  have hl6 : cs.length = 6 := by rw [hl]; kernel_rfl
  obtain ⟨v0, v1, v2, v3, v4, v5, rfl⟩ : ∃ v0 v1 v2 v3 v4 v5, cs = [v0, v1, v2, v3, v4, v5] := by
    match cs, hl6 with
    | [a, b, c, d, e, f], _ => exact ⟨a, b, c, d, e, f, rfl⟩
  simp only [cs1, cr, ce, List.drop_zero, List.take_succ_cons, List.take_zero, List.drop_succ_cons] at h0 h1 h2
  obtain ⟨a, e0, b0, w0⟩ := open_txt_w h0
  obtain ⟨A, rs, c, e1, hr, b1, w1⟩ := open_row_w (k := 2) (R := RfAt) (T := fun x d => InW Try.prog 67 (txF x) d) Try.underlying53 (by kernel_rfl) (by decide) (fun j _ cs y hy => open_rf_w j cs y hy) h1
  obtain ⟨e, he, w2⟩ := open_ex_w _ _ _ h2
  injection e0 with e0 _
  injection e1 with e1 _
  subst e0 e1
  refine ⟨⟨a, rs, e⟩, ⟨A, c, _, rfl, ⟨b0, b1.2⟩, hr, he⟩, hw _ (fun u hu => ?_)⟩
  unfold txR at hu
  rcases List.mem_cons.1 hu with rfl | hu
  · exact .inl w0
  rcases List.mem_append.1 hu with hu | hu
  · exact .inr (.inl (InW.slice Try.underlying53 (f := txF) w1 u hu))
  · exact .inr (.inr (w2 u hu))
theorem open_ty_w (n : Nat) (cs : List Value) (y : DataW H × List MemPlace) (h : DataW.trod enc Try.prog W 0 (fun _ => true) true n 52 cs = some y) : ∃ x : Ty, TyAt W noF x cs ∧ InW Try.prog 52 (txT x) y.1 := by
  have cs1 : Try.prog.cellsOf 9 = 1 := by kernel_rfl
  have cr : Try.prog.cellsOf 50 = 1 := by kernel_rfl
  obtain ⟨y0, y1, m, hm, hl, h0, h1, hw⟩ := struct2w Try.underlying52 h
  have hl2 : cs.length = 2 := by rw [hl]; kernel_rfl
  obtain ⟨v0, v1, rfl⟩ : ∃ v0 v1, cs = [v0, v1] := by
    match cs, hl2 with
    | [a, b], _ => exact ⟨a, b, rfl⟩
  simp only [cs1, cr, List.drop_zero, List.take_succ_cons, List.take_zero, List.drop_succ_cons] at h0 h1
  obtain ⟨a, e0, b0, w0⟩ := open_txt_w h0
  obtain ⟨A, rs, c, e1, hr, b1, w1⟩ := open_row_w (k := 6) (R := RlAt) (T := fun x d => InW Try.prog 58 (txR x) d) Try.underlying50 (by kernel_rfl) (by decide) (fun j _ cs y hy => open_rl_w j cs y hy) h1
  injection e0 with e0 _
  injection e1 with e1 _
  subst e0 e1
  refine ⟨⟨a, rs⟩, ⟨A, c, rfl, ⟨⟨b0, b1.1⟩, b1.2⟩, hr⟩, hw _ (fun u hu => ?_)⟩
  unfold txT at hu
  rcases List.mem_cons.1 hu with rfl | hu
  · exact .inl w0
  · exact .inr (InW.slice Try.underlying50 (f := txR) w1 u hu)
theorem open_schema_w {v : Value} {d : DataW H} {ps : List MemPlace} {r : Reach} {b0 : Nat} (hval : Value.okWide Try.prog W r b0 24 v) (h : DataW.Trod enc Try.prog W 0 (fun _ => true) true 24 v d ps) :
    ∃ (A : Option Addr) (s : Sc) (c : Nat), v = .agg #[.slice A s.length c] ∧ ScAt W noF A s ∧ (s.length ≤ 9223372036854775807 ∧ s.length ≤ c) ∧ InW Try.prog 24 (txS s) d := by
  obtain ⟨cs, rfl, hsz⟩ := okWide_struct Try.underlying24 hval
  obtain ⟨fuel, hf⟩ := h
  have hf' : DataW.trod enc Try.prog W 0 (fun _ => true) true fuel 24 cs.toList = some (d, ps) := by simpa [Value.cells] using hf
  have hl1 : cs.toList.length = 1 := by rw [Array.length_toList, hsz]; kernel_rfl
  obtain ⟨v0, hcs⟩ : ∃ v0, cs.toList = [v0] := by
    match cs.toList, hl1 with
    | [a], _ => exact ⟨a, rfl⟩
  have ecs : cs = #[v0] := Array.toList_inj.1 hcs
  subst ecs
  obtain ⟨y0, n, _, _, h0, hw⟩ := struct1w Try.underlying24 hf'
  have ct : Try.prog.cellsOf 22 = 1 := by kernel_rfl
  simp only [ct, List.drop_zero, List.take_succ_cons, List.take_zero] at h0
  obtain ⟨A, s, c, e0, hr, b, w0⟩ := open_row_w (k := 2) (R := TyAt) (T := fun x d => InW Try.prog 52 (txT x) d) Try.underlying22 (by kernel_rfl) (by decide) (fun j _ cs y hy => open_ty_w j cs y hy) h0
  injection e0 with e0 _
  subst e0
  exact ⟨A, s, c, rfl, hr, ⟨b.2, b.1⟩, hw _ (fun u hu => InW.slice Try.underlying22 (f := txT) w0 u hu)⟩
theorem texts_reach {ts : List TypeId} {ds : List (DataW H)} {j : Nat} {l : List Txt} {d : DataW H} (h : (DataW.weightsEach Try.prog ts ds).all (· ≤ reachBytes) = true) (ht : ts[j]? = some 24) (hd : ds[j]? = some d) (hw : InW Try.prog 24 l d) :
    ∀ u ∈ l, u.length ≤ 140737488351232 := fun u hu => by
  have h1 := List.all_eq_true.1 h _ (DataW.weights_mem_each ht hd _ (hw u hu))
  have e : reachBytes = 140737488351232 := by decide
  have h2 := of_decide_eq_true h1
  omega
end
end Go.Proofs.Ytehabjiacgibpaa
