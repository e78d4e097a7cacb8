/-
  When a schema may be, and what its levels are, said of ways alone. No condition.
  The index of the same types in another order is the same. No condition.
  Types in another order: sound as before, with the same greatest weights. No condition.
  A type more, that nothing names: sound as before, with the same greatest weights. Condition: no type has its name.
  Cuts of rows of types and of rows of numbers; whole rows appended; rows put together of parts of others. Conditions: the bounds of the cuts.
  A row of types appended onto nothing. Conditions: the row is there; at most 1,000,000 types.
-/
import Derived.Test.YtdnhbledndgbcaaGreatCRoQe
import Derived.Test.YtdnhbledndgbcaaGreatCLaF
import Derived.Test.YtdnhbledndgbcaaGreatCRoCx
import Derived.Test.YtdnhbledndgbcaaGreatCRoI
import Derived.Test.YtdnhbledndgbcaaGreatCRuQ
namespace Go.Proofs.YtdnhbledndgbcaaGreat
open Go.RowKit
def BW (kn : Kn) : Prop := ∃ B, ∀ y n, WayK kn y n → n ≤ B
structure Sound (s : Sc) : Prop where
  ne : s.length ≠ 0
  len : s.length ≤ 16
  rels : ∀ t ∈ s, t.rels.length ≤ 16
  ok : OkN s
  bw : BW (knS s)
def Top (kn : Kn) (f : Nk → Nat) : Prop := ∀ y, WayK kn y (f y) ∧ ∀ n, WayK kn y n → n ≤ f y
theorem Top.same {kn : Kn} {f g : Nk → Nat} (hf : Top kn f) (hg : Top kn g) (y : Nk) : f y = g y := by
  have h1 := (hf y).2 _ (hg y).1
  have h2 := (hg y).2 _ (hf y).1
  omega
theorem max_of {P : Nat → Prop} (h0 : P 0) : ∀ (B : Nat), (∀ n, P n → n ≤ B) → ∃ v, P v ∧ ∀ n, P n → n ≤ v
  | 0, h => ⟨0, h0, h⟩
  | B + 1, h => by
    by_cases hB : P (B + 1)
    · exact ⟨B + 1, hB, h⟩
    · exact max_of h0 B (fun n hn => by
        have h1 := h n hn
        by_cases e : n = B + 1
        · exact absurd (e ▸ hn) hB
        · omega)
theorem BW.top {kn : Kn} (h : BW kn) : ∃ f, Top kn f := by
  obtain ⟨B, hB⟩ := h
  have h1 : ∀ y, ∃ v, WayK kn y v ∧ ∀ n, WayK kn y n → n ≤ v := fun y => max_of (P := fun n => WayK kn y n) (.nil y) B (hB y)
  exact ⟨fun y => (h1 y).choose, fun y => (h1 y).choose_spec⟩
theorem Top.lower {s : Sc} {f : Nk → Nat} (h : Top (knS s) f) {x : Nk} {n : Nat} (hw : WayK (knS s) x n) : f x = n → ∀ k, 1 ≤ k → k ≤ n → ∃ y ∈ relNodes s, f y = k := by
  induction hw with
  | nil x => intro _ k h1 h2; omega
  | @cons x y st n he hn ih =>
    intro hx k h1 h2
    have h3 := (h x).2 _ (.cons he (h y).1)
    have h4 := (h y).2 _ hn
    have h5 := he.le
    have h6 : f y = n := by omega
    by_cases hk : k ≤ n
    · exact ih h6 k h1 hk
    · exact ⟨x, he.node, by omega⟩
theorem Top.small {s : Sc} {f : Nk → Nat} (h : Top (knS s) f) (x : Nk) : f x ≤ manyN s := by
  have h4 := h.lower (h x).1 rfl
  have h5 := nodup_le ((List.range (f x)).map (· + 1)) ((relNodes s).map f) (by
    rw [List.nodup_iff_pairwise_ne, List.pairwise_map]
    exact (List.nodup_iff_pairwise_ne.1 List.nodup_range).imp (fun h e => h (by omega))) (fun k hk => by
    obtain ⟨j, hj, rfl⟩ := List.mem_map.1 hk
    have := List.mem_range.1 hj
    obtain ⟨y, hy, e⟩ := h4 (j + 1) (by omega) (by omega)
    exact List.mem_map.2 ⟨y, hy, e⟩)
  rw [List.length_map, List.length_map, List.length_range, relNodes_len] at h5
  omega
theorem way_rel {s : Sc} {y : Nk} {n : Nat} (hy : y ∉ relNodes s) (hw : WayK (knS s) y n) : n = 0 := by
  cases hw with
  | nil => rfl
  | cons he _ => exact absurd he.node hy
theorem Highs.top {s : Sc} {m : Nat} {HL : List (Nk × Nat)} (h : Highs (knS s) m HL) (hm : manyN s < m) (hb : BW (knS s)) : Top (knS s) (hv HL) ∧ ∀ y, hv HL y < m := by
  obtain ⟨f, hf⟩ := hb.top
  have h1 : ∀ y, hv HL y = f y := fun y => by
    obtain ⟨n, h2, h3⟩ := h.way y
    have h4 := (hf y).2 _ h2
    have h5 := h.le (hf y).1
    have h6 := hf.small y
    omega
  refine ⟨fun y => by rw [h1]; exact hf y, fun y => ?_⟩
  have := hf.small y
  rw [h1]
  omega
theorem Highs.bw {s : Sc} {m : Nat} {HL : List (Nk × Nat)} (h : Highs (knS s) m HL) (hlt : ∀ y ∈ relNodes s, hv HL y < m) : BW (knS s) := ⟨m, fun y n hw => by
  by_cases hy : y ∈ relNodes s
  · have h1 := h.le hw
    have h2 := hlt y hy
    omega
  · rw [way_rel hy hw]
    exact Nat.zero_le _⟩
theorem firstN_none {α : Type} {p : Nat → α → Bool} : ∀ (l : List α) (i : Nat), (∀ j (h : j < l.length), p (i + j) l[j] = false) → firstN p l i = none
  | [], _, _ => rfl
  | x :: r, i, h => by
    have h0 := h 0 (by simp)
    rw [Nat.add_zero] at h0
    have h0 : p i x = false := h0
    rw [firstN, h0]
    exact firstN_none r (i + 1) (fun j hj => by
      have := h (j + 1) (by simpa using hj)
      rwa [show i + (j + 1) = i + 1 + j by omega] at this)
theorem twiceTs_none : ∀ (s : Sc) (k : Nat), (∀ t ∈ s, twiceR t.rels = none) → twiceTs k s = none
  | [], _, _ => rfl
  | x :: r, k, h => by
    rw [twiceTs, h x (List.mem_cons_self ..)]
    exact twiceTs_none r (k + 1) (fun t ht => h t (List.mem_cons_of_mem _ ht))
theorem badR_val {s : Sc} {t : Nat} {P : Nat → Prop} : ∀ (l : List Rl) (k : Nat), (∀ x ∈ l, P (namesN s t x)) → ∀ f, badR s t l k = some f → P f.2.2 ∧ f.2.2 ≠ 0
  | [], _, _, f, h => by cases h
  | x :: r, k, hP, f, h => by
    unfold badR at h
    by_cases h0 : namesN s t x ≠ 0
    · rw [if_pos h0] at h
      injection h with h
      subst h
      exact ⟨hP x (List.mem_cons_self ..), h0⟩
    · rw [if_neg h0] at h
      exact badR_val r (k + 1) (fun y hy => hP y (List.mem_cons_of_mem _ hy)) f h
theorem badT_val {s : Sc} {P : Nat → Prop} : ∀ (l : Sc) (t : Nat), (∀ i (hi : i < l.length), ∀ x ∈ l[i].rels, P (namesN s (t + i) x)) → ∀ f, badT s l t = some f → P f.2.2 ∧ f.2.2 ≠ 0
  | [], _, _, f, h => by cases h
  | x :: r, t, hP, f, h => by
    unfold badT at h
    cases hb : badR s t x.rels 0 with
    | some g =>
      rw [hb] at h
      injection h with h
      subst h
      exact badR_val x.rels 0 (fun y hy => by
        have := hP 0 (by simp) y hy
        rwa [Nat.add_zero] at this) _ hb
    | none =>
      rw [hb] at h
      exact badT_val r (t + 1) (fun i hi y hy => by
        have := hP (i + 1) (by simpa using hi) y hy
        rwa [show t + (i + 1) = t + 1 + i by omega] at this) f h
theorem plain_names {s : Sc} {P : Nat → Prop} (hne : s.length ≠ 0) (hm : mayS s = true) (hl : s.length ≤ 16) (hr : ∀ t ∈ s, t.rels.length ≤ 16) (hd : Dist s) (hP : ∀ i (hi : i < s.length), ∀ x ∈ s[i].rels, P (namesN s i x)) :
    plainN s = (0, 0, 0) ∨ (P (plainN s).2.2 ∧ (plainN s).2.2 ≠ 0) := by
  unfold plainN
  rw [if_neg (by rintro (h | h); · rw [hm] at h; cases h
                 · exact hne h), if_neg (by omega)]
  have h1 : firstN (fun _ (x : Ty) => decide (16 < x.rels.length)) s 0 = none := firstN_none s 0 (fun j hj => decide_eq_false (by have := hr _ (List.getElem_mem hj); omega))
  have h2 : firstN (fun i (x : Ty) => decide (typN s x.name < i)) s 0 = none := firstN_none s 0 (fun j hj => decide_eq_false (by rw [hd.typ hj]; omega))
  have h3 : twiceTs 0 s = none := twiceTs_none s 0 (fun t ht => by
    obtain ⟨i, hi, rfl⟩ := List.mem_iff_getElem.1 ht
    unfold twiceR
    refine firstN_none _ 0 (fun j hj => decide_eq_false ?_)
    have h4 := hd.rel hi hj
    unfold relN at h4
    rw [ofT_at hi] at h4
    rw [h4]; omega)
  rw [h1, h2, h3]
  dsimp only
  cases hb : badT s s 0 with
  | none => exact .inl rfl
  | some f =>
    exact .inr (badT_val s 0 (fun i hi x hx => by rw [Nat.zero_add]; exact hP i hi x hx) f hb)
theorem frRow_none {f : Nat → Nat} {t : Nat} : ∀ (l : List Rl) (k : Nat), (∀ b, b < l.length → f (k + b) = 0) → frRow f t l k = none
  | [], _, _ => rfl
  | x :: r, k, h => by
    have h0 := h 0 (by simp)
    rw [Nat.add_zero] at h0
    unfold frRow
    rw [if_neg (fun h => h h0)]
    exact frRow_none r (k + 1) (fun b hb => by
      have := h (b + 1) (by simpa using hb)
      rwa [show k + (b + 1) = k + 1 + b by omega] at this)
theorem frN_none {f : Nat → Nat → Nat} : ∀ (l : Sc) (t : Nat), (∀ a (ha : a < l.length) b, b < l[a].rels.length → f (t + a) b = 0) → frN f l t = (0, 0, 0)
  | [], _, _ => rfl
  | x :: r, t, h => by
    unfold frN
    rw [frRow_none x.rels 0 (fun b hb => by
      have := h 0 (by simp) b hb
      rwa [Nat.add_zero, ← Nat.zero_add b] at this)]
    exact frN_none r (t + 1) (fun a ha b hb => by
      have := h (a + 1) (by simpa using ha) b hb
      rwa [show t + (a + 1) = t + 1 + a by omega] at this)
theorem sizes_zero {s : Sc} (h : plainN s = (0, 0, 0)) : (sizesN s).2.2 = 0 ∧ (namesF s).2.2 = 0 := by
  rw [plain_is] at h
  by_cases h1 : (sizesN s).2.2 = 0
  · rw [if_neg (fun h => h h1)] at h
    exact ⟨h1, by rw [h]⟩
  · rw [if_pos h1] at h
    rw [h] at h1
    exact absurd rfl h1
theorem Sound.plain {s : Sc} (h : Sound s) : plainN s = (0, 0, 0) := by
  rcases plain_names (P := fun n => n = 0) h.ne h.ok.may h.len h.rels h.ok.dist (fun i hi x hx => by
    obtain ⟨k, hk, rfl⟩ := List.mem_iff_getElem.1 hx
    exact h.ok.names i hi k hk) with h1 | ⟨h1, h2⟩
  · exact h1
  · exact absurd h1 h2
theorem ExIs.sound {s : Sc} {z : Fa} {lv : List (List Nat) → Prop} (h : ExIs s z lv) : (z.2.2 = 0 ↔ Sound s) ∧ (Sound s → ∃ HL, Top (knS s) (hv HL) ∧ lv (hvS HL s)) := by
  rcases h with ⟨h1, h2⟩ | ⟨h1, h2, h3⟩ | ⟨h1, h2, HL, m, h3, h4, h5, h6, h7⟩
  · have hn : ¬ Sound s := fun hs => h1 (sizes_zero hs.plain).1
    exact ⟨⟨fun h => absurd (h2 ▸ h) h1, fun h => absurd h hn⟩, fun h => absurd h hn⟩
  · have hn : ¬ Sound s := fun hs => h2 (sizes_zero hs.plain).2
    exact ⟨⟨fun h => absurd (h3 ▸ h) h2, fun h => absurd h hn⟩, fun h => absurd h hn⟩
  · have hok := ok_of h1 h2
    have hsz := sizes_ok h1
    have hm := h4 hok.dist.nodup
    have hmm : manyN s < m := by rw [hm, nodesS_len]; have := hsz.1; omega
    have hzero : Sound s → z = (0, 0, 0) := fun hs => by
      obtain ⟨_, hlt⟩ := h5.top hmm hs.bw
      rw [h6]
      refine frN_none s 0 (fun i hi k hk => ?_)
      rw [Nat.zero_add, exF_is hi hk, if_neg (by have := hlt (nodeN s (i, k)); omega)]
    refine ⟨⟨fun hz => ⟨hsz.1, hsz.2.2.1, hsz.2.2.2, hok, h5.bw (fun y hy => ?_)⟩, fun hs => by rw [hzero hs]⟩, fun hs => ⟨HL, (h5.top hmm hs.bw).1, h7 (by rw [hzero hs])⟩⟩
    obtain ⟨t, ht, hy⟩ := List.mem_flatMap.1 hy
    obtain ⟨r, hr, rfl⟩ := List.mem_map.1 hy
    obtain ⟨i, hi, rfl⟩ := List.mem_iff_getElem.1 ht
    obtain ⟨k, hk, rfl⟩ := List.mem_iff_getElem.1 hr
    have h8 := frN_zero s 0 (by rw [← h6]; exact hz) i hi k hk
    rw [Nat.zero_add, exF_is hi hk, nodeN_at hi hk] at h8
    have h9 := h5.most (s[i].name, s[i].rels[k].name)
    by_cases h10 : hv HL (s[i].name, s[i].rels[k].name) = m
    · rw [if_pos h10] at h8; cases h8
    · omega
theorem hvS_app (HL : List (Nk × Nat)) (a b : Sc) : hvS HL (a ++ b) = hvS HL a ++ hvS HL b := List.map_append
theorem hvS_len (HL : List (Nk × Nat)) (s : Sc) : (hvS HL s).length = s.length := List.length_map _
theorem hvS_congr {HL HL' : List (Nk × Nat)} {s : Sc} (h : ∀ t ∈ s, ∀ r ∈ t.rels, hv HL (t.name, r.name) = hv HL' (t.name, r.name)) : hvS HL s = hvS HL' s := by
  unfold hvS
  refine List.map_congr_left (fun t ht => ?_)
  unfold hvT
  exact List.map_congr_left (fun r hr => h t ht r hr)
end Go.Proofs.YtdnhbledndgbcaaGreat
namespace Go.Proofs.YtdnhbledndgbcaaGreat
open Go.RowKit
end Go.Proofs.YtdnhbledndgbcaaGreat
namespace Go.Proofs.YtdnhbledndgbcaaGreat
open Go.RowKit
theorem Dist.names {s : Sc} (hd : Dist s) : (s.map (·.name)).Nodup := by
  rw [List.nodup_iff_pairwise_ne, List.pairwise_map, List.pairwise_iff_getElem]
  intro i j hi hj hij e
  have := hd.ty i j hi hj e
  omega
end Go.Proofs.YtdnhbledndgbcaaGreat
namespace Go.Proofs.YtdnhbledndgbcaaGreat
open Go.RowKit
def zzR : Rl := ⟨[114], [([122, 122], [])], noEx⟩
def zzT : Ty := ⟨[122, 122], [zzR]⟩
theorem atN_app {α : Type} {p : α → Bool} (x : α) : ∀ (l : List α) (i : Nat), atN p (l ++ [x]) i = if 0 ≤ atN p l i then atN p l i else if p x then ((i + l.length : Nat) : Int) else -1
  | [], i => by
    show (if p x then (i : Int) else -1) = if (0 : Int) ≤ -1 then (-1 : Int) else if p x then ((i + 0 : Nat) : Int) else -1
    rw [if_neg (show ¬ (0 : Int) ≤ -1 by decide)]
    rfl
  | y :: r, i => by
    rw [List.cons_append, atN, atN]
    by_cases h : p y = true
    · rw [if_pos h, if_pos h, if_pos (by omega)]
    · rw [if_neg h, if_neg h, atN_app x r (i + 1), List.length_cons, show i + 1 + r.length = i + (r.length + 1) by omega]
section
variable {s : Sc}
theorem typ_more (n : Txt) : typN (s ++ [zzT]) n = if 0 ≤ typN s n then typN s n else if n = [122, 122] then (s.length : Int) else -1 := by
  unfold typN
  rw [atN_app, Nat.zero_add]
  by_cases h : n = [122, 122]
  · rw [if_pos h, if_pos (show decide (zzT.name = n) = true from decide_eq_true h.symm)]
  · rw [if_neg h, if_neg (show ¬ decide (zzT.name = n) = true from fun h2 => h (of_decide_eq_true h2).symm)]
theorem typ_more_pos {n : Txt} (h : 0 ≤ typN s n) : typN (s ++ [zzT]) n = typN s n := by rw [typ_more, if_pos h]
theorem of_more {i : Nat} (hi : i < s.length) : ofT (s ++ [zzT]) (i : Int) = ofT s (i : Int) := by
  unfold ofT
  rw [if_neg (by omega), if_neg (by omega), Int.toNat_natCast, List.getElem?_append_left hi]
theorem of_more' {t : Int} (h0 : 0 ≤ t) (hi : t < s.length) : ofT (s ++ [zzT]) t = ofT s t := by
  obtain ⟨i, rfl⟩ := Int.eq_ofNat_of_zero_le h0
  exact of_more (by omega)
theorem typ_lt (n : Txt) : typN s n < s.length := by
  rcases typN_is s n with h | ⟨j, h1, h2⟩
  · omega
  · omega
theorem rel_more_nat {i : Nat} (hi : i < s.length) (n : Txt) : relN (s ++ [zzT]) (i : Int) n = relN s (i : Int) n := by
  unfold relN
  rw [of_more hi]
theorem rel_more {n o : Txt} (h : 0 ≤ typN s n) : relN (s ++ [zzT]) (typN (s ++ [zzT]) n) o = relN s (typN s n) o := by
  rw [typ_more_pos h]
  unfold relN
  rw [of_more' h (typ_lt n)]
theorem relAt_more {i : Nat} (hi : i < s.length) (k : Int) : relAt (s ++ [zzT]) (i : Int) k = relAt s (i : Int) k := by
  unfold relAt
  rw [of_more hi]
theorem rel_pos {n o : Txt} (h : 0 ≤ relN s (typN s n) o) : 0 ≤ typN s n := by
  rcases typN_is s n with h1 | ⟨j, _, h1⟩
  · rw [h1] at h; unfold relN at h; rw [ofT_neg (by decide)] at h; exact absurd h (show ¬ (0 : Int) ≤ -1 by decide)
  · omega
theorem refN_more {r : Rf} (h : refN s r = false) : refN (s ++ [zzT]) r = false := by
  unfold refN at h ⊢
  rw [Bool.or_eq_false_iff] at h
  have h0 : 0 ≤ typN s r.1 := by
    have := of_decide_eq_false h.1
    omega
  rw [typ_more_pos h0] at *
  have h1 : relN (s ++ [zzT]) (typN s r.1) r.2 = relN s (typN s r.1) r.2 := by
    unfold relN
    rw [of_more' h0 (typ_lt _)]
  rw [h1, h.1, h.2]
  rfl
theorem leaf_more {i : Nat} (hi : i < s.length) {k : Int} {n o : Txt} (h : leafN s i k n o = 0) : leafN (s ++ [zzT]) i k n o = 0 := by
  unfold leafN at h ⊢
  dsimp only at h ⊢
  rw [rel_more_nat hi, relAt_more hi]
  split at h
  · cases h
  · rename_i h1
    rw [if_neg h1]
    split at h
    · rename_i h2
      rw [if_pos h2]
    · rename_i h2
      rw [if_neg h2]
      split at h
      · cases h
      · rename_i h3
        rw [if_neg h3]
        split at h
        · rename_i h4
          rw [if_pos]
          obtain ⟨r, hr, h5⟩ := List.any_eq_true.1 h4
          refine List.any_eq_true.2 ⟨r, hr, ?_⟩
          rw [Bool.and_eq_true] at h5 ⊢
          have h6 := of_decide_eq_true h5.2
          refine ⟨h5.1, decide_eq_true ?_⟩
          rw [rel_more (rel_pos h6)]
          exact h6
        · cases h
theorem leaf_less {i : Nat} (hi : i < s.length) {k : Int} {n o : Txt} (h : leafN (s ++ [zzT]) i k n o = 0) : leafN s i k n o = 0 ∨ leafN s i k n o = 6 := by
  unfold leafN at h ⊢
  dsimp only at h ⊢
  rw [rel_more_nat hi, relAt_more hi] at h
  split at h
  · cases h
  · rename_i h1
    rw [if_neg h1]
    split at h
    · rename_i h2
      rw [if_pos h2]
      exact .inl rfl
    · rename_i h2
      rw [if_neg h2]
      split at h
      · cases h
      · rename_i h3
        rw [if_neg h3]
        split
        · exact .inl rfl
        · exact .inr rfl
theorem chkL_zero {s : Sc} {t : Nat} : ∀ {l : List Ex}, (chkL s t l = 0 ↔ ∀ x ∈ l, chkE s t x = 0)
  | [] => by unfold chkL; simp
  | x :: r => by
    unfold chkL
    by_cases h : chkE s t x = 0
    · rw [if_neg (fun h2 => h2 h), chkL_zero]
      simp [h]
    · rw [if_pos h]
      simp [h]
theorem chk_more {i : Nat} (hi : i < s.length) : ∀ e : Ex, chkE s i e = 0 → chkE (s ++ [zzT]) i e = 0 := by
  intro e
  refine Ex.all (P := fun e => chkE s i e = 0 → chkE (s ++ [zzT]) i e = 0) (fun k n o ks ih h => ?_) e
  unfold chkE at h ⊢
  by_cases h1 : chkL s i ks = 0
  · rw [if_neg (fun h2 => h2 h1)] at h
    rw [if_neg (fun h2 => h2 (chkL_zero.2 (fun x hx => ih x hx (chkL_zero.1 h1 x hx))))]
    split at h
    · rename_i h3; rw [if_pos h3]
    · rename_i h3; rw [if_neg h3]; exact leaf_more hi h
  · rw [if_pos h1] at h
    exact absurd h h1
theorem chk_less {i : Nat} (hi : i < s.length) : ∀ e : Ex, chkE (s ++ [zzT]) i e = 0 → chkE s i e = 0 ∨ chkE s i e = 6 := by
  intro e
  refine Ex.all (P := fun e => chkE (s ++ [zzT]) i e = 0 → chkE s i e = 0 ∨ chkE s i e = 6) (fun k n o ks ih h => ?_) e
  have hL : ∀ l : List Ex, (∀ x ∈ l, x ∈ ks) → chkL (s ++ [zzT]) i l = 0 → chkL s i l = 0 ∨ chkL s i l = 6 := by
    intro l
    induction l with
    | nil => intro _ _; exact .inl rfl
    | cons x r ihr =>
      intro hs hl
      have h1 := chkL_zero.1 hl
      have h2 := ih x (hs x (List.mem_cons_self ..)) (h1 x (List.mem_cons_self ..))
      have h3 := ihr (fun y hy => hs y (List.mem_cons_of_mem _ hy)) (chkL_zero.2 (fun y hy => h1 y (List.mem_cons_of_mem _ hy)))
      unfold chkL
      split
      · exact h2
      · exact h3
  unfold chkE at h ⊢
  by_cases h1 : chkL (s ++ [zzT]) i ks = 0
  · rw [if_neg (fun h2 => h2 h1)] at h
    have h4 := hL ks (fun _ h => h) h1
    split
    · exact h4
    · split
      · exact .inl rfl
      · rename_i h5
        rw [if_neg h5] at h
        exact leaf_less hi h
  · rw [if_pos h1] at h
    exact absurd h h1
theorem names_more {i : Nat} (hi : i < s.length) {x : Rl} (h : namesN s i x = 0) : namesN (s ++ [zzT]) i x = 0 := by
  unfold namesN at h ⊢
  split at h
  · rename_i h1; rw [if_pos h1]; exact chk_more hi _ h
  · rename_i h1
    rw [if_neg h1]
    split at h
    · cases h
    · rename_i h2
      rw [if_neg]
      intro h3
      obtain ⟨r, hr, h4⟩ := List.any_eq_true.1 h3
      have h5 := List.any_eq_false.1 (Bool.eq_false_iff.2 h2) r hr
      rw [refN_more (Bool.eq_false_iff.2 h5)] at h4
      cases h4
theorem names_less {i : Nat} (hi : i < s.length) {x : Rl} (h : namesN (s ++ [zzT]) i x = 0) : namesN s i x = 0 ∨ namesN s i x = 6 := by
  unfold namesN at h ⊢
  split at h
  · rename_i h1; rw [if_pos h1]; exact chk_less hi _ h
  · rename_i h1
    rw [if_neg h1]
    split
    · exact .inr rfl
    · exact .inl rfl
theorem refs_there {i : Nat} (h : OkN s) (hi : i < s.length) {k : Nat} (hk : k < s[i].rels.length) : ∀ r ∈ s[i].rels[k].refs, 0 ≤ typN s r.1 := by
  intro r hr
  have h0 := h.names i hi k hk
  unfold namesN at h0
  by_cases h1 : s[i].rels[k].refs.length = 0
  · rw [List.length_eq_zero_iff.1 h1] at hr; cases hr
  · rw [if_neg h1] at h0
    have h2 : s[i].rels[k].refs.any (refN s) = false := by
      cases hq : s[i].rels[k].refs.any (refN s)
      · rfl
      · rw [hq] at h0; cases h0
    have h3 := List.any_eq_false.1 h2 r hr
    unfold refN at h3
    by_cases h4 : typN s r.1 < 0
    · rw [decide_eq_true h4] at h3; exact absurd rfl h3
    · omega
theorem filterMap_eq {α β : Type} {f g : α → Option β} : ∀ (l : List α), (∀ x ∈ l, f x = g x) → l.filterMap f = l.filterMap g
  | [], _ => rfl
  | x :: r, h => by
    rw [List.filterMap_cons, List.filterMap_cons, h x (List.mem_cons_self ..), filterMap_eq r (fun y hy => h y (List.mem_cons_of_mem _ hy))]
theorem leafLn_more {i : Nat} (h : OkN s) (hi : i < s.length) {k : Int} {n o : Txt} (h0 : leafN s i k n o = 0) (out : Bool) : leafLn (s ++ [zzT]) i k n o out = leafLn s i k n o out := by
  have hr : 0 ≤ relN s (i : Int) n := by
    unfold leafN at h0
    dsimp only at h0
    by_cases h1 : relN s (i : Int) n < 0
    · rw [if_pos h1] at h0; cases h0
    · omega
  unfold leafLn
  rw [rel_more_nat hi, relAt_more hi]
  split
  · congr 1
    refine filterMap_eq _ (fun r hr2 => ?_)
    have h3 : 0 ≤ typN s r.1 := by
      obtain ⟨j, hj, h4⟩ : ∃ j, j < s[i].rels.length ∧ relN s (i : Int) n = (j : Int) := by
        unfold relN at hr ⊢
        rw [ofT_at hi] at hr ⊢
        rcases relsN_is s[i].rels n with h5 | h5
        · omega
        · exact h5
      rw [h4, relAt_at hi hj] at hr2
      exact refs_there h hi hj r hr2
    rw [rel_more h3, typ_more_pos h3]
  · rfl
theorem leans_more {i : Nat} (h : OkN s) (hi : i < s.length) : ∀ (e : Ex), chkE s i e = 0 → ∀ out, leansE (s ++ [zzT]) i e out = leansE s i e out := by
  intro e
  refine Ex.all (P := fun e => chkE s i e = 0 → ∀ out, leansE (s ++ [zzT]) i e out = leansE s i e out) (fun k n o ks ih h0 out => ?_) e
  unfold chkE at h0
  by_cases h1 : chkL s i ks = 0
  · rw [if_neg (fun h2 => h2 h1)] at h0
    have hL : ∀ (l : List Ex), (∀ x ∈ l, x ∈ ks) → ∀ j, leansL (s ++ [zzT]) i k l j out = leansL s i k l j out := by
      intro l
      induction l with
      | nil => intro _ j; unfold leansL; rfl
      | cons x r ihr =>
        intro hs j
        unfold leansL
        rw [ih x (hs x (List.mem_cons_self ..)) (chkL_zero.1 h1 x (hs x (List.mem_cons_self ..))), ihr (fun y hy => hs y (List.mem_cons_of_mem _ hy))]
    unfold leansE
    split
    · exact hL ks (fun _ h => h) 0
    · rename_i h3
      rw [if_neg h3] at h0
      exact leafLn_more h hi h0 out
  · rw [if_pos h1] at h0
    exact absurd h0 h1
theorem all_more {i k : Nat} (h : OkN s) (hi : i < s.length) (hk : k < s[i].rels.length) : allN (s ++ [zzT]) i s[i].rels[k] = allN s i s[i].rels[k] := by
  have h0 := h.names i hi k hk
  have h1 := refs_there h hi hk
  unfold allN
  unfold namesN at h0
  split
  · rename_i h2
    rw [if_pos h2] at h0
    exact leans_more h hi _ h0 false
  · refine filterMap_eq _ (fun r hr => ?_)
    rw [rel_more (h1 r hr), typ_more_pos (h1 r hr)]
theorem get_more {i : Nat} (hi : i < s.length) (h2 : i < (s ++ [zzT]).length) : (s ++ [zzT])[i] = s[i] := List.getElem_append_left hi
theorem get_last (h2 : s.length < (s ++ [zzT]).length) : (s ++ [zzT])[s.length] = zzT := by simp
theorem dist_more (hd : Dist s) (hz : ∀ t ∈ s, t.name ≠ [122, 122]) : Dist (s ++ [zzT]) := by
  have hcase : ∀ i, i < (s ++ [zzT]).length → i < s.length ∨ i = s.length := fun i hi => by simp at hi; omega
  refine ⟨fun i j hi hj e => ?_, fun i hi j k hj hk e => ?_, fun i hi j hj => ?_⟩
  · rcases hcase i hi with h1 | rfl
    · rcases hcase j hj with h2 | rfl
      · rw [get_more h1, get_more h2] at e
        exact hd.ty i j h1 h2 e
      · rw [get_more h1, get_last] at e
        exact absurd e (hz _ (List.getElem_mem h1))
    · rcases hcase j hj with h2 | rfl
      · rw [get_more h2, get_last] at e
        exact absurd e.symm (hz _ (List.getElem_mem h2))
      · rfl
  · rcases hcase i hi with h1 | rfl
    · have he := get_more h1 hi
      generalize (s ++ [zzT])[i] = x at *
      subst he
      exact hd.rl i h1 j k hj hk e
    · have he := get_last hi
      generalize (s ++ [zzT])[s.length] = x at *
      subst he
      have h1 : j < 1 := hj
      have h2 : k < 1 := hk
      omega
  · rcases hcase i hi with h1 | rfl
    · have he := get_more h1 hi
      generalize (s ++ [zzT])[i] = x at *
      subst he
      exact hd.ne i h1 j hj
    · have he := get_last hi
      generalize (s ++ [zzT])[s.length] = x at *
      subst he
      have h1 : j < 1 := hj
      obtain rfl : j = 0 := by omega
      exact (by decide : ([114] : Txt) ≠ [])
theorem dist_less (hd : Dist (s ++ [zzT])) : Dist s := by
  have hlt : ∀ i, i < s.length → i < (s ++ [zzT]).length := fun i hi => by simp; omega
  refine ⟨fun i j hi hj e => hd.ty i j (hlt i hi) (hlt j hj) (by rw [get_more hi, get_more hj]; exact e), fun i hi j k hj hk e => ?_, fun i hi j hj => ?_⟩
  · have he := get_more hi (hlt i hi)
    have h1 := hd.rl i (hlt i hi)
    generalize (s ++ [zzT])[i]'(hlt i hi) = x at *
    subst he
    exact h1 j k hj hk e
  · have he := get_more hi (hlt i hi)
    have h1 := hd.ne i (hlt i hi)
    generalize (s ++ [zzT])[i]'(hlt i hi) = x at *
    subst he
    exact h1 j hj
theorem may_more : mayS (s ++ [zzT]) = mayS s := by
  unfold mayS
  rw [List.all_append]
  have h : mayT zzT = true := by kernel_rfl
  rw [List.all_cons, h]
  simp
theorem zz_names (hd : Dist (s ++ [zzT])) : namesN (s ++ [zzT]) s.length zzR = 0 := by
  have h : typN (s ++ [zzT]) [122, 122] = (s.length : Int) := by
    have h1 := hd.typ (i := s.length) (by simp)
    rw [get_last] at h1
    exact h1
  unfold namesN
  rw [if_neg (by decide), if_neg]
  intro h1
  obtain ⟨r, hr, h2⟩ := List.any_eq_true.1 h1
  rw [List.mem_singleton.1 hr] at h2
  unfold refN at h2
  rw [h, decide_eq_false (by omega)] at h2
  simp at h2
theorem ok_more (h : OkN s) (hz : ∀ t ∈ s, t.name ≠ [122, 122]) : OkN (s ++ [zzT]) := by
  have hd := dist_more h.dist hz
  refine ⟨hd, by rw [may_more]; exact h.may, fun i hi k hk => ?_⟩
  have hc : i < s.length ∨ i = s.length := by simp at hi; omega
  rcases hc with h1 | rfl
  · have he := get_more h1 hi
    generalize (s ++ [zzT])[i] = x at *
    subst he
    exact names_more h1 (h.names i h1 k hk)
  · have he := get_last hi
    generalize (s ++ [zzT])[s.length] = x at *
    subst he
    have h1 : k < 1 := hk
    obtain rfl : k = 0 := by omega
    exact zz_names hd
theorem node_more {x : Nd} (hx : InN s x) : nodeN (s ++ [zzT]) x = nodeN s x := by
  obtain ⟨i, k⟩ := x
  obtain ⟨hi, hk⟩ := hx
  rw [nodeN_at hi hk, nodeN_at (i := i) (k := k) (by simp; omega) (by rw [get_more hi]; exact hk)]
  simp only [get_more hi]
theorem edge_more (h : OkN s) (h' : OkN (s ++ [zzT])) (z y : Nk) (n : Nat) : EdgeK (knS (s ++ [zzT])) z y n ↔ EdgeK (knS s) z y n := by
  have hdep : ∀ i (hi : i < s.length) k (hk : k < s[i].rels.length), depsK (knS (s ++ [zzT])) s[i].name s[i].rels[k] = depsK (knS s) s[i].name s[i].rels[k] := fun i hi k hk => by
    have h1 := (all_is h' (i := i) (k := k) (by simp; omega) (by rw [get_more hi]; exact hk)).1
    simp only [get_more hi] at h1
    rw [h1, all_more h hi hk, (all_is h hi hk).1]
    refine List.map_congr_left (fun c hc => ?_)
    unfold edgeN
    rw [node_more ((all_is h hi hk).2 c hc)]
  have hkn : ∀ i (hi : i < s.length) k (hk : k < s[i].rels.length), knS (s ++ [zzT]) (s[i].name, s[i].rels[k].name) = some s[i].rels[k] := fun i hi k hk => by
    have h1 := h'.dist.kn (i := i) (k := k) (by simp; omega) (by rw [get_more hi]; exact hk)
    simp only [get_more hi] at h1
    exact h1
  constructor
  · rintro ⟨r, h1, h2, h3⟩
    obtain ⟨t, ht, h4 | ⟨r', hr, h4⟩⟩ := knS_some h1
    · exact absurd (congrArg (·.2) h4.1) h2
    · obtain ⟨e1, rfl⟩ := h4
      rcases List.mem_append.1 ht with ht | ht
      · obtain ⟨i, hi, rfl⟩ := List.mem_iff_getElem.1 ht
        obtain ⟨k, hk, rfl⟩ := List.mem_iff_getElem.1 hr
        subst e1
        rw [hdep i hi k hk] at h3
        exact ⟨_, h.dist.kn hi hk, h2, h3⟩
      · rw [List.mem_singleton.1 ht] at hr e1
        rw [List.mem_singleton.1 hr] at h3
        unfold depsK zzR at h3
        simp at h3
  · rintro ⟨r, h1, h2, h3⟩
    obtain ⟨t, ht, h4 | ⟨r', hr, h4⟩⟩ := knS_some h1
    · exact absurd (congrArg (·.2) h4.1) h2
    · obtain ⟨e1, rfl⟩ := h4
      obtain ⟨i, hi, rfl⟩ := List.mem_iff_getElem.1 ht
      obtain ⟨k, hk, rfl⟩ := List.mem_iff_getElem.1 hr
      subst e1
      rw [← hdep i hi k hk] at h3
      exact ⟨_, hkn i hi k hk, h2, h3⟩
theorem way_more (h : OkN s) (h' : OkN (s ++ [zzT])) (y : Nk) (n : Nat) : WayK (knS (s ++ [zzT])) y n ↔ WayK (knS s) y n := by
  constructor
  · intro hw
    induction hw with
    | nil x => exact .nil x
    | cons he _ ih => exact .cons ((edge_more h h' _ _ _).1 he) ih
  · intro hw
    induction hw with
    | nil x => exact .nil x
    | cons he _ ih => exact .cons ((edge_more h h' _ _ _).2 he) ih
theorem sound_more (h : Sound s) (hz : ∀ t ∈ s, t.name ≠ [122, 122]) (hl : s.length < 16) : Sound (s ++ [zzT]) := by
  have ho := ok_more h.ok hz
  refine ⟨by simp, by simp; omega, fun t ht => ?_, ho, ?_⟩
  · rcases List.mem_append.1 ht with ht | ht
    · exact h.rels t ht
    · rw [List.mem_singleton.1 ht]; decide
  · obtain ⟨B, hB⟩ := h.bw
    exact ⟨B, fun y n hw => hB y n ((way_more h.ok ho y n).1 hw)⟩
theorem doc_less (h' : Sound (s ++ [zzT])) (hn : ¬ Sound s) : (docC s).2.2 = 1 ∨ (docC s).2.2 = 6 := by
  have hm : mayS s = true := by have := h'.ok.may; rwa [may_more] at this
  by_cases h0 : s.length = 0
  · left
    have hp : plainN s = (0, -1, 1) := by unfold plainN; rw [if_pos (.inr h0)]
    unfold docC
    rw [hp]; rfl
  have hd := dist_less h'.ok.dist
  have hl : s.length ≤ 16 := by have := h'.len; simp at this; omega
  have hr : ∀ t ∈ s, t.rels.length ≤ 16 := fun t ht => h'.rels t (List.mem_append.2 (.inl ht))
  rcases plain_names (P := fun n => n = 0 ∨ n = 6) h0 hm hl hr hd (fun i hi x hx => by
    obtain ⟨k, hk, rfl⟩ := List.mem_iff_getElem.1 hx
    have h1 := h'.ok.names i (by simp; omega) k (by rw [get_more hi]; exact hk)
    simp only [get_more hi] at h1
    exact names_less hi h1) with hp | ⟨hp1, hp2⟩
  · obtain ⟨h2, h3⟩ := sizes_zero hp
    have ho := ok_of h2 h3
    refine absurd ⟨h0, hl, hr, ho, ?_⟩ hn
    obtain ⟨B, hB⟩ := h'.bw
    exact ⟨B, fun y n hw => hB y n ((way_more ho h'.ok y n).2 hw)⟩
  · right
    unfold docC
    rw [if_pos hp2]
    exact hp1.resolve_left hp2
theorem more_same (hz : ∀ t ∈ s, t.name ≠ [122, 122]) (hl : s.length < 16) {z z' : Fa} {lv lv' : List (List Nat) → Prop} (h : ExIs s z lv) (h' : ExIs (s ++ [zzT]) z' lv') :
    (z.2.2 ≠ 0 → z'.2.2 ≠ 0 ∨ (docC s).2.2 = 1 ∨ (docC s).2.2 = 6) ∧ (z.2.2 = 0 → z'.2.2 = 0 ∧ ∃ HL, lv (hvS HL s) ∧ lv' (hvS HL (s ++ [zzT]))) := by
  have h1 := h.sound
  have h2 := h'.sound
  refine ⟨fun hz1 => ?_, fun hz1 => ?_⟩
  · by_cases hz2 : z'.2.2 = 0
    · exact .inr (doc_less (h2.1.1 hz2) (fun hs => hz1 (h1.1.2 hs)))
    · exact .inl hz2
  · have hs := h1.1.1 hz1
    have hs' := sound_more hs hz hl
    obtain ⟨HL, h3, h4⟩ := h1.2 hs
    obtain ⟨HL', h5, h6⟩ := h2.2 hs'
    refine ⟨h2.1.2 hs', HL, h4, ?_⟩
    have h7 : Top (knS s) (hv HL') := fun y => ⟨(way_more hs.ok hs'.ok y _).1 (h5 y).1, fun n hn => (h5 y).2 n ((way_more hs.ok hs'.ok y n).2 hn)⟩
    rw [hvS_congr (HL := HL) (HL' := HL') (fun x _ r _ => h3.same h7 _)]
    exact h6
end
end Go.Proofs.YtdnhbledndgbcaaGreat
namespace Go.Proofs.YtdnhbledndgbcaaGreat
open Go.RowKit
theorem cutL_head (A : Option Addr) (n c m : Nat) (hm : m ≤ c) (W : World) : (Instr.slice 27 (.slice A n c) none (some (.int .i64 (m : Int))) none).run Tryz.prog W = .ok (.slice A m c) W := by
  have e2 : Tryz.prog.elem 27 = 50 := by kernel_rfl
  have hi : (Tryz.prog.info? 50).map (fun i => i.size) = some 1 := by kernel_rfl
  obtain ⟨i, hi, hz⟩ := Option.map_eq_some_iff.1 hi
  rw [run_slice_h W 27 A n c (by kernel_rfl) .i64 (m : Int) (by omega) (by omega), e2]
  simp [sizeOf, typeInfo, hi, hz, sliced]
  intro _
  cases A with
  | none => rfl
  | some a =>
    show some (a.add 0) = some a
    simp [Addr.add]
theorem RowCp.row {α : Type} {k : Nat} {R : World → (Nat → Prop) → α → List Value → Prop} {w w' : World} {F G : Nat → Prop} {e : TypeId} {l : List α} {A : Option Addr} (h : RowCp k R w F e l A w') (hG : ∀ i, G i → i < w.heap.size) (hR : ∀ x cs, R w F x cs → R w' G x cs) : RowAt k R w' G A l := by
  rcases h with h | ⟨g, M, hA, hg, hB, hle, hq⟩
  · exact .inl h
  · refine .inr ⟨g, 0, hA, hB.lt, fun hf => by have := hG g hf; omega, fun j hj => ?_⟩
    obtain ⟨cs, h1, h2⟩ := hq j hj
    refine ⟨cs, hR _ _ h1, fun i hi => ?_⟩
    have hlt : j * k + i < M.length := by
      have : (j + 1) * k ≤ l.length * k := Nat.mul_le_mul_right k hj
      rw [Nat.succ_mul] at this
      omega
    rw [← h2 i hi, Nat.zero_add, hB.cell hlt, List.getElem?_eq_getElem hlt]
theorem TyAt.one {W : World} {F : Nat → Prop} {x : Ty} {cs : List Value} (h : TyAt W F x cs) : cs.length = 2 ∧ ∀ u ∈ cs, u.oneCell' = true := by
  obtain ⟨A, c, rfl, _⟩ := h
  refine ⟨rfl, fun u hu => ?_⟩
  simp only [List.mem_cons, List.not_mem_nil, or_false] at hu
  rcases hu with rfl | rfl <;> rfl
theorem IrAt.one {W : World} {F : Nat → Prop} {x : List Nat} {cs : List Value} (h : IrAt W F x cs) : cs.length = 1 ∧ ∀ u ∈ cs, u.oneCell' = true := by
  obtain ⟨A, c, rfl, _⟩ := h
  refine ⟨rfl, fun u hu => ?_⟩
  rw [List.mem_singleton.1 hu]; rfl
theorem rowTs : ∃ i z, RowT Tryz.prog 22 38 2 40 i z := by
  have hf : (Tryz.prog.info? 38).map (fun i => (i.zero, i.size, i.bytes)) = some (some (.agg #[.string ⟨#[]⟩, .slice none 0 0]), 2, 40) := by kernel_rfl
  obtain ⟨i, hi, hz, hs, hb⟩ := info_parts hf
  exact ⟨i, _, Tryz.underlying22, hi, hz, hs, hb, rfl⟩
end Go.Proofs.YtdnhbledndgbcaaGreat
namespace Go.Proofs.YtdnhbledndgbcaaGreat
open Go.RowKit
theorem append_none (c : Nat) (ty : TypeId) (w : World) : (Builtin.append_ #[22, 22] ty #[.slice none 0 0, .slice none 0 c]).run Tryz.prog w = .ok (.slice none 0 0) w := by
  simp [Builtin.append_, go_sem, Builtin.firstCells, Builtin.lenOf]
theorem wpList_append_types {w : World} {ops : Array Oper} {rest : List Oper} {o : Oper} {a : Act} {Q : Exit → Act → World → Prop} (hgd : o.guard = none) (s x : Operand)
    (ho : o.op = .call { callee := .builtin .append, args := #[s, x], argTypes := #[22, 22] }) (hs : a.eval s = .slice none 0 0) {A : Option Addr} {l : Sc} {c : Nat} {F : Nat → Prop} (hx : a.eval x = .slice A l.length c) (hl : l.length ≤ 1000000) (hr : ScAt w F A l)
    (K : ∀ A' c' w' news, news.length = l.length * 2 → w'.ownsRow w.heap.size 38 2 (.slice A' l.length c') l.length news → Below w.heap.size w w' → (∀ j (h : j < l.length), ∃ cs, TyAt w F l[j] cs ∧ ∀ q, q < 2 → news[j * 2 + q]? = cs[q]?) → wpList Tryz.prog ops Q rest (a.put o.dst (.slice A' l.length c')) w') :
    wpList Tryz.prog ops Q (o :: rest) a w := by
  obtain ⟨i, z, R⟩ := rowTs
  rcases A with _ | ad
  · obtain rfl : l = [] := by
      rcases hr with h | ⟨_, _, h, _⟩
      · exact h
      · cases h
    refine wpList_plain hgd fun K' hK => ?_
    unfold Oper.wp execOp
    have hr := append_none c o.type w
    have hx : a.eval x = .slice none 0 c := hx
    simp only [ho, resolve, invoke, builtin, Sem.run_bind, Sem.run_pure, Result.andThen_ok, List.map_toArray, List.map_cons, List.map_nil, hs, hx, hr]
    exact hK _ _ (K none 0 w [] rfl (World.ownsRow_nil _ _ _ _) (Below.refl _ _) (fun j hj => nomatch hj))
  · have hnews : ∃ news : List Value, news.length = l.length * 2 ∧ (∀ (i : Nat) u, news[i]? = some u → w.cell? (ad.add i) = some u) ∧ (∀ u ∈ news, u.oneCell' = true) ∧ ∀ j (h : j < l.length), ∃ cs, TyAt w F l[j] cs ∧ ∀ q, q < 2 → news[j * 2 + q]? = cs[q]? := by
      rcases hr with rfl | ⟨b, off, hA, _, _, hk⟩
      · exact ⟨[], rfl, fun i u hu => by simp at hu, fun u hu => (by cases hu), fun j hj => (by cases hj)⟩
      · injection hA with hA
        subst hA
        obtain ⟨news, h1, h2, h3, h4⟩ := row_news (by decide) hk (fun x cs h => h.one.1) (fun x cs h => h.one.2)
        exact ⟨news, h1, fun i u hu => by rw [add_plain]; exact h2 i u hu, h3, h4⟩
    obtain ⟨news, h1, h2, h3, h4⟩ := hnews
    refine wpList_append_own_at w hgd s x 22 ho w.heap.size 38 i z 2 40 R.ht R.hi R.hz R.hs R.hb R.zs (by decide) _ 0 [] hs (World.ownsRow_nil _ _ _ _) ad l.length c news hx h1 h2 h3 (by unfold maxLen; omega) (by omega) (Nat.le_refl _) ?_
    intro v' w' hown hg _ _
    rw [Nat.zero_add] at hown
    obtain ⟨A', c', rfl⟩ := ownrow_shape hown
    exact K A' c' w' news h1 hown (below_grown (Below.refl _ _) (Nat.le_refl _) (World.ownsRow_nil w w.heap.size 38 2) hg) h4
end Go.Proofs.YtdnhbledndgbcaaGreat
