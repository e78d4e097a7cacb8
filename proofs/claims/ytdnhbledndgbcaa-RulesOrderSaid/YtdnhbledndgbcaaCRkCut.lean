/-
  When a schema may be, and what its levels are, said of ways alone. No condition.
  The index of the same types in another order is the same. No condition.
  Types in another order: sound as before, with the same greatest weights. No condition.
  Cuts of rows of types and of rows of numbers; whole rows appended; rows put together of parts of others. Conditions: the bounds of the cuts.
-/
import Derived.Test.YtdnhbledndgbcaaCRoQe
import Derived.Test.YtdnhbledndgbcaaCRoCx
import Derived.Test.YtdnhbledndgbcaaCRoI
import Derived.Test.YtdnhbledndgbcaaCRuQ
namespace Go.Proofs.Ytdnhbledndgbcaa
open Go.RowKit
def BW (kn : Kn) : Prop := ∃ B, ∀ y n, WayK kn y n → n ≤ B
structure Sound (s : Sc) : Prop where
  ne : s.length ≠ 0
  len : s.length ≤ 16
  rels : ∀ t ∈ s, t.rels.length ≤ 16
  ok : OkN s
  bw : BW (knS s)
def Top (kn : Kn) (f : Nk → Nat) : Prop := ∀ y, WayK kn y (f y) ∧ ∀ n, WayK kn y n → n ≤ f y
theorem Top.same {kn : Kn} {f g : Nk → Nat} (hf : Top kn f) (hg : Top kn g) (y : Nk) : f y = g y := by
  have h1 := (hf y).2 _ (hg y).1
  have h2 := (hg y).2 _ (hf y).1
  omega
theorem max_of {P : Nat → Prop} (h0 : P 0) : ∀ (B : Nat), (∀ n, P n → n ≤ B) → ∃ v, P v ∧ ∀ n, P n → n ≤ v
  | 0, h => ⟨0, h0, h⟩
  | B + 1, h => by
    by_cases hB : P (B + 1)
    · exact ⟨B + 1, hB, h⟩
    · exact max_of h0 B (fun n hn => by
        have h1 := h n hn
        by_cases e : n = B + 1
        · exact absurd (e ▸ hn) hB
        · omega)
theorem BW.top {kn : Kn} (h : BW kn) : ∃ f, Top kn f := by
  obtain ⟨B, hB⟩ := h
  have h1 : ∀ y, ∃ v, WayK kn y v ∧ ∀ n, WayK kn y n → n ≤ v := fun y => max_of (P := fun n => WayK kn y n) (.nil y) B (hB y)
  exact ⟨fun y => (h1 y).choose, fun y => (h1 y).choose_spec⟩
theorem Top.lower {s : Sc} {f : Nk → Nat} (h : Top (knS s) f) {x : Nk} {n : Nat} (hw : WayK (knS s) x n) : f x = n → ∀ k, 1 ≤ k → k ≤ n → ∃ y ∈ relNodes s, f y = k := by
  induction hw with
  | nil x => intro _ k h1 h2; omega
  | @cons x y st n he hn ih =>
    intro hx k h1 h2
    have h3 := (h x).2 _ (.cons he (h y).1)
    have h4 := (h y).2 _ hn
    have h5 := he.le
    have h6 : f y = n := by omega
    by_cases hk : k ≤ n
    · exact ih h6 k h1 hk
    · exact ⟨x, he.node, by omega⟩
theorem Top.small {s : Sc} {f : Nk → Nat} (h : Top (knS s) f) (x : Nk) : f x ≤ manyN s := by
  have h4 := h.lower (h x).1 rfl
  have h5 := nodup_le ((List.range (f x)).map (· + 1)) ((relNodes s).map f) (by
    rw [List.nodup_iff_pairwise_ne, List.pairwise_map]
    exact (List.nodup_iff_pairwise_ne.1 List.nodup_range).imp (fun h e => h (by omega))) (fun k hk => by
    obtain ⟨j, hj, rfl⟩ := List.mem_map.1 hk
    have := List.mem_range.1 hj
    obtain ⟨y, hy, e⟩ := h4 (j + 1) (by omega) (by omega)
    exact List.mem_map.2 ⟨y, hy, e⟩)
  rw [List.length_map, List.length_map, List.length_range, relNodes_len] at h5
  omega
theorem way_rel {s : Sc} {y : Nk} {n : Nat} (hy : y ∉ relNodes s) (hw : WayK (knS s) y n) : n = 0 := by
  cases hw with
  | nil => rfl
  | cons he _ => exact absurd he.node hy
theorem Highs.top {s : Sc} {m : Nat} {HL : List (Nk × Nat)} (h : Highs (knS s) m HL) (hm : manyN s < m) (hb : BW (knS s)) : Top (knS s) (hv HL) ∧ ∀ y, hv HL y < m := by
  obtain ⟨f, hf⟩ := hb.top
  have h1 : ∀ y, hv HL y = f y := fun y => by
    obtain ⟨n, h2, h3⟩ := h.way y
    have h4 := (hf y).2 _ h2
    have h5 := h.le (hf y).1
    have h6 := hf.small y
    omega
  refine ⟨fun y => by rw [h1]; exact hf y, fun y => ?_⟩
  have := hf.small y
  rw [h1]
  omega
theorem Highs.bw {s : Sc} {m : Nat} {HL : List (Nk × Nat)} (h : Highs (knS s) m HL) (hlt : ∀ y ∈ relNodes s, hv HL y < m) : BW (knS s) := ⟨m, fun y n hw => by
  by_cases hy : y ∈ relNodes s
  · have h1 := h.le hw
    have h2 := hlt y hy
    omega
  · rw [way_rel hy hw]
    exact Nat.zero_le _⟩
theorem firstN_none {α : Type} {p : Nat → α → Bool} : ∀ (l : List α) (i : Nat), (∀ j (h : j < l.length), p (i + j) l[j] = false) → firstN p l i = none
  | [], _, _ => rfl
  | x :: r, i, h => by
    have h0 := h 0 (by simp)
    rw [Nat.add_zero] at h0
    have h0 : p i x = false := h0
    rw [firstN, h0]
    exact firstN_none r (i + 1) (fun j hj => by
      have := h (j + 1) (by simpa using hj)
      rwa [show i + (j + 1) = i + 1 + j by omega] at this)
theorem twiceTs_none : ∀ (s : Sc) (k : Nat), (∀ t ∈ s, twiceR t.rels = none) → twiceTs k s = none
  | [], _, _ => rfl
  | x :: r, k, h => by
    rw [twiceTs, h x (List.mem_cons_self ..)]
    exact twiceTs_none r (k + 1) (fun t ht => h t (List.mem_cons_of_mem _ ht))
theorem badR_val {s : Sc} {t : Nat} {P : Nat → Prop} : ∀ (l : List Rl) (k : Nat), (∀ x ∈ l, P (namesN s t x)) → ∀ f, badR s t l k = some f → P f.2.2 ∧ f.2.2 ≠ 0
  | [], _, _, f, h => by cases h
  | x :: r, k, hP, f, h => by
    unfold badR at h
    by_cases h0 : namesN s t x ≠ 0
    · rw [if_pos h0] at h
      injection h with h
      subst h
      exact ⟨hP x (List.mem_cons_self ..), h0⟩
    · rw [if_neg h0] at h
      exact badR_val r (k + 1) (fun y hy => hP y (List.mem_cons_of_mem _ hy)) f h
theorem badT_val {s : Sc} {P : Nat → Prop} : ∀ (l : Sc) (t : Nat), (∀ i (hi : i < l.length), ∀ x ∈ l[i].rels, P (namesN s (t + i) x)) → ∀ f, badT s l t = some f → P f.2.2 ∧ f.2.2 ≠ 0
  | [], _, _, f, h => by cases h
  | x :: r, t, hP, f, h => by
    unfold badT at h
    cases hb : badR s t x.rels 0 with
    | some g =>
      rw [hb] at h
      injection h with h
      subst h
      exact badR_val x.rels 0 (fun y hy => by
        have := hP 0 (by simp) y hy
        rwa [Nat.add_zero] at this) _ hb
    | none =>
      rw [hb] at h
      exact badT_val r (t + 1) (fun i hi y hy => by
        have := hP (i + 1) (by simpa using hi) y hy
        rwa [show t + (i + 1) = t + 1 + i by omega] at this) f h
theorem plain_names {s : Sc} {P : Nat → Prop} (hne : s.length ≠ 0) (hm : mayS s = true) (hl : s.length ≤ 16) (hr : ∀ t ∈ s, t.rels.length ≤ 16) (hd : Dist s) (hP : ∀ i (hi : i < s.length), ∀ x ∈ s[i].rels, P (namesN s i x)) :
    plainN s = (0, 0, 0) ∨ (P (plainN s).2.2 ∧ (plainN s).2.2 ≠ 0) := by
  unfold plainN
  rw [if_neg (by rintro (h | h); · rw [hm] at h; cases h
                 · exact hne h), if_neg (by omega)]
  have h1 : firstN (fun _ (x : Ty) => decide (16 < x.rels.length)) s 0 = none := firstN_none s 0 (fun j hj => decide_eq_false (by have := hr _ (List.getElem_mem hj); omega))
  have h2 : firstN (fun i (x : Ty) => decide (typN s x.name < i)) s 0 = none := firstN_none s 0 (fun j hj => decide_eq_false (by rw [hd.typ hj]; omega))
  have h3 : twiceTs 0 s = none := twiceTs_none s 0 (fun t ht => by
    obtain ⟨i, hi, rfl⟩ := List.mem_iff_getElem.1 ht
    unfold twiceR
    refine firstN_none _ 0 (fun j hj => decide_eq_false ?_)
    have h4 := hd.rel hi hj
    unfold relN at h4
    rw [ofT_at hi] at h4
    rw [h4]; omega)
  rw [h1, h2, h3]
  dsimp only
  cases hb : badT s s 0 with
  | none => exact .inl rfl
  | some f =>
    exact .inr (badT_val s 0 (fun i hi x hx => by rw [Nat.zero_add]; exact hP i hi x hx) f hb)
theorem frRow_none {f : Nat → Nat} {t : Nat} : ∀ (l : List Rl) (k : Nat), (∀ b, b < l.length → f (k + b) = 0) → frRow f t l k = none
  | [], _, _ => rfl
  | x :: r, k, h => by
    have h0 := h 0 (by simp)
    rw [Nat.add_zero] at h0
    unfold frRow
    rw [if_neg (fun h => h h0)]
    exact frRow_none r (k + 1) (fun b hb => by
      have := h (b + 1) (by simpa using hb)
      rwa [show k + (b + 1) = k + 1 + b by omega] at this)
theorem frN_none {f : Nat → Nat → Nat} : ∀ (l : Sc) (t : Nat), (∀ a (ha : a < l.length) b, b < l[a].rels.length → f (t + a) b = 0) → frN f l t = (0, 0, 0)
  | [], _, _ => rfl
  | x :: r, t, h => by
    unfold frN
    rw [frRow_none x.rels 0 (fun b hb => by
      have := h 0 (by simp) b hb
      rwa [Nat.add_zero, ← Nat.zero_add b] at this)]
    exact frN_none r (t + 1) (fun a ha b hb => by
      have := h (a + 1) (by simpa using ha) b hb
      rwa [show t + (a + 1) = t + 1 + a by omega] at this)
theorem sizes_zero {s : Sc} (h : plainN s = (0, 0, 0)) : (sizesN s).2.2 = 0 ∧ (namesF s).2.2 = 0 := by
  rw [plain_is] at h
  by_cases h1 : (sizesN s).2.2 = 0
  · rw [if_neg (fun h => h h1)] at h
    exact ⟨h1, by rw [h]⟩
  · rw [if_pos h1] at h
    rw [h] at h1
    exact absurd rfl h1
theorem Sound.plain {s : Sc} (h : Sound s) : plainN s = (0, 0, 0) := by
  rcases plain_names (P := fun n => n = 0) h.ne h.ok.may h.len h.rels h.ok.dist (fun i hi x hx => by
    obtain ⟨k, hk, rfl⟩ := List.mem_iff_getElem.1 hx
    exact h.ok.names i hi k hk) with h1 | ⟨h1, h2⟩
  · exact h1
  · exact absurd h1 h2
theorem ExIs.sound {s : Sc} {z : Fa} {lv : List (List Nat) → Prop} (h : ExIs s z lv) : (z.2.2 = 0 ↔ Sound s) ∧ (Sound s → ∃ HL, Top (knS s) (hv HL) ∧ lv (hvS HL s)) := by
  rcases h with ⟨h1, h2⟩ | ⟨h1, h2, h3⟩ | ⟨h1, h2, HL, m, h3, h4, h5, h6, h7⟩
  · have hn : ¬ Sound s := fun hs => h1 (sizes_zero hs.plain).1
    exact ⟨⟨fun h => absurd (h2 ▸ h) h1, fun h => absurd h hn⟩, fun h => absurd h hn⟩
  · have hn : ¬ Sound s := fun hs => h2 (sizes_zero hs.plain).2
    exact ⟨⟨fun h => absurd (h3 ▸ h) h2, fun h => absurd h hn⟩, fun h => absurd h hn⟩
  · have hok := ok_of h1 h2
    have hsz := sizes_ok h1
    have hm := h4 hok.dist.nodup
    have hmm : manyN s < m := by rw [hm, nodesS_len]; have := hsz.1; omega
    have hzero : Sound s → z = (0, 0, 0) := fun hs => by
      obtain ⟨_, hlt⟩ := h5.top hmm hs.bw
      rw [h6]
      refine frN_none s 0 (fun i hi k hk => ?_)
      rw [Nat.zero_add, exF_is hi hk, if_neg (by have := hlt (nodeN s (i, k)); omega)]
    refine ⟨⟨fun hz => ⟨hsz.1, hsz.2.2.1, hsz.2.2.2, hok, h5.bw (fun y hy => ?_)⟩, fun hs => by rw [hzero hs]⟩, fun hs => ⟨HL, (h5.top hmm hs.bw).1, h7 (by rw [hzero hs])⟩⟩
    obtain ⟨t, ht, hy⟩ := List.mem_flatMap.1 hy
    obtain ⟨r, hr, rfl⟩ := List.mem_map.1 hy
    obtain ⟨i, hi, rfl⟩ := List.mem_iff_getElem.1 ht
    obtain ⟨k, hk, rfl⟩ := List.mem_iff_getElem.1 hr
    have h8 := frN_zero s 0 (by rw [← h6]; exact hz) i hi k hk
    rw [Nat.zero_add, exF_is hi hk, nodeN_at hi hk] at h8
    have h9 := h5.most (s[i].name, s[i].rels[k].name)
    by_cases h10 : hv HL (s[i].name, s[i].rels[k].name) = m
    · rw [if_pos h10] at h8; cases h8
    · omega
theorem hvS_app (HL : List (Nk × Nat)) (a b : Sc) : hvS HL (a ++ b) = hvS HL a ++ hvS HL b := List.map_append
theorem hvS_len (HL : List (Nk × Nat)) (s : Sc) : (hvS HL s).length = s.length := List.length_map _
theorem hvS_congr {HL HL' : List (Nk × Nat)} {s : Sc} (h : ∀ t ∈ s, ∀ r ∈ t.rels, hv HL (t.name, r.name) = hv HL' (t.name, r.name)) : hvS HL s = hvS HL' s := by
  unfold hvS
  refine List.map_congr_left (fun t ht => ?_)
  unfold hvT
  exact List.map_congr_left (fun r hr => h t ht r hr)
end Go.Proofs.Ytdnhbledndgbcaa
namespace Go.Proofs.Ytdnhbledndgbcaa
open Go.RowKit
theorem Dist.kn_mem {s : Sc} (hd : Dist s) {t : Ty} (ht : t ∈ s) {r : Rl} (hr : r ∈ t.rels) : knS s (t.name, r.name) = some r := by
  obtain ⟨i, hi, rfl⟩ := List.mem_iff_getElem.1 ht
  obtain ⟨k, hk, rfl⟩ := List.mem_iff_getElem.1 hr
  exact hd.kn hi hk
theorem Dist.knT_mem {s : Sc} (hd : Dist s) {t : Ty} (ht : t ∈ s) : knS s (t.name, []) = some noRel := by
  obtain ⟨i, hi, rfl⟩ := List.mem_iff_getElem.1 ht
  rw [hd.knT, hd.typ hi, if_neg (by omega)]
theorem nodesS_mem {s t : Sc} (h : ∀ x, x ∈ s ↔ x ∈ t) (y : Nk) : y ∈ nodesS s ↔ y ∈ nodesS t := by
  unfold nodesS
  rw [List.mem_flatMap, List.mem_flatMap]
  exact ⟨fun ⟨a, h1, h2⟩ => ⟨a, (h a).1 h1, h2⟩, fun ⟨a, h1, h2⟩ => ⟨a, (h a).2 h1, h2⟩⟩
theorem knS_same {s t : Sc} (ht : Dist t) (h : ∀ x, x ∈ s ↔ x ∈ t) : knS s = knS t := by
  funext y
  cases hq : knS s y with
  | some q =>
    obtain ⟨a, ha, h1 | ⟨r, hr, h1⟩⟩ := knS_some hq
    · rw [h1.1, h1.2, ht.knT_mem ((h a).1 ha)]
    · rw [h1.1, h1.2, ht.kn_mem ((h a).1 ha) hr]
  | none =>
    cases hp : knS t y with
    | none => rfl
    | some q =>
      have h1 : (knS t y).isSome = true := by rw [hp]; rfl
      have h2 := knS_is.2 ((nodesS_mem h y).2 (knS_is.1 h1))
      rw [hq] at h2
      cases h2
theorem Dist.perm {s t : Sc} (hd : Dist s) (hn : (t.map (·.name)).Nodup) (h : ∀ x ∈ t, x ∈ s) : Dist t := by
  refine ⟨fun i j hi hj e => ?_, fun i hi j k hj hk e => ?_, fun i hi j hj => ?_⟩
  · have h1 := List.pairwise_iff_getElem.1 (List.nodup_iff_pairwise_ne.1 hn)
    rcases Nat.lt_trichotomy i j with hlt | rfl | hlt
    · exact absurd (by rw [List.getElem_map, List.getElem_map]; exact e) (h1 i j (by simpa using hi) (by simpa using hj) hlt)
    · rfl
    · exact absurd (by rw [List.getElem_map, List.getElem_map]; exact e.symm) (h1 j i (by simpa using hj) (by simpa using hi) hlt)
  · obtain ⟨a, ha, e2⟩ := List.mem_iff_getElem.1 (h _ (List.getElem_mem hi))
    generalize t[i] = x at *
    subst e2
    exact hd.rl a ha j k hj hk e
  · obtain ⟨a, ha, e2⟩ := List.mem_iff_getElem.1 (h _ (List.getElem_mem hi))
    generalize t[i] = x at *
    subst e2
    exact hd.ne a ha j hj
end Go.Proofs.Ytdnhbledndgbcaa
namespace Go.Proofs.Ytdnhbledndgbcaa
open Go.RowKit
theorem Dist.names {s : Sc} (hd : Dist s) : (s.map (·.name)).Nodup := by
  rw [List.nodup_iff_pairwise_ne, List.pairwise_map, List.pairwise_iff_getElem]
  intro i j hi hj hij e
  have := hd.ty i j hi hj e
  omega
theorem may_all {s : Sc} : mayS s = true ↔ ∀ t ∈ s, mayT t = true := by
  unfold mayS
  exact List.all_eq_true
theorem mayR_of {s : Sc} (h : mayS s = true) {t : Ty} (ht : t ∈ s) {r : Rl} (hr : r ∈ t.rels) : mayR r = true := by
  have h5 := may_all.1 h t ht
  unfold mayT at h5
  rw [Bool.and_eq_true] at h5
  exact List.all_eq_true.1 h5.2 r hr
theorem Sound.perm {s t : Sc} (h : Sound s) (hp : t.Perm s) : Sound t ∧ knS t = knS s := by
  have hmem : ∀ x, x ∈ t ↔ x ∈ s := fun x => hp.mem_iff
  have hd : Dist t := h.ok.dist.perm ((hp.map _).nodup_iff.2 h.ok.dist.names) (fun x hx => (hmem x).1 hx)
  have hkn : knS t = knS s := knS_same h.ok.dist hmem
  have hmay : mayS t = true := may_all.2 (fun x hx => may_all.1 h.ok.may x ((hmem x).1 hx))
  refine ⟨⟨by rw [hp.length_eq]; exact h.ne, by rw [hp.length_eq]; exact h.len, fun x hx => h.rels x ((hmem x).1 hx), ⟨hd, hmay, fun i hi k hk => ?_⟩, by rw [hkn]; exact h.bw⟩, hkn⟩
  have hti := List.getElem_mem hi
  have hx := List.getElem_mem hk
  rw [← names_is hd hi _ (mayR_of hmay hti hx), hkn]
  obtain ⟨j, hj, e⟩ := List.mem_iff_getElem.1 ((hmem _).1 hti)
  generalize t[i].rels[k] = x at *
  generalize t[i] = ty at *
  subst e
  obtain ⟨k', hk', rfl⟩ := List.mem_iff_getElem.1 hx
  rw [names_is h.ok.dist hj _ (mayR_of h.ok.may (List.getElem_mem hj) (List.getElem_mem hk'))]
  exact h.ok.names j hj k' hk'
theorem sound_perm {s t : Sc} (hp : t.Perm s) : Sound t ↔ Sound s := ⟨fun h => (h.perm hp.symm).1, fun h => (h.perm hp).1⟩
theorem order_same {s t : Sc} (hp : t.Perm s) {z z' : Fa} {lv lv' : List (List Nat) → Prop} (h : ExIs s z lv) (h' : ExIs t z' lv') :
    decide (z.2.2 = 0) = decide (z'.2.2 = 0) ∧ (z.2.2 = 0 → ∃ HL, lv (hvS HL s) ∧ lv' (hvS HL t)) := by
  have h1 := h.sound
  have h2 := h'.sound
  refine ⟨?_, fun hz => ?_⟩
  · by_cases hz : z.2.2 = 0
    · rw [decide_eq_true hz, decide_eq_true (h2.1.2 ((sound_perm hp).2 (h1.1.1 hz)))]
    · rw [decide_eq_false hz, decide_eq_false (fun hz' => hz (h1.1.2 ((sound_perm hp).1 (h2.1.1 hz'))))]
  · have hs := h1.1.1 hz
    have ht := hs.perm hp
    obtain ⟨HL, h3, h4⟩ := h1.2 hs
    obtain ⟨HL', h5, h6⟩ := h2.2 ht.1
    refine ⟨HL, h4, ?_⟩
    rw [hvS_congr (HL := HL) (HL' := HL') (fun x _ r _ => h3.same (by rw [← ht.2]; exact h5) _)]
    exact h6
end Go.Proofs.Ytdnhbledndgbcaa
namespace Go.Proofs.Ytdnhbledndgbcaa
open Go.RowKit
theorem cutT_tail (A : Option Addr) (n c m : Nat) (hm : m < n) (hc : n ≤ c) (W : World) : (Instr.slice 23 (.slice A n c) (some (.int .i64 (m : Int))) none none).run Try.prog W = .ok (.slice (A.map (·.add (m * 2))) (n - m) (c - m)) W := by
  have e2 : Try.prog.elem 23 = 49 := by kernel_rfl
  have hi : (Try.prog.info? 49).map (fun i => i.size) = some 2 := by kernel_rfl
  obtain ⟨i, hi, hz⟩ := Option.map_eq_some_iff.1 hi
  rw [run_slice_l W 23 A n c (by kernel_rfl) .i64 (m : Int) (by omega) (by omega), e2]
  simp [sizeOf, typeInfo, hi, hz, sliced]
  intro h
  omega
theorem cutT_head (A : Option Addr) (n c m : Nat) (hm : m ≤ c) (W : World) : (Instr.slice 23 (.slice A n c) none (some (.int .i64 (m : Int))) none).run Try.prog W = .ok (.slice A m c) W := by
  have e2 : Try.prog.elem 23 = 49 := by kernel_rfl
  have hi : (Try.prog.info? 49).map (fun i => i.size) = some 2 := by kernel_rfl
  obtain ⟨i, hi, hz⟩ := Option.map_eq_some_iff.1 hi
  rw [run_slice_h W 23 A n c (by kernel_rfl) .i64 (m : Int) (by omega) (by omega), e2]
  simp [sizeOf, typeInfo, hi, hz, sliced]
  intro _
  cases A with
  | none => rfl
  | some a =>
    show some (a.add 0) = some a
    simp [Addr.add]
theorem cutL_tail (A : Option Addr) (n c m : Nat) (hm : m < n) (hc : n ≤ c) (W : World) : (Instr.slice 43 (.slice A n c) (some (.int .i64 (m : Int))) none none).run Try.prog W = .ok (.slice (A.map (·.add (m * 1))) (n - m) (c - m)) W := by
  have e2 : Try.prog.elem 43 = 46 := by kernel_rfl
  have hi : (Try.prog.info? 46).map (fun i => i.size) = some 1 := by kernel_rfl
  obtain ⟨i, hi, hz⟩ := Option.map_eq_some_iff.1 hi
  rw [run_slice_l W 43 A n c (by kernel_rfl) .i64 (m : Int) (by omega) (by omega), e2]
  simp [sizeOf, typeInfo, hi, hz, sliced]
  intro h
  omega
theorem cutL_head (A : Option Addr) (n c m : Nat) (hm : m ≤ c) (W : World) : (Instr.slice 43 (.slice A n c) none (some (.int .i64 (m : Int))) none).run Try.prog W = .ok (.slice A m c) W := by
  have e2 : Try.prog.elem 43 = 46 := by kernel_rfl
  have hi : (Try.prog.info? 46).map (fun i => i.size) = some 1 := by kernel_rfl
  obtain ⟨i, hi, hz⟩ := Option.map_eq_some_iff.1 hi
  rw [run_slice_h W 43 A n c (by kernel_rfl) .i64 (m : Int) (by omega) (by omega), e2]
  simp [sizeOf, typeInfo, hi, hz, sliced]
  intro _
  cases A with
  | none => rfl
  | some a =>
    show some (a.add 0) = some a
    simp [Addr.add]
theorem step_append_rows_g {P : Program} (w : World) {ops : Array Oper} {o : Oper} {a : Act} {K : Act → World → Prop} {Q : Exit → Act → World → Prop} {E : Prop} (hgd : o.guard = none) (s x : Operand) (t : TypeId)
    (ho : o.op = .call { callee := .builtin .append, args := #[s, x], argTypes := #[t, t] })
    {e : TypeId} {k b : Nat} {i : TypeInfo} {z : Value} (R : RowT P t e k b i z) (hk : 0 < k) (hb64 : b ≤ 128)
    (base : Nat) (A : Option Addr) (n c : Nat) (xs : List Value) (ad : Addr) (m c2 : Nat) (L : List Value) (hL : L.length = m * k) (hs : a.eval s = .slice A n c) (hx : a.eval x = .slice (some ad) m c2)
    (hnews : ∀ (j : Nat) u, L[j]? = some u → w.cell? (ad.add j) = some u) (hbase : base ≤ w.heap.size) (h : w.ownsRow base e k (.slice A n c) n xs) (hone : ∀ u ∈ L, u.oneCell' = true) (hn : n + m ≤ 1000000)
    (K0 : ∀ A' c' w', w'.ownsRow base e k (.slice A' (n + m) c') (n + m) (xs ++ L) → Below base w w' → w.grownBy w' (Value.slice A n c).ownBlock → ((Value.slice A' (n + m) c').ownBlock = (Value.slice A n c).ownBlock ∨ (Value.slice A' (n + m) c').ownBlock = some w.heap.size) → K (a.put o.dst (.slice A' (n + m) c')) w') :
    if Region.wanted o (yielded ops a.tmps) = true then Oper.wp P o a w K Q else E := by
  have hw : Region.wanted o (yielded ops a.tmps) = true := by simp [Region.wanted, hgd]
  rw [if_pos hw]
  obtain ⟨v', w', hr, h2, h3, _, h5⟩ := run_append_own_at (P := P) w base t o.type e i z k b R.ht R.hi R.hz R.hs R.hb R.zs hk _ n xs h ad m c2 L hL hnews hone (by unfold maxLen; omega) (Nat.le_trans (Nat.mul_le_mul_left _ hb64) (by omega)) hbase
  obtain ⟨A', c', rfl⟩ := ownrow_shape h2
  unfold Oper.wp execOp
  simp only [ho, resolve, invoke, builtin, Sem.run_bind, Sem.run_pure, Result.andThen_ok, List.map_toArray, List.map_cons, List.map_nil, hs, hx, hr]
  exact K0 A' c' w' h2 (below_grown (Below.refl base w) hbase h h3) h3 h5
theorem own_other {w : World} {base : Nat} {e : TypeId} {s n c : Nat} {A : Option Addr} {xs : List Value} (h : w.ownsRow base e s (.slice A n c) n xs) {g : Nat} (hg : (Value.slice A n c).ownBlock ≠ some g) (i : Nat) (v : Value) : (w.setCell ⟨g, i, none⟩ v).ownsRow base e s (.slice A n c) n xs := by
  refine ⟨h.1, ?_⟩
  rcases h.2 with h2 | ⟨b, cap, cur, hv, hb, hh, h3⟩
  · exact .inl h2
  · refine .inr ⟨b, cap, cur, hv, hb, ?_, h3⟩
    rw [Below.heap_setCell _ _ _ _ (fun e => hg (by rw [hv, e]; rfl))]
    exact hh
theorem part_at {α : Type} {k : Nat} {R : World → (Nat → Prop) → α → List Value → Prop} {w : World} {F : Nat → Prop} {l : List α} {news : List Value} (h : ∀ j (h : j < l.length), ∃ cs, R w F l[j] cs ∧ ∀ q, q < k → news[j * k + q]? = cs[q]?) (m : Nat) (hm : m ≤ l.length) (hl : news.length = l.length * k) :
    ∀ j (h : j < (l.drop m ++ l.take m).length), ∃ cs, R w F (l.drop m ++ l.take m)[j] cs ∧ ∀ q, q < k → (news.drop (m * k) ++ news.take (m * k))[j * k + q]? = cs[q]? := by
  intro j hj
  have hmk : m * k ≤ l.length * k := Nat.mul_le_mul_right k hm
  have hdl : (news.drop (m * k)).length = (l.length - m) * k := by rw [List.length_drop, hl, Nat.sub_mul]
  by_cases hj1 : j < l.length - m
  · have hjm : m + j < l.length := by omega
    obtain ⟨cs, h1, h2⟩ := h (m + j) hjm
    refine ⟨cs, ?_, fun q hq => ?_⟩
    · rw [List.getElem_append_left (by simp; omega), List.getElem_drop]
      exact h1
    · have hlt : j * k + q < (l.length - m) * k := by
        have : (j + 1) * k ≤ (l.length - m) * k := Nat.mul_le_mul_right k hj1
        rw [Nat.succ_mul] at this
        omega
      rw [List.getElem?_append_left (by omega), List.getElem?_drop, ← h2 q hq]
      congr 1
      rw [Nat.add_mul]; omega
  · have hlen : (l.drop m ++ l.take m).length = l.length := by simp; omega
    have hjm : j - (l.length - m) < m := by omega
    obtain ⟨cs, h1, h2⟩ := h (j - (l.length - m)) (by omega)
    refine ⟨cs, ?_, fun q hq => ?_⟩
    · rw [List.getElem_append_right (by simp; omega)]
      simp only [List.length_drop, List.getElem_take]
      exact h1
    · have e : j * k = (l.length - m) * k + (j - (l.length - m)) * k := by rw [← Nat.add_mul]; congr 1; omega
      have hlt : (j - (l.length - m)) * k + q < m * k := by
        have : (j - (l.length - m) + 1) * k ≤ m * k := Nat.mul_le_mul_right k hjm
        rw [Nat.succ_mul] at this
        omega
      rw [List.getElem?_append_right (by omega), hdl, e, List.getElem?_take, if_pos (by omega), ← h2 q hq]
      congr 1
      omega
theorem RowCp.row {α : Type} {k : Nat} {R : World → (Nat → Prop) → α → List Value → Prop} {w w' : World} {F G : Nat → Prop} {e : TypeId} {l : List α} {A : Option Addr} (h : RowCp k R w F e l A w') (hG : ∀ i, G i → i < w.heap.size) (hR : ∀ x cs, R w F x cs → R w' G x cs) : RowAt k R w' G A l := by
  rcases h with h | ⟨g, M, hA, hg, hB, hle, hq⟩
  · exact .inl h
  · refine .inr ⟨g, 0, hA, hB.lt, fun hf => by have := hG g hf; omega, fun j hj => ?_⟩
    obtain ⟨cs, h1, h2⟩ := hq j hj
    refine ⟨cs, hR _ _ h1, fun i hi => ?_⟩
    have hlt : j * k + i < M.length := by
      have : (j + 1) * k ≤ l.length * k := Nat.mul_le_mul_right k hj
      rw [Nat.succ_mul] at this
      omega
    rw [← h2 i hi, Nat.zero_add, hB.cell hlt, List.getElem?_eq_getElem hlt]
theorem TyAt.one {W : World} {F : Nat → Prop} {x : Ty} {cs : List Value} (h : TyAt W F x cs) : cs.length = 2 ∧ ∀ u ∈ cs, u.oneCell' = true := by
  obtain ⟨A, c, rfl, _⟩ := h
  refine ⟨rfl, fun u hu => ?_⟩
  simp only [List.mem_cons, List.not_mem_nil, or_false] at hu
  rcases hu with rfl | rfl <;> rfl
theorem IrAt.one {W : World} {F : Nat → Prop} {x : List Nat} {cs : List Value} (h : IrAt W F x cs) : cs.length = 1 ∧ ∀ u ∈ cs, u.oneCell' = true := by
  obtain ⟨A, c, rfl, _⟩ := h
  refine ⟨rfl, fun u hu => ?_⟩
  rw [List.mem_singleton.1 hu]; rfl
theorem rowTs : ∃ i z, RowT Try.prog 23 49 2 40 i z := by
  have hf : (Try.prog.info? 49).map (fun i => (i.zero, i.size, i.bytes)) = some (some (.agg #[.string ⟨#[]⟩, .slice none 0 0]), 2, 40) := by kernel_rfl
  obtain ⟨i, hi, hz, hs, hb⟩ := info_parts hf
  exact ⟨i, _, Try.underlying23, hi, hz, hs, hb, rfl⟩
end Go.Proofs.Ytdnhbledndgbcaa
