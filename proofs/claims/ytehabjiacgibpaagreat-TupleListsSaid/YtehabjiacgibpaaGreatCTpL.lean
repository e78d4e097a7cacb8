/-
  Lists picked from by number. No program is named.
  What sort.Slice comes to at a list of tuples in a row of the call's own, in a box. Conditions: at most 1,000,000 tuples; the box is another block.
  Texts, and rows of things, copied (strings.Clone, slices.Clone). Conditions: a text of at most 2^48 bytes; at most 1,000,000 things.
  How high an expression is, and may it be (conciergeref11's Height, MayExpr)? Conditions: it is there; it is at most 1,000,000 high; what it may have is from 0 to 1,000.
  May a relation, may a schema be printed (conciergeref11's mayRel, May)? Condition: it is there.
  Schemas by number, as the document's rules see them: the number of a type, of a relation; what is wrong with an expression, a relation, a schema, but for cycles. No program is named.
  What the program's Allowed looks up, as lists: a type by its name, and its relations without their expressions. No program is named.
-/
import Derived.Test.YtehabjiacgibpaaGreatCTuE
import Derived.Test.YtehabjiacgibpaaGreatCRowG
import Derived.Test.YtehabjiacgibpaaGreatCSoSl
import Derived.Test.YtehabjiacgibpaaGreatShelf
import Derived.Test.YtehabjiacgibpaaGreatCNmSub
import Derived.Lib.SliceRun
namespace Go.Proofs.YtehabjiacgibpaaGreat
open Go.RowKit
def pickN (p : Nat → Bool) (l : List Tup) : Nat → List Tup
  | 0 => []
  | j + 1 => pickN p l j ++ (if p j then (l[j]?).toList else [])
theorem pickN_yes {p : Nat → Bool} {l : List Tup} {j : Nat} (h : j < l.length) (hp : p j = true) : pickN p l (j + 1) = pickN p l j ++ [l[j]] := by
  rw [pickN, if_pos hp, List.getElem?_eq_getElem h]; rfl
theorem pickN_no {p : Nat → Bool} {l : List Tup} {j : Nat} (hp : p j = false) : pickN p l (j + 1) = pickN p l j := by
  rw [pickN, if_neg (by rw [hp]; decide), List.append_nil]
theorem pickN_len (p : Nat → Bool) (l : List Tup) : ∀ j, (pickN p l j).length ≤ j
  | 0 => Nat.le_refl _
  | j + 1 => by
    have := pickN_len p l j
    rw [pickN, List.length_append]
    split
    · cases l[j]? <;> simp <;> omega
    · simp; omega
theorem pickN_mem {p : Nat → Bool} {l : List Tup} {t : Tup} : ∀ {j}, t ∈ pickN p l j → t ∈ l
  | 0, h => by cases h
  | j + 1, h => by
    rw [pickN, List.mem_append] at h
    rcases h with h | h
    · exact pickN_mem h
    · split at h
      · cases hj : l[j]? with
        | none => rw [hj] at h; cases h
        | some x =>
          rw [hj] at h
          have h : t ∈ [x] := h
          rw [List.mem_singleton.1 h]
          exact List.mem_of_getElem? hj
      · cases h
theorem pickN_filter {p : Nat → Bool} {l : List Tup} {f : Tup → Bool} (h : ∀ i (hi : i < l.length), p i = f l[i]) : ∀ j, j ≤ l.length → pickN p l j = (l.take j).filter f
  | 0, _ => by simp [pickN]
  | j + 1, hj => by
    have ih := pickN_filter h j (by omega)
    rw [take_filter (show j < l.length by omega), ← h j (by omega)]
    cases hp : p j
    · rw [pickN_no hp, ih]; rfl
    · rw [pickN_yes (by omega) hp, ih]; rfl
theorem pickN_all {p : Nat → Bool} {l : List Tup} {f : Tup → Bool} (h : ∀ i (hi : i < l.length), p i = f l[i]) : pickN p l l.length = l.filter f := by
  rw [pickN_filter h _ (Nat.le_refl _), List.take_length]
theorem ordT : Ord.Is lessT := ⟨lessT_self, lessT_asymm, lessT_eq, lessT_trans⟩
def Asc (l : List Tup) : Prop := ∀ i j (hj : j < l.length) (hi : i < j), lessT l[j] (l[i]'(by omega)) = false
def news (l : List Tup) (i : Nat) : Bool := decide (i = 0) || !decide (l[i]? = l[i - 1]?)
theorem news_srt {l : List Tup} (h : Asc l) : ∀ j, j ≤ l.length → Ord.Srt lessT (pickN (news l) l j) ∧ ∀ x, x ∈ pickN (news l) l j ↔ x ∈ l.take j
  | 0, _ => ⟨List.Pairwise.nil, fun x => by simp [pickN]⟩
  | j + 1, hj => by
    obtain ⟨ih1, ih2⟩ := news_srt h j (by omega)
    have hjl : j < l.length := by omega
    have hmem : ∀ x, x ∈ l.take (j + 1) ↔ x ∈ l.take j ∨ x = l[j] := fun x => by
      rw [List.take_succ_eq_append_getElem hjl, List.mem_append, List.mem_singleton]
    cases hp : news l j
    · rw [pickN_no hp]
      refine ⟨ih1, fun x => ?_⟩
      rw [ih2, hmem]
      refine ⟨.inl, fun hx => ?_⟩
      rcases hx with hx | rfl
      · exact hx
      · unfold news at hp
        rw [Bool.or_eq_false_iff, decide_eq_false_iff_not, Bool.not_eq_false', decide_eq_true_iff] at hp
        obtain ⟨h0, h1⟩ := hp
        rw [List.getElem?_eq_getElem hjl, List.getElem?_eq_getElem (by omega)] at h1
        injection h1 with h1
        rw [h1]
        exact List.mem_take_iff_getElem.2 ⟨j - 1, by omega, rfl⟩
    · rw [pickN_yes hjl hp]
      refine ⟨List.pairwise_append.2 ⟨ih1, List.pairwise_singleton _ _, fun a ha b hb => ?_⟩, fun x => ?_⟩
      · rw [List.mem_singleton.1 hb]
        obtain ⟨i, hi, rfl⟩ := List.mem_take_iff_getElem.1 ((ih2 a).1 ha)
        have hij : i < j := by omega
        have h1 := h i j hjl hij
        cases h2 : lessT l[i] l[j]
        · exfalso
          have he := lessT_eq h2 h1
          unfold news at hp
          rw [Bool.or_eq_true, decide_eq_true_iff, Bool.not_eq_true', decide_eq_false_iff_not] at hp
          rcases hp with hp | hp
          · omega
          · apply hp
            rw [List.getElem?_eq_getElem hjl, List.getElem?_eq_getElem (by omega)]
            congr 1
            rcases Nat.lt_or_ge i (j - 1) with h3 | h3
            · have a1 := h i (j - 1) (by omega) h3
              have a2 := h (j - 1) j hjl (by omega)
              rw [← he] at a2
              rw [← he]
              exact lessT_eq a2 a1
            · have : i = j - 1 := by omega
              subst this
              exact he.symm
        · rfl
      · rw [List.mem_append, List.mem_singleton, ih2, hmem]
theorem news_all {l : List Tup} (h : Asc l) : Ord.Srt lessT (pickN (news l) l l.length) ∧ ∀ x, x ∈ pickN (news l) l l.length ↔ x ∈ l := by
  have := news_srt h l.length (Nat.le_refl _)
  rw [List.take_length] at this
  exact this
end Go.Proofs.YtehabjiacgibpaaGreat
namespace Go.Proofs.YtehabjiacgibpaaGreat
open Go.Shelf Go.RowKit Go.Lib
theorem holds_own {w : World} {base : Nat} {e : TypeId} {g n c : Nat} {L : List Tup} (h : w.ownsRow base e 6 (.slice (some ⟨g, 0, none⟩) n c) n (L.flatMap encT)) (hn : n = L.length) : Sort.HoldsK encT 6 w g 0 L.toArray := fun j hj => by
  rw [Sort.size_flatK, List.size_toArray] at hj
  have hj6 : j / 6 < L.length := by omega
  have h1 := h.cellAt j (by rw [hn]; exact hj)
  have h2 := h.frozenAt j
  have h3 := flatMap_at (s := 6) encT (fun _ => rfl) L (j / 6) hj6 (j % 6) (by omega)
  rw [show j / 6 * 6 + j % 6 = j by omega] at h3
  rw [h3] at h1
  refine ⟨?_, by rw [Nat.zero_add]; exact h2⟩
  rw [Nat.zero_add, h1]
  have h4 := Sort.get_flatK encT 6 L.toArray j (by rw [List.size_toArray]; exact hj)
  have h5 : L.toArray[j / 6]! = L[j / 6] := by rw [getElem!_pos L.toArray (j / 6) (by rw [List.size_toArray]; exact hj6)]; rfl
  have h6 : j % 6 < (encT L[j / 6]).length := by show j % 6 < 6; omega
  rw [h5, getElem!_pos (encT L[j / 6]) (j % 6) h6] at h4
  rw [List.getElem?_eq_getElem h6, ← h4]
  rfl
theorem row_holds {w : World} {g : Nat} {d : Array Tup} (h : Sort.HoldsK encT 6 w g 0 d) (hg : g < w.heap.size) (hk : ∀ t ∈ d.toList, okT t) : TuR w (some ⟨g, 0, none⟩) d.toList := by
  refine .inr ⟨g, 0, rfl, hg, fun h => h, fun j hj => ⟨encT d.toList[j], ⟨rfl, hk _ (List.getElem_mem hj)⟩, fun i hi => ?_⟩⟩
  have hj2 : j < d.size := by simpa using hj
  have h1 := (h.cell (i := j) (c := i) hj2 hi).1
  have h2 : d[j]! = d.toList[j] := by rw [getElem!_pos d j hj2]; rfl
  have h3 : i < (encT d.toList[j]).length := hi
  rw [h2, getElem!_pos (encT d.toList[j]) i h3] at h1
  rw [h1, List.getElem?_eq_getElem h3]
theorem asc_of {d : Array Tup} (h : Sort.SortedIn lessT 0 d.size d) : Asc d.toList := fun i j hj hi => by
  have hj2 : j < d.size := by simpa using hj
  have h1 := h i j (Nat.zero_le _) hi hj2
  rw [getElem!_pos d j hj2, getElem!_pos d i (by omega)] at h1
  exact h1
theorem mem_of_perm {d d' : Array Tup} (h : Sort.PermIn 0 d.size d d') : d'.size = d.size ∧ ∀ t, t ∈ d'.toList ↔ t ∈ d.toList := by
  obtain ⟨h1, _, h3⟩ := h
  refine ⟨h1, fun t => ?_⟩
  have h3 := h3.mem_iff (a := t)
  rw [show d.extract 0 d.size = d by simp, show d'.extract 0 d.size = d' by rw [← h1]; simp] at h3
  exact h3
theorem below_grow (W : World) (os : Array Obj) : Below W.heap.size W (Sort.grow W os) := ⟨rfl, rfl, rfl, by simp, fun i hi => Sort.heap_grow_old W os hi⟩
theorem tsort_any (L : List Tup) (A : Option Addr) (n c Bs base : Nat) (W : World) (hn : n = L.length) (hn1 : n ≤ 1000000) (ho : W.ownsRow base 34 6 (.slice A n c) n (L.flatMap encT)) (hk : ∀ t ∈ L, okT t) (hB : Bs < W.heap.size) (hne : ∀ a, A = some a → Bs ≠ a.block) (hBs : W.cell? ⟨Bs, 0, none⟩ = some (.slice A n c)) :
    Calls Tryz.prog 22 #[.iface 22 (.slice A n c), .func (.func 23) #[] #[.pointer (some ⟨Bs, 0, none⟩)]] W fun e w' =>
      e = .returned (.tuple #[]) ∧ ∃ L', n = L'.length ∧ TuR w' A L' ∧ Asc L' ∧ (∀ t, t ∈ L' ↔ t ∈ L) ∧ w'.cell? ⟨Bs, 0, none⟩ = some (.slice A n c) ∧ W.grownBy w' (Value.slice A n c).ownBlock ∧ Bs < w'.heap.size := by
  by_cases h2 : 2 ≤ n
  · obtain ⟨g, cap, cur, hv, hbg, hh, hnc, hcm, hsz, htake⟩ : ∃ g cap cur, Value.slice A n c = .slice (some ⟨g, 0, none⟩) n cap ∧ base ≤ g ∧ W.heap[g]? = some (.cells cur 34 (0, 0)) ∧ n ≤ cap ∧ cap ≤ maxLen ∧ cur.size = cap * 6 ∧ cur.toList.take (n * 6) = L.flatMap encT := by
      rcases ho.2 with ⟨_, h0⟩ | h
      · omega
      · exact h
    injection hv with hA _ hc
    subst hA hc
    have hgl : g < W.heap.size := by
      rcases Nat.lt_or_ge g W.heap.size with hlt | hge
      · exact hlt
      · rw [Array.getElem?_eq_none hge] at hh; cases hh
    have hd : L.toArray.size = n := by rw [List.size_toArray, hn]
    have hs := tsort_many g 0 c Bs L.toArray W (by rw [hd]; exact h2) (by rw [hd]; omega) (holds_own ho hn) hgl hB (hne _ rfl) (by rw [hd]; exact hBs)
    rw [hd] at hs
    refine hs.mono ?_
    rintro e w' ⟨rfl, d', hp, hq, hS⟩
    have hp2 := mem_of_perm (d := L.toArray) (by rw [hd]; exact hp)
    rw [hd] at hp2
    refine ⟨rfl, d'.toList, by rw [Array.length_toList, hp2.1], row_holds hS.holds hS.there (fun t ht => hk t ((hp2.2 t).1 ht)), asc_of (by rw [hp2.1]; exact hq), fun t => hp2.2 t, hS.grown.cell hBs (fun e => hne _ rfl (by injection e)), hS.grown, Nat.lt_of_lt_of_le hB hS.grown.size⟩
  · have hasc : Asc L := fun i j hj hi => by omega
    obtain ⟨f, hf⟩ : ∃ f, Tryz.prog.funcs.findIdx? (·.name == "internal/reflectlite" ++ ".Swapper$" ++ toString (swapperK n tupI 25)) = some f := by
      have : n = 0 ∨ n = 1 := by omega
      rcases this with h | h
      · rw [h]; exact ⟨65, by kernel_rfl⟩
      · rw [h]; exact ⟨66, by kernel_rfl⟩
    have hs := Any.sort_Slice_tiny Tryz.laysGg6 22 34 tupsI tupI (by kernel_rfl) (by kernel_rfl) (by kernel_rfl) (by kernel_rfl) 25 (fun _ => by kernel_rfl) A n c (by omega) f hf (.func 23) #[] #[.pointer (some ⟨Bs, 0, none⟩)] W
    refine hs.mono ?_
    rintro e w' ⟨rfl, os, rfl⟩
    have hb : Below W.heap.size W (Sort.grow W os) := below_grow W os
    exact ⟨rfl, L, hn, (TuR.of_own hn ho hk).below hb, hasc, fun _ => Iff.rfl, (hb.cell (p := ⟨Bs, 0, none⟩) hB).trans hBs, only_of_below hb _, Nat.lt_of_lt_of_le hB hb.size⟩
end Go.Proofs.YtehabjiacgibpaaGreat
namespace Go.Proofs.YtehabjiacgibpaaGreat
open Go.RowKit
theorem rclone_any (l : Txt) (w : World) (hm : l.length ≤ 281474976710656) :
    Calls Tryz.prog 86 #[strV l] w fun e w' => e = .returned (strV l) ∧ Below w.heap.size w w' := by
  have hC := fun W => Tryz.stringslite_Clone ⟨l.toArray⟩ W (by simpa [ByteArray.size] using hm)
  have HC := Lib.hid hC
  clear hC
  go_enter Tryz.func86, Tryz.ntmps86
  go_wp2_with (go_at_call 104; with_reducible refine (HC.out _).mono ?_; rintro e w1 ⟨rfl, hb1⟩)
  go_ret
  exact ⟨rfl, hb1⟩
theorem row_news {α : Type} {k : Nat} {R : World → (Nat → Prop) → α → List Value → Prop} {w : World} {F : Nat → Prop} {b off : Nat} {l : List α} (hk0 : 0 < k) (hk : ∀ j (h : j < l.length), ∃ cs, R w F l[j] cs ∧ ∀ i, i < k → w.cell? ⟨b, off + j * k + i, none⟩ = cs[i]?)
    (hlen : ∀ x cs, R w F x cs → cs.length = k) (hone : ∀ x cs, R w F x cs → ∀ u ∈ cs, u.oneCell' = true) :
    ∃ news : List Value, news.length = l.length * k ∧ (∀ (i : Nat) u, news[i]? = some u → w.cell? ⟨b, off + i, none⟩ = some u) ∧ (∀ u ∈ news, u.oneCell' = true) ∧ ∀ j (h : j < l.length), ∃ cs, R w F l[j] cs ∧ ∀ q, q < k → news[j * k + q]? = cs[q]? := by
  have hcell : ∀ i, i < l.length * k → ∃ u, w.cell? ⟨b, off + i, none⟩ = some u ∧ u.oneCell' = true := fun i hi => by
    have h1 : i / k < l.length := Nat.div_lt_of_lt_mul (by rw [Nat.mul_comm]; exact hi)
    have h2 : i % k < k := Nat.mod_lt _ hk0
    obtain ⟨cs, hR, hc⟩ := hk (i / k) h1
    have h3 := hc (i % k) h2
    have h4 : off + i / k * k + i % k = off + i := by have := Nat.div_add_mod' i k; omega
    rw [h4, List.getElem?_eq_getElem (by rw [hlen _ _ hR]; exact h2)] at h3
    exact ⟨_, h3, hone _ _ hR _ (List.getElem_mem _)⟩
  refine ⟨(List.range (l.length * k)).map (fun i => (w.cell? ⟨b, off + i, none⟩).getD (.bool false)), by simp, fun i u hu => ?_, fun u hu => ?_, fun j hj => ?_⟩
  · rw [List.getElem?_map] at hu
    rcases Nat.lt_or_ge i (l.length * k) with h | h
    · rw [List.getElem?_range h] at hu
      obtain ⟨v, hv, _⟩ := hcell i h
      rw [Option.map_some, hv] at hu
      rw [hv]
      exact hu
    · rw [List.getElem?_eq_none (by simpa using h)] at hu
      cases hu
  · obtain ⟨i, hi, rfl⟩ := List.mem_map.1 hu
    obtain ⟨v, hv, h1⟩ := hcell i (by simpa using hi)
    rw [hv]; exact h1
  · obtain ⟨cs, hR, hc⟩ := hk j hj
    refine ⟨cs, hR, fun q hq => ?_⟩
    have hlt : j * k + q < l.length * k := by
      have : (j + 1) * k ≤ l.length * k := Nat.mul_le_mul_right k hj
      rw [Nat.succ_mul] at this
      omega
    rw [List.getElem?_map, List.getElem?_range hlt, Option.map_some, ← Nat.add_assoc, hc q hq, List.getElem?_eq_getElem (by rw [hlen _ _ hR]; exact hq)]
    rfl
def RowCp {α : Type} (k : Nat) (R : World → (Nat → Prop) → α → List Value → Prop) (w : World) (F : Nat → Prop) (e : TypeId) (l : List α) (A : Option Addr) (w' : World) : Prop :=
  l = [] ∨ ∃ g M, A = some ⟨g, 0, none⟩ ∧ w.heap.size ≤ g ∧ Blk w' g M e ∧ l.length * k ≤ M.length ∧ ∀ j (h : j < l.length), ∃ cs, R w F l[j] cs ∧ ∀ q, q < k → M[j * k + q]? = cs[q]?
theorem RowCp.of_own {α : Type} {k : Nat} {R : World → (Nat → Prop) → α → List Value → Prop} {w w' : World} {F : Nat → Prop} {e : TypeId} {l : List α} {A : Option Addr} {n c : Nat} {news : List Value} (hl : news.length = l.length * k) (h : w'.ownsRow w.heap.size e k (.slice A n c) n news) (hn : n = l.length)
    (hR : ∀ j (h : j < l.length), ∃ cs, R w F l[j] cs ∧ ∀ q, q < k → news[j * k + q]? = cs[q]?) : RowCp k R w F e l A w' := by
  subst hn
  rcases h.2 with ⟨_, h0⟩ | ⟨g, cap, cur, hv, hb, hh, hnc, _, hsz, htake⟩
  · exact .inl (List.length_eq_zero_iff.1 h0)
  · injection hv with hA _ _
    have hle : l.length * k ≤ cur.toList.length := by
      have h1 := congrArg List.length htake
      rw [List.length_take, hl] at h1
      omega
    refine .inr ⟨g, cur.toList, hA, hb, by unfold Blk; simpa using hh, hle, fun j hj => ?_⟩
    obtain ⟨cs, h1, h2⟩ := hR j hj
    refine ⟨cs, h1, fun q hq => ?_⟩
    have hlt : j * k + q < l.length * k := by
      have : (j + 1) * k ≤ l.length * k := Nat.mul_le_mul_right k hj
      rw [Nat.succ_mul] at this
      omega
    rw [← h2 q hq, ← htake, List.getElem?_take, if_pos hlt]
theorem rowCRef : ∃ i z, RowT Tryz.prog 66 85 2 32 i z := by
  have hf : (Tryz.prog.info? 85).map (fun i => (i.zero, i.size, i.bytes)) = some (some (.agg #[.string ⟨#[]⟩, .string ⟨#[]⟩]), 2, 32) := by kernel_rfl
  obtain ⟨i, hi, hz, hs, hb⟩ := info_parts hf
  exact ⟨i, _, Tryz.underlying66, hi, hz, hs, hb, rfl⟩
theorem cloneRef_any {α : Type} {R : World → (Nat → Prop) → α → List Value → Prop} (l : List α) (A : Option Addr) (c : Nat) (w : World) (F : Nat → Prop) (h : RowAt 2 R w F A l) (hlen : ∀ x cs, R w F x cs → cs.length = 2) (hone : ∀ x cs, R w F x cs → ∀ u ∈ cs, u.oneCell' = true) (hn : l.length ≤ 1000000) :
    Calls Tryz.prog 113 #[.slice A l.length c] w fun e w' => ∃ A' c', e = .returned (.slice A' l.length c') ∧ Below w.heap.size w w' ∧ RowCp 2 R w F 85 l A' w' := by
  have q22 : ∀ (w : World) (a : Option Addr) (n c n' c' : Nat), (binOp .eql 66 (.slice a n c) (.slice none n' c')).run Tryz.prog w = .ok (.bool a.isNone) w := fun w a n c n' c' => Lib.run_eql_slice_nil w _ _ a n c n' c' Tryz.underlying66
  obtain ⟨i0, z0, hRW⟩ := rowCRef
  have HRW := Lib.hid hRW
  clear hRW
  rcases A with _ | ad
  · obtain rfl : l = [] := by
      rcases h with h | ⟨_, _, h, _⟩
      · exact h
      · cases h
    clear h hlen hone
    go_enter Tryz.func113, Tryz.ntmps113
    go_wp2_with fail
    go_ret
    exact ⟨none, 0, rfl, Below.refl _ _, .inl rfl⟩
  · have hnews : ∃ news : List Value, news.length = l.length * 2 ∧ (∀ (i : Nat) u, news[i]? = some u → w.cell? (ad.add i) = some u) ∧ (∀ u ∈ news, u.oneCell' = true) ∧ ∀ j (h : j < l.length), ∃ cs, R w F l[j] cs ∧ ∀ q, q < 2 → news[j * 2 + q]? = cs[q]? := by
      rcases h with rfl | ⟨b, off, hA, _, _, hk⟩
      · exact ⟨[], rfl, fun i u hu => by simp at hu, fun u hu => (by cases hu), fun j hj => (by cases hj)⟩
      · injection hA with hA
        subst hA
        obtain ⟨news, h1, h2, h3, h4⟩ := row_news (by decide) hk hlen hone
        exact ⟨news, h1, fun i u hu => by rw [add_plain]; exact h2 i u hu, h3, h4⟩
    obtain ⟨news, h1, h2, h3, h4⟩ := hnews
    have H1 := Lib.hid h1
    have HO : Hid ((w.alloc (.cells #[] 85)).ownsRow w.heap.size 85 2 (.slice (some ⟨w.heap.size, 0, none⟩) 0 0) 0 []) := Lib.hid (World.ownsRow_made w #[] 0 (Nat.le_refl _) (Nat.zero_le _) rfl)
    have HB : Hid (Below w.heap.size w (w.alloc (.cells #[] 85))) := Lib.hid ((Below.refl _ _).alloc (Nat.le_refl _) _)
    have H2 : Hid (∀ (i : Nat) u, news[i]? = some u → (w.alloc (.cells #[] 85)).cell? (ad.add i) = some u) := Lib.hid (fun i u hu => by
      have h5 := h2 i u hu
      exact (HB.out.cell (p := ad.add i) (World.block_lt_of_cell? w _ h5)).trans h5)
    have H3 := Lib.hid h3
    have H4 := Lib.hid h4
    obtain ⟨m, hm⟩ : ∃ m, m = l.length := ⟨_, rfl⟩
    have HM := Lib.hid hm
    rw [← hm] at hn ⊢
    clear h h1 h2 h3 h4 hlen hone hm
    go_enter Tryz.func113, Tryz.ntmps113
    go_wp2_with (at_builtin; refine wpList_append_own_at _ rfl (.tmp 5) (.tmp 6) 66 rfl w.heap.size 85 i0 _ 2 32 HRW.out.ht HRW.out.hi HRW.out.hz HRW.out.hs HRW.out.hb HRW.out.zs (by decide) _ 0 [] rfl HO.out ad m c news rfl (by rw [H1.out, HM.out]) H2.out H3.out (by unfold maxLen; omega) (by omega) HB.out.size ?_)
    intro v1 w1 hown hg _ _
    obtain ⟨A1, c1, rfl⟩ := ownrow_shape hown
    have HOW := Lib.hid hown
    have HB1 : Hid (Below w.heap.size w w1) := Lib.hid (below_grown HB.out HB.out.size HO.out hg)
    clear hown hg
    go_wp2_with fail
    go_ret
    exact ⟨A1, c1, rfl, HB1.out, RowCp.of_own H1.out HOW.out HM.out H4.out⟩
theorem rowCExpr : ∃ i z, RowT Tryz.prog 67 69 4 64 i z := by
  have hf : (Tryz.prog.info? 69).map (fun i => (i.zero, i.size, i.bytes)) = some (some (.agg #[.int .i64 0, .string ⟨#[]⟩, .string ⟨#[]⟩, .slice none 0 0]), 4, 64) := by kernel_rfl
  obtain ⟨i, hi, hz, hs, hb⟩ := info_parts hf
  exact ⟨i, _, Tryz.underlying67, hi, hz, hs, hb, rfl⟩
theorem cloneExpr_any {α : Type} {R : World → (Nat → Prop) → α → List Value → Prop} (l : List α) (A : Option Addr) (c : Nat) (w : World) (F : Nat → Prop) (h : RowAt 4 R w F A l) (hlen : ∀ x cs, R w F x cs → cs.length = 4) (hone : ∀ x cs, R w F x cs → ∀ u ∈ cs, u.oneCell' = true) (hn : l.length ≤ 1000000) :
    Calls Tryz.prog 118 #[.slice A l.length c] w fun e w' => ∃ A' c', e = .returned (.slice A' l.length c') ∧ Below w.heap.size w w' ∧ RowCp 4 R w F 69 l A' w' := by
  have q22 : ∀ (w : World) (a : Option Addr) (n c n' c' : Nat), (binOp .eql 67 (.slice a n c) (.slice none n' c')).run Tryz.prog w = .ok (.bool a.isNone) w := fun w a n c n' c' => Lib.run_eql_slice_nil w _ _ a n c n' c' Tryz.underlying67
  obtain ⟨i0, z0, hRW⟩ := rowCExpr
  have HRW := Lib.hid hRW
  clear hRW
  rcases A with _ | ad
  · obtain rfl : l = [] := by
      rcases h with h | ⟨_, _, h, _⟩
      · exact h
      · cases h
    clear h hlen hone
    go_enter Tryz.func118, Tryz.ntmps118
    go_wp2_with fail
    go_ret
    exact ⟨none, 0, rfl, Below.refl _ _, .inl rfl⟩
  · have hnews : ∃ news : List Value, news.length = l.length * 4 ∧ (∀ (i : Nat) u, news[i]? = some u → w.cell? (ad.add i) = some u) ∧ (∀ u ∈ news, u.oneCell' = true) ∧ ∀ j (h : j < l.length), ∃ cs, R w F l[j] cs ∧ ∀ q, q < 4 → news[j * 4 + q]? = cs[q]? := by
      rcases h with rfl | ⟨b, off, hA, _, _, hk⟩
      · exact ⟨[], rfl, fun i u hu => by simp at hu, fun u hu => (by cases hu), fun j hj => (by cases hj)⟩
      · injection hA with hA
        subst hA
        obtain ⟨news, h1, h2, h3, h4⟩ := row_news (by decide) hk hlen hone
        exact ⟨news, h1, fun i u hu => by rw [add_plain]; exact h2 i u hu, h3, h4⟩
    obtain ⟨news, h1, h2, h3, h4⟩ := hnews
    have H1 := Lib.hid h1
    have HO : Hid ((w.alloc (.cells #[] 69)).ownsRow w.heap.size 69 4 (.slice (some ⟨w.heap.size, 0, none⟩) 0 0) 0 []) := Lib.hid (World.ownsRow_made w #[] 0 (Nat.le_refl _) (Nat.zero_le _) rfl)
    have HB : Hid (Below w.heap.size w (w.alloc (.cells #[] 69))) := Lib.hid ((Below.refl _ _).alloc (Nat.le_refl _) _)
    have H2 : Hid (∀ (i : Nat) u, news[i]? = some u → (w.alloc (.cells #[] 69)).cell? (ad.add i) = some u) := Lib.hid (fun i u hu => by
      have h5 := h2 i u hu
      exact (HB.out.cell (p := ad.add i) (World.block_lt_of_cell? w _ h5)).trans h5)
    have H3 := Lib.hid h3
    have H4 := Lib.hid h4
    obtain ⟨m, hm⟩ : ∃ m, m = l.length := ⟨_, rfl⟩
    have HM := Lib.hid hm
    rw [← hm] at hn ⊢
    clear h h1 h2 h3 h4 hlen hone hm
    go_enter Tryz.func118, Tryz.ntmps118
    go_wp2_with (at_builtin; refine wpList_append_own_at _ rfl (.tmp 5) (.tmp 6) 67 rfl w.heap.size 69 i0 _ 4 64 HRW.out.ht HRW.out.hi HRW.out.hz HRW.out.hs HRW.out.hb HRW.out.zs (by decide) _ 0 [] rfl HO.out ad m c news rfl (by rw [H1.out, HM.out]) H2.out H3.out (by unfold maxLen; omega) (by omega) HB.out.size ?_)
    intro v1 w1 hown hg _ _
    obtain ⟨A1, c1, rfl⟩ := ownrow_shape hown
    have HOW := Lib.hid hown
    have HB1 : Hid (Below w.heap.size w w1) := Lib.hid (below_grown HB.out HB.out.size HO.out hg)
    clear hown hg
    go_wp2_with fail
    go_ret
    exact ⟨A1, c1, rfl, HB1.out, RowCp.of_own H1.out HOW.out HM.out H4.out⟩
end Go.Proofs.YtehabjiacgibpaaGreat
namespace Go.Proofs.YtehabjiacgibpaaGreat
open Go.RowKit
mutual
def heightE : Ex → Nat
  | .mk _ _ _ ks => heightL ks + 1
def heightL : List Ex → Nat
  | [] => 0
  | k :: r => max (heightE k) (heightL r)
end
theorem heightL_mem {x : Ex} : ∀ {ks : List Ex}, x ∈ ks → heightE x ≤ heightL ks
  | [], h => by cases h
  | k :: r, h => by
    unfold heightL
    rcases List.mem_cons.1 h with rfl | h
    · exact Nat.le_max_left _ _
    · exact Nat.le_trans (heightL_mem h) (Nat.le_max_right _ _)
set_option maxHeartbeats 1000000 in
theorem height_any : ∀ (e : Ex) (W : World) (F : Nat → Prop) (cs : List Value), ExAt W F e cs → heightE e ≤ 1000000 →
    Calls Tryz.prog 106 #[.agg cs.toArray] W fun e' w' => e' = .returned (.int .i64 (heightE e)) ∧ Below W.heap.size W w' := by
  intro e
  refine Ex.all (P := fun e => ∀ (W : World) (F : Nat → Prop) (cs : List Value), ExAt W F e cs → heightE e ≤ 1000000 →
    Calls Tryz.prog 106 #[.agg cs.toArray] W fun e' w' => e' = .returned (.int .i64 (heightE e)) ∧ Below W.heap.size W w') (fun k n o ks ih W F cs hE hm => ?_) e
  obtain ⟨A, c, rfl, ⟨_, _, _, hl⟩, hr⟩ := hE.row
  show Calls _ _ #[.agg #[.int .i64 k, strV n, strV o, .slice A ks.length c]] _ _
  obtain ⟨W1, hW⟩ : ∃ W1, W1 = W.alloc (.cells #[.int .i64 k, strV n, strV o, .slice A ks.length c] 69) := ⟨_, rfl⟩
  have HK0 : Hid (Blk W1 W.heap.size [.int .i64 k, strV n, strV o, .slice A ks.length c] 69) := by rw [hW]; exact Lib.hid (Blk.new W _ _)
  have HB0 : Hid (Below W.heap.size W W1) := by rw [hW]; exact Lib.hid ((Below.refl W.heap.size W).alloc (Nat.le_refl _) _)
  unfold heightE at hm ⊢
  obtain ⟨v, hv⟩ : ∃ v, v = heightL ks := ⟨_, rfl⟩
  have HMem := Lib.hid (fun x (hx : x ∈ ks) => Nat.le_trans (heightL_mem hx) (Nat.le_of_succ_le hm))
  rw [← hv] at hm ⊢
  have HR := Lib.hid hr
  have HI := Lib.hid ih
  have HW := Lib.hid hW
  have HV := Lib.hid hv
  clear ih hr hE hW hv
  go_enter Tryz.func106, Tryz.ntmps106
  go_wp2_with fail
  rw [← HW.out]
  go_loopw [3, 4] (fun sn i wr => ∃ (j q : Nat), j ≤ ks.length ∧ i = .int .i64 j ∧ sn = .int .i64 q ∧ q ≤ 1000000 ∧ Hid (max q (heightL (ks.drop j)) = v) ∧ Hid (Below W1.heap.size W1 wr)) (fun _ i _ => ks.length - (intOf i).toNat)
  case atStart => exact ⟨0, 0, by omega, rfl, rfl, by omega, Lib.hid (by rw [Nat.zero_max]; exact HV.out.symm), Lib.hid (Below.refl _ _)⟩
  case round =>
    obtain ⟨j, q, hj, rfl, rfl, hq, HQ, BW⟩ := hrel
    have x3 := (HK0.out.below BW.out HK0.out.lt).cell (i := 3) (by simp)
    simp only [List.getElem_cons_succ, List.getElem_cons_zero] at x3
    by_cases hlt : j < ks.length
    · have HD := Lib.hid (List.drop_eq_getElem_cons hlt)
      obtain ⟨b, off, k', n', o', A', m', c', rfl, hE', hcells⟩ := HR.out.kid hlt
      obtain ⟨z0, z1, z2, z3⟩ := hcells wr (HB0.out.trans (BW.out.mono HB0.out.size))
      have hx := HMem.out ks[j] (List.getElem_mem hlt)
      have HC := Lib.hid (HI.out ks[j] (List.getElem_mem hlt) wr F _ (hE'.below (HB0.out.trans (BW.out.mono HB0.out.size))) hx)
      obtain ⟨h, hh⟩ : ∃ h, h = heightE ks[j] := ⟨_, rfl⟩
      rw [← hh] at HC hx
      have HN : Hid (max q (max h (heightL (ks.drop (j + 1)))) = v) := by
        show _ = _
        rw [← HQ.out, HD.out, heightL, hh]
      clear hE' hcells hh
      by_cases hqh : q < h
      · have HN2 : Hid (max h (heightL (ks.drop (j + 1))) = v) := by
          show _ = _
          rw [← HN.out]; omega
        go_wp2_with (go_at_call 106; refine HC.out.mono ?_; rintro e w2 ⟨rfl, hb2⟩)
        go_roundw
        case rel => exact ⟨j + 1, h, by omega, by go_num, rfl, by omega, HN2, Lib.hid (hop BW.out hb2)⟩
        case measure => simp [intOf]; omega
      · have HN2 : Hid (max q (heightL (ks.drop (j + 1))) = v) := by
          show _ = _
          rw [← HN.out]; omega
        have hd : decide (q < h) = false := decide_eq_false hqh
        go_wp2_with (go_at_call 106; refine HC.out.mono ?_; rintro e w2 ⟨rfl, hb2⟩)
        go_roundw
        case rel => exact ⟨j + 1, q, by omega, by go_num, rfl, by omega, HN2, Lib.hid (hop BW.out hb2)⟩
        case measure => simp [intOf]; omega
    · have HQ2 : Hid (q = v) := by
        show _ = _
        rw [← HQ.out, List.drop_of_length_le (by omega), heightL]; omega
      go_wp2_with fail
      go_ret
      exact ⟨by rw [← HQ2.out]; simp, HB0.out.trans (BW.out.mono HB0.out.size)⟩
end Go.Proofs.YtehabjiacgibpaaGreat
namespace Go.Proofs.YtehabjiacgibpaaGreat
open Go.RowKit
end Go.Proofs.YtehabjiacgibpaaGreat
namespace Go.Proofs.YtehabjiacgibpaaGreat
open Go.RowKit
def atN {α : Type} (p : α → Bool) : List α → Nat → Int
  | [], _ => -1
  | x :: r, i => if p x then (i : Int) else atN p r (i + 1)
theorem atN_drop {α : Type} {p : α → Bool} {l : List α} {j : Nat} (h : j < l.length) : atN p (l.drop j) j = if p l[j] then (j : Int) else atN p (l.drop (j + 1)) (j + 1) := by
  rw [List.drop_eq_getElem_cons h, atN]
theorem atN_is {α : Type} (p : α → Bool) : ∀ (l : List α) (i : Nat), atN p l i = -1 ∨ ∃ j, j < l.length ∧ atN p l i = ((i + j : Nat) : Int)
  | [], _ => .inl rfl
  | x :: r, i => by
    rw [atN]
    by_cases h : p x = true
    · rw [if_pos h]; exact .inr ⟨0, by simp, by simp⟩
    · rw [if_neg h]
      rcases atN_is p r (i + 1) with h1 | ⟨j, h1, h2⟩
      · exact .inl h1
      · exact .inr ⟨j + 1, by simp; omega, by rw [h2]; congr 1; omega⟩
def typN (s : Sc) (n : Txt) : Int := atN (fun (t : Ty) => decide (t.name = n)) s 0
def relsN (rs : List Rl) (n : Txt) : Int := atN (fun (r : Rl) => decide (r.name = n)) rs 0
def ofT (s : Sc) (t : Int) : List Rl := if t < 0 then [] else ((s[t.toNat]?).map (·.rels)).getD []
def relN (s : Sc) (t : Int) (n : Txt) : Int := relsN (ofT s t) n
theorem typN_is (s : Sc) (n : Txt) : typN s n = -1 ∨ ∃ j, j < s.length ∧ typN s n = (j : Int) := by
  rcases atN_is (fun (t : Ty) => decide (t.name = n)) s 0 with h | ⟨j, h1, h2⟩
  · exact .inl h
  · exact .inr ⟨j, h1, by unfold typN; rw [h2, Nat.zero_add]⟩
theorem relsN_is (rs : List Rl) (n : Txt) : relsN rs n = -1 ∨ ∃ j, j < rs.length ∧ relsN rs n = (j : Int) := by
  rcases atN_is (fun (r : Rl) => decide (r.name = n)) rs 0 with h | ⟨j, h1, h2⟩
  · exact .inl h
  · exact .inr ⟨j, h1, by unfold relsN; rw [h2, Nat.zero_add]⟩
theorem ofT_at {s : Sc} {j : Nat} (h : j < s.length) : ofT s (j : Int) = s[j].rels := by
  unfold ofT
  rw [if_neg (by omega), Int.toNat_natCast, List.getElem?_eq_getElem h]; rfl
theorem ofT_neg {s : Sc} {t : Int} (h : t < 0) : ofT s t = [] := if_pos h
def noRel : Rl := ⟨[], [], .mk 0 [] [] []⟩
def relAt (s : Sc) (t k : Int) : Rl := ((ofT s t)[k.toNat]?).getD noRel
def findR (s : Sc) (t n : Txt) : Rl × Bool := let i := typN s t; let k := relN s i n; if k < 0 then (noRel, false) else (relAt s i k, true)
end Go.Proofs.YtehabjiacgibpaaGreat
namespace Go.Proofs.YtehabjiacgibpaaGreat
open Go.RowKit
def bareR (x : Rl) : Rl := ⟨x.name, x.refs, .mk 0 [] [] []⟩
theorem atN_map {α β : Type} (f : α → β) (p : β → Bool) : ∀ (l : List α) (i : Nat), atN p (l.map f) i = atN (fun x => p (f x)) l i
  | [], _ => rfl
  | x :: r, i => by rw [List.map_cons, atN, atN, atN_map f p r (i + 1)]
theorem relsN_bare (rs : List Rl) (n : Txt) : relsN (rs.map bareR) n = relsN rs n := by unfold relsN; rw [atN_map]; rfl
theorem find_bare (rs : List Rl) (t n : Txt) : findR [⟨t, rs.map bareR⟩] t n = if relsN rs n < 0 then (noRel, false) else (bareR ((rs[(relsN rs n).toNat]?).getD noRel), true) := by
  have h1 : typN [(⟨t, rs.map bareR⟩ : Ty)] t = 0 := by unfold typN; rw [atN, if_pos (by simp)]; rfl
  have h2 : ofT [(⟨t, rs.map bareR⟩ : Ty)] 0 = rs.map bareR := by unfold ofT; rw [if_neg (by decide)]; rfl
  unfold findR
  dsimp only
  rw [h1]
  unfold relN relAt
  rw [h2, relsN_bare]
  by_cases h : relsN rs n < 0
  · rw [if_pos h, if_pos h]
  rw [if_neg h, if_neg h, List.getElem?_map]
  congr 1
  cases rs[(relsN rs n).toNat]? <;> rfl
theorem set6_get (M : List Value) (k : Nat) (c0 c1 c2 c3 c4 c5 : Value) (h : (k + 1) * 6 ≤ M.length) :
    (∀ q, q < 6 → ((((((M.set (k * 6) c0).set (k * 6 + 1) c1).set (k * 6 + 2) c2).set (k * 6 + 3) c3).set (k * 6 + 4) c4).set (k * 6 + 5) c5)[k * 6 + q]? = [c0, c1, c2, c3, c4, c5][q]?) ∧
    ∀ i, (i < k * 6 ∨ k * 6 + 6 ≤ i) → ((((((M.set (k * 6) c0).set (k * 6 + 1) c1).set (k * 6 + 2) c2).set (k * 6 + 3) c3).set (k * 6 + 4) c4).set (k * 6 + 5) c5)[i]? = M[i]? := by
  constructor
  · intro q hq
    have l : ∀ q, q < 6 → k * 6 + q < M.length := fun q hq => by omega
    match q, hq with
    | 0, _ => simp [show k * 6 < M.length by omega]
    | 1, _ => simp [l 1 (by decide)]
    | 2, _ => simp [l 2 (by decide)]
    | 3, _ => simp [l 3 (by decide)]
    | 4, _ => simp [l 4 (by decide)]
    | 5, _ => simp [l 5 (by decide)]
  · intro i hi
    rw [List.getElem?_set_ne (by omega), List.getElem?_set_ne (by omega), List.getElem?_set_ne (by omega), List.getElem?_set_ne (by omega), List.getElem?_set_ne (by omega), List.getElem?_set_ne (by omega)]
def cpS (s : Sc) : Prop := ∀ t ∈ s, t.rels.length ≤ 1000000 ∧ ∀ r ∈ t.rels, (r.name.length ≤ 281474976710656 ∧ r.refs.length ≤ 1000000) ∧ ∀ f ∈ r.refs, f.1.length ≤ 281474976710656 ∧ f.2.length ≤ 281474976710656
end Go.Proofs.YtehabjiacgibpaaGreat
