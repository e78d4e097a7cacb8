/-
  Texts, and rows of things, copied (strings.Clone, slices.Clone). Conditions: a text of at most 2^48 bytes; at most 1,000,000 things.
  Expressions copied (the program's copyExpr). Conditions: the expression is there; each text is of at most 2^48 bytes, each list of at most 1,000,000 expressions.
  Are two expressions the same, as lists. No program is named.
  Rows of refs, of relations, of types, cell by cell; are two relations, two schemas the same, as lists. No program is named.
-/
import Derived.Test.YtehabjiacgibpaaShelf
import Derived.Test.YtehabjiacgibpaaCRowT
import Derived.Lib.SliceRun
import Derived.Deep.RegionHeldLaw
namespace Go.Proofs.Ytehabjiacgibpaa
open Go.RowKit
theorem rclone_any (l : Txt) (w : World) (hm : l.length ≤ 281474976710656) :
    Calls Try.prog 86 #[strV l] w fun e w' => e = .returned (strV l) ∧ Below w.heap.size w w' := by
  have hC := fun W => Try.stringslite_Clone ⟨l.toArray⟩ W (by simpa [ByteArray.size] using hm)
  have HC := Lib.hid hC
  clear hC
  go_enter Try.func86, Try.ntmps86
  go_wp2_with (go_at_call 92; with_reducible refine (HC.out _).mono ?_; rintro e w1 ⟨rfl, hb1⟩)
  go_ret
  exact ⟨rfl, hb1⟩
theorem row_news {α : Type} {k : Nat} {R : World → (Nat → Prop) → α → List Value → Prop} {w : World} {F : Nat → Prop} {b off : Nat} {l : List α} (hk0 : 0 < k) (hk : ∀ j (h : j < l.length), ∃ cs, R w F l[j] cs ∧ ∀ i, i < k → w.cell? ⟨b, off + j * k + i, none⟩ = cs[i]?)
    (hlen : ∀ x cs, R w F x cs → cs.length = k) (hone : ∀ x cs, R w F x cs → ∀ u ∈ cs, u.oneCell' = true) :
    ∃ news : List Value, news.length = l.length * k ∧ (∀ (i : Nat) u, news[i]? = some u → w.cell? ⟨b, off + i, none⟩ = some u) ∧ (∀ u ∈ news, u.oneCell' = true) ∧ ∀ j (h : j < l.length), ∃ cs, R w F l[j] cs ∧ ∀ q, q < k → news[j * k + q]? = cs[q]? := by
  have hcell : ∀ i, i < l.length * k → ∃ u, w.cell? ⟨b, off + i, none⟩ = some u ∧ u.oneCell' = true := fun i hi => by
    have h1 : i / k < l.length := Nat.div_lt_of_lt_mul (by rw [Nat.mul_comm]; exact hi)
    have h2 : i % k < k := Nat.mod_lt _ hk0
    obtain ⟨cs, hR, hc⟩ := hk (i / k) h1
    have h3 := hc (i % k) h2
    have h4 : off + i / k * k + i % k = off + i := by have := Nat.div_add_mod' i k; omega
    rw [h4, List.getElem?_eq_getElem (by rw [hlen _ _ hR]; exact h2)] at h3
    exact ⟨_, h3, hone _ _ hR _ (List.getElem_mem _)⟩
  refine ⟨(List.range (l.length * k)).map (fun i => (w.cell? ⟨b, off + i, none⟩).getD (.bool false)), by simp, fun i u hu => ?_, fun u hu => ?_, fun j hj => ?_⟩
  · rw [List.getElem?_map] at hu
    rcases Nat.lt_or_ge i (l.length * k) with h | h
    · rw [List.getElem?_range h] at hu
      obtain ⟨v, hv, _⟩ := hcell i h
      rw [Option.map_some, hv] at hu
      rw [hv]
      exact hu
    · rw [List.getElem?_eq_none (by simpa using h)] at hu
      cases hu
  · obtain ⟨i, hi, rfl⟩ := List.mem_map.1 hu
    obtain ⟨v, hv, h1⟩ := hcell i (by simpa using hi)
    rw [hv]; exact h1
  · obtain ⟨cs, hR, hc⟩ := hk j hj
    refine ⟨cs, hR, fun q hq => ?_⟩
    have hlt : j * k + q < l.length * k := by
      have : (j + 1) * k ≤ l.length * k := Nat.mul_le_mul_right k hj
      rw [Nat.succ_mul] at this
      omega
    rw [List.getElem?_map, List.getElem?_range hlt, Option.map_some, ← Nat.add_assoc, hc q hq, List.getElem?_eq_getElem (by rw [hlen _ _ hR]; exact hq)]
    rfl
def RowCp {α : Type} (k : Nat) (R : World → (Nat → Prop) → α → List Value → Prop) (w : World) (F : Nat → Prop) (e : TypeId) (l : List α) (A : Option Addr) (w' : World) : Prop :=
  l = [] ∨ ∃ g M, A = some ⟨g, 0, none⟩ ∧ w.heap.size ≤ g ∧ Blk w' g M e ∧ l.length * k ≤ M.length ∧ ∀ j (h : j < l.length), ∃ cs, R w F l[j] cs ∧ ∀ q, q < k → M[j * k + q]? = cs[q]?
theorem RowCp.of_own {α : Type} {k : Nat} {R : World → (Nat → Prop) → α → List Value → Prop} {w w' : World} {F : Nat → Prop} {e : TypeId} {l : List α} {A : Option Addr} {n c : Nat} {news : List Value} (hl : news.length = l.length * k) (h : w'.ownsRow w.heap.size e k (.slice A n c) n news) (hn : n = l.length)
    (hR : ∀ j (h : j < l.length), ∃ cs, R w F l[j] cs ∧ ∀ q, q < k → news[j * k + q]? = cs[q]?) : RowCp k R w F e l A w' := by
  subst hn
  rcases h.2 with ⟨_, h0⟩ | ⟨g, cap, cur, hv, hb, hh, hnc, _, hsz, htake⟩
  · exact .inl (List.length_eq_zero_iff.1 h0)
  · injection hv with hA _ _
    have hle : l.length * k ≤ cur.toList.length := by
      have h1 := congrArg List.length htake
      rw [List.length_take, hl] at h1
      omega
    refine .inr ⟨g, cur.toList, hA, hb, by unfold Blk; simpa using hh, hle, fun j hj => ?_⟩
    obtain ⟨cs, h1, h2⟩ := hR j hj
    refine ⟨cs, h1, fun q hq => ?_⟩
    have hlt : j * k + q < l.length * k := by
      have : (j + 1) * k ≤ l.length * k := Nat.mul_le_mul_right k hj
      rw [Nat.succ_mul] at this
      omega
    rw [← h2 q hq, ← htake, List.getElem?_take, if_pos hlt]
theorem rowCRef : ∃ i z, RowT Try.prog 53 67 2 32 i z := by
  have hf : (Try.prog.info? 67).map (fun i => (i.zero, i.size, i.bytes)) = some (some (.agg #[.string ⟨#[]⟩, .string ⟨#[]⟩]), 2, 32) := by kernel_rfl
  obtain ⟨i, hi, hz, hs, hb⟩ := info_parts hf
  exact ⟨i, _, Try.underlying53, hi, hz, hs, hb, rfl⟩
theorem cloneRef_any {α : Type} {R : World → (Nat → Prop) → α → List Value → Prop} (l : List α) (A : Option Addr) (c : Nat) (w : World) (F : Nat → Prop) (h : RowAt 2 R w F A l) (hlen : ∀ x cs, R w F x cs → cs.length = 2) (hone : ∀ x cs, R w F x cs → ∀ u ∈ cs, u.oneCell' = true) (hn : l.length ≤ 1000000) :
    Calls Try.prog 85 #[.slice A l.length c] w fun e w' => ∃ A' c', e = .returned (.slice A' l.length c') ∧ Below w.heap.size w w' ∧ RowCp 2 R w F 67 l A' w' := by
  have q22 : ∀ (w : World) (a : Option Addr) (n c n' c' : Nat), (binOp .eql 53 (.slice a n c) (.slice none n' c')).run Try.prog w = .ok (.bool a.isNone) w := fun w a n c n' c' => Lib.run_eql_slice_nil w _ _ a n c n' c' Try.underlying53
  obtain ⟨i0, z0, hRW⟩ := rowCRef
  have HRW := Lib.hid hRW
  clear hRW
  rcases A with _ | ad
  · obtain rfl : l = [] := by
      rcases h with h | ⟨_, _, h, _⟩
      · exact h
      · cases h
    clear h hlen hone
    go_enter Try.func85, Try.ntmps85
    go_wp2_with fail
    go_ret
    exact ⟨none, 0, rfl, Below.refl _ _, .inl rfl⟩
  · have hnews : ∃ news : List Value, news.length = l.length * 2 ∧ (∀ (i : Nat) u, news[i]? = some u → w.cell? (ad.add i) = some u) ∧ (∀ u ∈ news, u.oneCell' = true) ∧ ∀ j (h : j < l.length), ∃ cs, R w F l[j] cs ∧ ∀ q, q < 2 → news[j * 2 + q]? = cs[q]? := by
      rcases h with rfl | ⟨b, off, hA, _, _, hk⟩
      · exact ⟨[], rfl, fun i u hu => by simp at hu, fun u hu => (by cases hu), fun j hj => (by cases hj)⟩
      · injection hA with hA
        subst hA
        obtain ⟨news, h1, h2, h3, h4⟩ := row_news (by decide) hk hlen hone
        exact ⟨news, h1, fun i u hu => by rw [add_plain]; exact h2 i u hu, h3, h4⟩
    obtain ⟨news, h1, h2, h3, h4⟩ := hnews
    have H1 := Lib.hid h1
    have HO : Hid ((w.alloc (.cells #[] 67)).ownsRow w.heap.size 67 2 (.slice (some ⟨w.heap.size, 0, none⟩) 0 0) 0 []) := Lib.hid (World.ownsRow_made w #[] 0 (Nat.le_refl _) (Nat.zero_le _) rfl)
    have HB : Hid (Below w.heap.size w (w.alloc (.cells #[] 67))) := Lib.hid ((Below.refl _ _).alloc (Nat.le_refl _) _)
    have H2 : Hid (∀ (i : Nat) u, news[i]? = some u → (w.alloc (.cells #[] 67)).cell? (ad.add i) = some u) := Lib.hid (fun i u hu => by
      have h5 := h2 i u hu
      exact (HB.out.cell (p := ad.add i) (World.block_lt_of_cell? w _ h5)).trans h5)
    have H3 := Lib.hid h3
    have H4 := Lib.hid h4
    obtain ⟨m, hm⟩ : ∃ m, m = l.length := ⟨_, rfl⟩
    have HM := Lib.hid hm
    rw [← hm] at hn ⊢
    clear h h1 h2 h3 h4 hlen hone hm
    go_enter Try.func85, Try.ntmps85
    go_wp2_with (at_builtin; refine wpList_append_own_at _ rfl (.tmp 5) (.tmp 6) 53 rfl w.heap.size 67 i0 _ 2 32 HRW.out.ht HRW.out.hi HRW.out.hz HRW.out.hs HRW.out.hb HRW.out.zs (by decide) _ 0 [] rfl HO.out ad m c news rfl (by rw [H1.out, HM.out]) H2.out H3.out (by unfold maxLen; omega) (by omega) HB.out.size ?_)
    intro v1 w1 hown hg _ _
    obtain ⟨A1, c1, rfl⟩ := ownrow_shape hown
    have HOW := Lib.hid hown
    have HB1 : Hid (Below w.heap.size w w1) := Lib.hid (below_grown HB.out HB.out.size HO.out hg)
    clear hown hg
    go_wp2_with fail
    go_ret
    exact ⟨A1, c1, rfl, HB1.out, RowCp.of_own H1.out HOW.out HM.out H4.out⟩
theorem rowCExpr : ∃ i z, RowT Try.prog 54 56 4 64 i z := by
  have hf : (Try.prog.info? 56).map (fun i => (i.zero, i.size, i.bytes)) = some (some (.agg #[.int .i64 0, .string ⟨#[]⟩, .string ⟨#[]⟩, .slice none 0 0]), 4, 64) := by kernel_rfl
  obtain ⟨i, hi, hz, hs, hb⟩ := info_parts hf
  exact ⟨i, _, Try.underlying54, hi, hz, hs, hb, rfl⟩
theorem cloneExpr_any {α : Type} {R : World → (Nat → Prop) → α → List Value → Prop} (l : List α) (A : Option Addr) (c : Nat) (w : World) (F : Nat → Prop) (h : RowAt 4 R w F A l) (hlen : ∀ x cs, R w F x cs → cs.length = 4) (hone : ∀ x cs, R w F x cs → ∀ u ∈ cs, u.oneCell' = true) (hn : l.length ≤ 1000000) :
    Calls Try.prog 93 #[.slice A l.length c] w fun e w' => ∃ A' c', e = .returned (.slice A' l.length c') ∧ Below w.heap.size w w' ∧ RowCp 4 R w F 56 l A' w' := by
  have q22 : ∀ (w : World) (a : Option Addr) (n c n' c' : Nat), (binOp .eql 54 (.slice a n c) (.slice none n' c')).run Try.prog w = .ok (.bool a.isNone) w := fun w a n c n' c' => Lib.run_eql_slice_nil w _ _ a n c n' c' Try.underlying54
  obtain ⟨i0, z0, hRW⟩ := rowCExpr
  have HRW := Lib.hid hRW
  clear hRW
  rcases A with _ | ad
  · obtain rfl : l = [] := by
      rcases h with h | ⟨_, _, h, _⟩
      · exact h
      · cases h
    clear h hlen hone
    go_enter Try.func93, Try.ntmps93
    go_wp2_with fail
    go_ret
    exact ⟨none, 0, rfl, Below.refl _ _, .inl rfl⟩
  · have hnews : ∃ news : List Value, news.length = l.length * 4 ∧ (∀ (i : Nat) u, news[i]? = some u → w.cell? (ad.add i) = some u) ∧ (∀ u ∈ news, u.oneCell' = true) ∧ ∀ j (h : j < l.length), ∃ cs, R w F l[j] cs ∧ ∀ q, q < 4 → news[j * 4 + q]? = cs[q]? := by
      rcases h with rfl | ⟨b, off, hA, _, _, hk⟩
      · exact ⟨[], rfl, fun i u hu => by simp at hu, fun u hu => (by cases hu), fun j hj => (by cases hj)⟩
      · injection hA with hA
        subst hA
        obtain ⟨news, h1, h2, h3, h4⟩ := row_news (by decide) hk hlen hone
        exact ⟨news, h1, fun i u hu => by rw [add_plain]; exact h2 i u hu, h3, h4⟩
    obtain ⟨news, h1, h2, h3, h4⟩ := hnews
    have H1 := Lib.hid h1
    have HO : Hid ((w.alloc (.cells #[] 56)).ownsRow w.heap.size 56 4 (.slice (some ⟨w.heap.size, 0, none⟩) 0 0) 0 []) := Lib.hid (World.ownsRow_made w #[] 0 (Nat.le_refl _) (Nat.zero_le _) rfl)
    have HB : Hid (Below w.heap.size w (w.alloc (.cells #[] 56))) := Lib.hid ((Below.refl _ _).alloc (Nat.le_refl _) _)
    have H2 : Hid (∀ (i : Nat) u, news[i]? = some u → (w.alloc (.cells #[] 56)).cell? (ad.add i) = some u) := Lib.hid (fun i u hu => by
      have h5 := h2 i u hu
      exact (HB.out.cell (p := ad.add i) (World.block_lt_of_cell? w _ h5)).trans h5)
    have H3 := Lib.hid h3
    have H4 := Lib.hid h4
    obtain ⟨m, hm⟩ : ∃ m, m = l.length := ⟨_, rfl⟩
    have HM := Lib.hid hm
    rw [← hm] at hn ⊢
    clear h h1 h2 h3 h4 hlen hone hm
    go_enter Try.func93, Try.ntmps93
    go_wp2_with (at_builtin; refine wpList_append_own_at _ rfl (.tmp 5) (.tmp 6) 54 rfl w.heap.size 56 i0 _ 4 64 HRW.out.ht HRW.out.hi HRW.out.hz HRW.out.hs HRW.out.hb HRW.out.zs (by decide) _ 0 [] rfl HO.out ad m c news rfl (by rw [H1.out, HM.out]) H2.out H3.out (by unfold maxLen; omega) (by omega) HB.out.size ?_)
    intro v1 w1 hown hg _ _
    obtain ⟨A1, c1, rfl⟩ := ownrow_shape hown
    have HOW := Lib.hid hown
    have HB1 : Hid (Below w.heap.size w w1) := Lib.hid (below_grown HB.out HB.out.size HO.out hg)
    clear hown hg
    go_wp2_with fail
    go_ret
    exact ⟨A1, c1, rfl, HB1.out, RowCp.of_own H1.out HOW.out HM.out H4.out⟩
end Go.Proofs.Ytehabjiacgibpaa
namespace Go.Proofs.Ytehabjiacgibpaa
open Go.RowKit
mutual
def cpE : Ex → Prop
  | .mk _ n o ks => n.length ≤ 281474976710656 ∧ o.length ≤ 281474976710656 ∧ ks.length ≤ 1000000 ∧ cpL ks
def cpL : List Ex → Prop
  | [] => True
  | x :: r => cpE x ∧ cpL r
end
theorem cpL_mem : ∀ {ks : List Ex}, cpL ks → ∀ x ∈ ks, cpE x
  | [], _, x, hx => by cases hx
  | y :: r, h, x, hx => by
    unfold cpL at h
    rcases List.mem_cons.1 hx with rfl | hx
    · exact h.1
    · exact cpL_mem h.2 x hx
theorem ExAt.one {W : World} {F : Nat → Prop} {e : Ex} {cs : List Value} (h : ExAt W F e cs) : ∀ u ∈ cs, u.oneCell' = true := by
  obtain ⟨k, n, o, ks⟩ := e
  unfold ExAt at h
  obtain ⟨A, c, rfl, _⟩ := h
  intro u hu
  simp only [List.mem_cons, List.not_mem_nil, or_false] at hu
  rcases hu with rfl | rfl | rfl | rfl <;> rfl
def CopyX (W : World) (e : Ex) (r : Ending) (w' : World) : Prop := ∃ cs : List Value, r = .returned (.agg cs.toArray) ∧ ExAt w' (fun b => b < W.heap.size) e cs ∧ Below W.heap.size W w'
def CpSt (base : Nat) (ks : List Ex) (A : Option Addr) (j : Nat) (wr : World) : Prop :=
  ks = [] ∨ ∃ g M, A = some ⟨g, 0, none⟩ ∧ base ≤ g ∧ Blk wr g M 56 ∧ ks.length * 4 ≤ M.length ∧ ∀ q (h : q < ks.length), ∃ cs, ExAt wr (fun b => (q < j ∧ b < base) ∨ b = g) ks[q] cs ∧ ∀ i, i < 4 → M[q * 4 + i]? = cs[i]?
theorem CpSt.row {wr : World} {base : Nat} {ks : List Ex} {A : Option Addr} (h : CpSt base ks A ks.length wr) : RowAt 4 ExAt wr (fun b => b < base) A ks := by
  rcases h with h | ⟨g, M, hA, hg, hB, hle, hq⟩
  · exact .inl h
  · refine .inr ⟨g, 0, hA, hB.lt, fun hf => by have hf : g < base := hf; omega, fun j hj => ?_⟩
    obtain ⟨cs, h1, h2⟩ := hq j hj
    refine ⟨cs, ExAt.moved (Spared.refl wr _) (fun i hi => .inl (.inl ⟨hj, hi⟩)) _ _ h1, fun i hi => ?_⟩
    have hlt : j * 4 + i < M.length := by
      have : (j + 1) * 4 ≤ ks.length * 4 := Nat.mul_le_mul_right 4 hj
      omega
    rw [← h2 i hi, Nat.zero_add, hB.cell hlt, List.getElem?_eq_getElem hlt]
theorem CpSt.start {w wr : World} {F : Nat → Prop} {base : Nat} {ks : List Ex} {A : Option Addr} (h : RowCp 4 ExAt w F 56 ks A wr) (hb : Below w.heap.size w wr) (hbase : base ≤ w.heap.size) : CpSt base ks A 0 wr := by
  rcases h with h | ⟨g, M, hA, hg, hB, hle, hq⟩
  · exact .inl h
  · refine .inr ⟨g, M, hA, by omega, hB, hle, fun q hj => ?_⟩
    obtain ⟨cs, h1, h2⟩ := hq q hj
    exact ⟨cs, ExAt.moved (Spared.of_below hb F) (fun i hi => by
      rcases hi with hi | hi
      · omega
      · exact .inr (by omega)) _ _ h1, h2⟩
theorem CpSt.below {wr w : World} {base j : Nat} {ks : List Ex} {A : Option Addr} (h : CpSt base ks A j wr) (hb : Below wr.heap.size wr w) : CpSt base ks A j w := by
  rcases h with h | ⟨g, M, hA, hg, hB, hle, hq⟩
  · exact .inl h
  · exact .inr ⟨g, M, hA, hg, hB.below hb hB.lt, hle, fun q hj => by
      obtain ⟨cs, h1, h2⟩ := hq q hj
      exact ⟨cs, h1.below hb, h2⟩⟩
theorem CpSt.at_ {wr : World} {base j : Nat} {ks : List Ex} {A : Option Addr} (h : CpSt base ks A j wr) (hj : j < ks.length) :
    ∃ g cs, A = some ⟨g, 0, none⟩ ∧ base ≤ g ∧ g < wr.heap.size ∧ ExAt wr (fun b => b = g) ks[j] cs ∧
      ∀ w, Below wr.heap.size wr w → (∀ i, i < 4 → w.cell? ⟨g, j * 4 + i, none⟩ = cs[i]? ∧ w.frozen? ⟨g, j * 4 + i, none⟩ = false) ∧
        ∀ (u0 u1 u2 u3 : Value), ExAt w (fun b => b < base ∨ b = g) ks[j] [u0, u1, u2, u3] → CpSt base ks A (j + 1) ((((w.setCell ⟨g, j * 4, none⟩ u0).setCell ⟨g, j * 4 + 1, none⟩ u1).setCell ⟨g, j * 4 + 2, none⟩ u2).setCell ⟨g, j * 4 + 3, none⟩ u3) := by
  rcases h with h | ⟨g, M, hA, hg, hB, hle, hq⟩
  · subst h; cases hj
  have hlt : j * 4 + 4 ≤ M.length := by
    have : (j + 1) * 4 ≤ ks.length * 4 := Nat.mul_le_mul_right 4 hj
    omega
  obtain ⟨cs, h1, h2⟩ := hq j hj
  refine ⟨g, cs, hA, hg, hB.lt, ExAt.moved (Spared.refl wr _) (fun i hi => .inl (.inr hi)) _ _ h1, fun w hb => ⟨fun i hi => ?_, fun u0 u1 u2 u3 hu => ?_⟩⟩
  · have hBw := hB.below hb hB.lt
    refine ⟨?_, hBw.free _⟩
    rw [← h2 i hi, hBw.cell (by omega), List.getElem?_eq_getElem (by omega)]
  · have hBw := hB.below hb hB.lt
    have hB4 := (((hBw.set (j * 4) u0).set (j * 4 + 1) u1).set (j * 4 + 2) u2).set (j * 4 + 3) u3
    have hsp : Spared w ((((w.setCell ⟨g, j * 4, none⟩ u0).setCell ⟨g, j * 4 + 1, none⟩ u1).setCell ⟨g, j * 4 + 2, none⟩ u2).setCell ⟨g, j * 4 + 3, none⟩ u3) (fun b => b = g) := by
      have hF : (fun b => b = g) g := rfl
      exact ((((Spared.refl w (fun b => b = g)).setCell hF _ u0).setCell hF _ u1).setCell hF _ u2).setCell hF _ u3
    refine .inr ⟨g, _, hA, hg, hB4, by simpa using hle, fun q hq' => ?_⟩
    have hMq : ∀ i, i < 4 → ((((M.set (j * 4) u0).set (j * 4 + 1) u1).set (j * 4 + 2) u2).set (j * 4 + 3) u3)[q * 4 + i]? = if q = j then [u0, u1, u2, u3][i]? else M[q * 4 + i]? := fun i hi => by
      simp only [List.getElem?_set, List.length_set]
      by_cases hqj : q = j
      · subst hqj
        rw [if_pos rfl]
        have : i = 0 ∨ i = 1 ∨ i = 2 ∨ i = 3 := by omega
        rcases this with rfl | rfl | rfl | rfl
        · rw [if_neg (by omega), if_neg (by omega), if_neg (by omega), if_pos (by omega), if_pos (by omega)]; rfl
        · rw [if_neg (by omega), if_neg (by omega), if_pos (by omega), if_pos (by omega)]; rfl
        · rw [if_neg (by omega), if_pos (by omega), if_pos (by omega)]; rfl
        · rw [if_pos (by omega), if_pos (by omega)]; rfl
      · rw [if_neg hqj, if_neg (by omega), if_neg (by omega), if_neg (by omega), if_neg (by omega)]
    by_cases hqj : q = j
    · subst hqj
      exact ⟨[u0, u1, u2, u3], ExAt.moved (F := fun b => b < base ∨ b = g) (hsp.mono (fun _ h => .inr h)) (fun i hi => .inl (hi.imp (fun h => h.2) id)) _ _ hu, fun i hi => by rw [hMq i hi, if_pos rfl]⟩
    · obtain ⟨cs2, h3, h4⟩ := hq q hq'
      refine ⟨cs2, ExAt.moved (F := fun b => (q < j ∧ b < base) ∨ b = g) (hsp.mono (fun _ h => .inr h)) (fun i hi => .inl (hi.imp (fun h => ⟨by omega, h.2⟩) id)) _ _ (h3.below hb), fun i hi => by rw [hMq i hi, if_neg hqj]; exact h4 i hi⟩
set_option maxRecDepth 100000 in
set_option maxHeartbeats 4000000 in
theorem copyX_any : ∀ (e : Ex) (W : World) (F : Nat → Prop) (cs : List Value), cpE e → ExAt W F e cs → Calls Try.prog 87 #[.agg cs.toArray] W (CopyX W e) := by
  intro e
  refine Ex.all (P := fun e => ∀ (W : World) (F : Nat → Prop) (cs : List Value), cpE e → ExAt W F e cs → Calls Try.prog 87 #[.agg cs.toArray] W (CopyX W e)) (fun k n o ks ih W F cs hcp hE => ?_) e
  unfold cpE at hcp
  obtain ⟨hn, ho, hkl, hcl⟩ := hcp
  obtain ⟨E, m0, rfl, ⟨hk, hsn, hso, _⟩, hr⟩ := hE.row
  show Calls _ _ #[.agg #[.int .i64 k, strV n, strV o, .slice E ks.length m0]] _ _
  obtain ⟨W1, hW⟩ : ∃ W1, W1 = (W.alloc (.cells #[.int .i64 k, strV n, strV o, .slice E ks.length m0] 56)).alloc (.cells #[.int .i64 0, .string ⟨#[]⟩, .string ⟨#[]⟩, .slice none 0 0] 56) := ⟨_, rfl⟩
  have HKA : Hid (Blk W1 W.heap.size [.int .i64 k, strV n, strV o, .slice E ks.length m0] 56) := by rw [hW]; exact Lib.hid ((Blk.new W _ _).alloc _)
  have HKE : Hid (Blk W1 (W.heap.size + 1) [.int .i64 0, .string ⟨#[]⟩, .string ⟨#[]⟩, .slice none 0 0] 56) := by
    rw [hW]
    have := Blk.new (W.alloc (.cells #[.int .i64 k, strV n, strV o, .slice E ks.length m0] 56)) [.int .i64 0, .string ⟨#[]⟩, .string ⟨#[]⟩, .slice none 0 0] 56
    rw [World.size_alloc] at this
    exact Lib.hid this
  have HB0 : Hid (Below W.heap.size W W1) := by rw [hW]; exact Lib.hid (((Below.refl _ _).alloc (Nat.le_refl _) _).alloc (by simp) _)
  have HW := Lib.hid hW
  have HX : Hid (∀ w, Below W1.heap.size W1 w → w.cell? ⟨W.heap.size, 0, none⟩ = some (.int .i64 k) ∧ w.cell? ⟨W.heap.size, 1, none⟩ = some (strV n) ∧ w.cell? ⟨W.heap.size, 2, none⟩ = some (strV o) ∧ w.cell? ⟨W.heap.size, 3, none⟩ = some (.slice E ks.length m0)) := Lib.hid (fun w hw => by
    have h1 := HKA.out.below hw HKA.out.lt
    exact ⟨h1.cell (i := 0) (by simp), h1.cell (i := 1) (by simp), h1.cell (i := 2) (by simp), h1.cell (i := 3) (by simp)⟩)
  have HCL := Lib.hid (cloneExpr_any (R := ExAt) ks E m0 W1 F (hr.moved (Spared.of_below HB0.out F) (fun _ h => .inl h) (fun _ _ _ h => ExAt.moved (Spared.of_below HB0.out F) (fun _ h => .inl h) _ _ h)) (fun x cs h => h.len) (fun x cs h => h.one) hkl)
  have HI := Lib.hid ih
  have HCP : Hid (∀ x ∈ ks, cpE x) := Lib.hid (cpL_mem hcl)
  have HCN := Lib.hid (fun w => rclone_any n w hn)
  have HCO := Lib.hid (fun w => rclone_any o w ho)
  have HFI : Hid (fitsI k ∧ small n ∧ small o ∧ ks.length ≤ 9223372036854775807) := Lib.hid ⟨hk, hsn, hso, by omega⟩
  obtain ⟨x0, x1, x2, x3⟩ := HX.out W1 (Below.refl _ _)
  rw [HW.out] at x0 x1 x2 x3
  clear hW hE hr ih hcl hn ho hk hsn hso
  go_enter Try.func87, Try.ntmps87
  go_wp2_with (go_at_call 93; rw [← HW.out]; (refine HCL.out.mono ?_); rintro r w2 ⟨A', c', rfl, hb2, hcp⟩; have HB2 := Lib.hid hb2; have HCS : Hid (CpSt W1.heap.size ks A' 0 w2) := Lib.hid (CpSt.start hcp hb2 (Nat.le_refl _)); clear x0 x1 x2 x3 hb2 hcp)
  have HKL : Hid (W.heap.size + 1 < W1.heap.size) := Lib.hid HKE.out.lt
  go_loopw [11] (fun i wr => ∃ j : Nat, j ≤ ks.length ∧ i = .int .i64 j ∧ Hid (CpSt W1.heap.size ks A' j wr) ∧ Hid (Below W1.heap.size W1 wr)) (fun i _ => ks.length - (intOf i).toNat)
  case atStart => exact ⟨0, by omega, rfl, HCS, HB2⟩
  case round =>
    obtain ⟨j, hj, rfl, HST, BW⟩ := hrel
    by_cases hlt : j < ks.length
    · have hlt2 : ((j : Int) < (ks.length : Int)) := by omega
      obtain ⟨g, cs, hA, hg, hgl, hkid, hat⟩ := HST.out.at_ hlt
      have hmem := List.getElem_mem hlt
      have hkb := hkid
      generalize hkj : ks[j] = kid at *
      obtain ⟨kk, kn, kov, kks⟩ := kid
      obtain ⟨A3, m3, rfl, hfi3, _⟩ := hkb.row
      obtain ⟨hat1, _⟩ := hat wr (Below.refl _ _)
      have y0 := (hat1 0 (by decide)).1
      have y1 := (hat1 1 (by decide)).1
      have y2 := (hat1 2 (by decide)).1
      have y3 := (hat1 3 (by decide)).1
      simp only [Nat.add_zero, List.getElem?_cons_zero, List.getElem?_cons_succ] at y0 y1 y2 y3
      obtain ⟨w4, hw4⟩ : ∃ w4, w4 = wr.alloc (.cells #[.int .i64 kk, strV kn, strV kov, .slice A3 kks.length m3] 56) := ⟨_, rfl⟩
      have hb4 : Below wr.heap.size wr w4 := by rw [hw4]; exact (Below.refl _ _).alloc (Nat.le_refl _) _
      have hk4 : Blk w4 wr.heap.size [.int .i64 kk, strV kn, strV kov, .slice A3 kks.length m3] 56 := by rw [hw4]; exact Blk.new _ _ _
      have z0 := hk4.cell (i := 0) (by simp)
      have z1 := hk4.cell (i := 1) (by simp)
      have z2 := hk4.cell (i := 2) (by simp)
      have z3 := hk4.cell (i := 3) (by simp)
      simp only [List.getElem_cons_zero, List.getElem_cons_succ] at z0 z1 z2 z3
      have HQ : Hid (Calls Try.prog 87 #[.agg #[.int .i64 kk, strV kn, strV kov, .slice A3 kks.length m3]] w4 (CopyX w4 (.mk kk kn kov kks))) := Lib.hid (by
        rw [hw4]
        exact HI.out _ hmem (wr.alloc (.cells #[.int .i64 kk, strV kn, strV kov, .slice A3 kks.length m3] 56)) (fun b => b = g) _ (HCP.out _ hmem) (hkid.below ((Below.refl _ _).alloc (Nat.le_refl _) _)))
      have HAT := Lib.hid hat
      have HB4 := Lib.hid hb4
      have HW4 := Lib.hid hw4
      have HGL := Lib.hid (And.intro hg hgl)
      rw [hw4] at z0 z1 z2 z3
      clear hat hat1 hkid hkb hb4 hk4 hw4 hg hgl hkj hmem
      subst hA
      go_wp2_with (go_at_call 87; rw [← HW4.out]; (refine HQ.out.mono ?_); rintro r w5 ⟨cs', rfl, hx5, hb5⟩; have hx6 := hx5; obtain ⟨A5, m5, rfl, _, _⟩ := hx6.row; clear hx6; have HB5 := Lib.hid (hop HB4.out hb5); have HX5 : Hid (ExAt w5 (fun b => b < W1.heap.size ∨ b = g) _ _) := Lib.hid (ExAt.moved (Spared.refl w5 _) (fun i hi => .inl (by have h1 := HB4.out.size; have h2 := HGL.out.2; have h3 := HKL.out; have h4 := BW.out.size; show i < w4.heap.size; rcases hi with hi | hi <;> omega)) _ _ hx5); obtain ⟨hc5, hs5⟩ := HAT.out w5 HB5.out; have HS5 := Lib.hid (hs5 _ _ _ _ HX5.out); obtain ⟨v0, f0⟩ := hc5 0 (by decide); obtain ⟨v1, f1⟩ := hc5 1 (by decide); obtain ⟨v2, f2⟩ := hc5 2 (by decide); obtain ⟨v3, f3⟩ := hc5 3 (by decide); simp only [Nat.add_zero, List.getElem?_cons_zero, List.getElem?_cons_succ] at v0 v1 v2 v3 f0 f1 f2 f3; clear hx5 hb5 hc5 hs5 y0 y1 y2 y3 z0 z1 z2 z3)
      go_roundw
      case rel => exact ⟨j + 1, by omega, by go_num, HS5, Lib.hid (((((hop BW.out HB5.out).setCell (p := ⟨g, j * 4, none⟩) HGL.out.1 _).setCell (p := ⟨g, j * 4 + 1, none⟩) HGL.out.1 _).setCell (p := ⟨g, j * 4 + 2, none⟩) HGL.out.1 _).setCell (p := ⟨g, j * 4 + 3, none⟩) HGL.out.1 _)⟩
      case measure => simp [intOf]; omega
    · have hlt2 : ¬ ((j : Int) < (ks.length : Int)) := by omega
      have hje : j = ks.length := by omega
      have HRW : Hid (RowAt 4 ExAt wr (fun b => b < W1.heap.size) A' ks) := Lib.hid (CpSt.row (by rw [← hje]; exact HST.out))
      have hN : ∀ w, Below wr.heap.size wr w → (w.cell? ⟨W.heap.size, 0, none⟩ = some (.int .i64 k) ∧ w.cell? ⟨W.heap.size, 1, none⟩ = some (strV n) ∧ w.cell? ⟨W.heap.size, 2, none⟩ = some (strV o)) := fun w hw => by
        have h := HX.out w (hop BW.out hw)
        exact ⟨h.1, h.2.1, h.2.2.1⟩
      have hS0 : (wr.drew.cell? ⟨W.heap.size, 0, none⟩ = some (.int .i64 k) ∧ wr.drew.cell? ⟨W.heap.size, 1, none⟩ = some (strV n) ∧ wr.drew.cell? ⟨W.heap.size, 2, none⟩ = some (strV o)) := hN wr.drew (Below.refl _ _).drew
      have HST2 : Hid (∀ w : World, (w.cell? ⟨W.heap.size, 0, none⟩ = some (.int .i64 k) ∧ w.cell? ⟨W.heap.size, 1, none⟩ = some (strV n) ∧ w.cell? ⟨W.heap.size, 2, none⟩ = some (strV o)) → (((((w.setCell ⟨W.heap.size + 1, 0, none⟩ (.int .i64 k)).setCell ⟨W.heap.size + 1, 1, none⟩ (strV n)).setCell ⟨W.heap.size + 1, 2, none⟩ (strV o)).setCell ⟨W.heap.size + 1, 3, none⟩ (.slice A' ks.length c')).cell? ⟨W.heap.size, 0, none⟩ = some (.int .i64 k) ∧ ((((w.setCell ⟨W.heap.size + 1, 0, none⟩ (.int .i64 k)).setCell ⟨W.heap.size + 1, 1, none⟩ (strV n)).setCell ⟨W.heap.size + 1, 2, none⟩ (strV o)).setCell ⟨W.heap.size + 1, 3, none⟩ (.slice A' ks.length c')).cell? ⟨W.heap.size, 1, none⟩ = some (strV n) ∧ ((((w.setCell ⟨W.heap.size + 1, 0, none⟩ (.int .i64 k)).setCell ⟨W.heap.size + 1, 1, none⟩ (strV n)).setCell ⟨W.heap.size + 1, 2, none⟩ (strV o)).setCell ⟨W.heap.size + 1, 3, none⟩ (.slice A' ks.length c')).cell? ⟨W.heap.size, 2, none⟩ = some (strV o))) := Lib.hid (fun w hw => by
        have hh : ∀ k', k' ≠ W.heap.size + 1 → (((((w.setCell ⟨W.heap.size + 1, 0, none⟩ (.int .i64 k)).setCell ⟨W.heap.size + 1, 1, none⟩ (strV n)).setCell ⟨W.heap.size + 1, 2, none⟩ (strV o)).setCell ⟨W.heap.size + 1, 3, none⟩ (.slice A' ks.length c'))).heap[k']? = w.heap[k']? := fun k' hk => by
          rw [Below.heap_setCell _ _ _ _ hk, Below.heap_setCell _ _ _ _ hk, Below.heap_setCell _ _ _ _ hk, Below.heap_setCell _ _ _ _ hk]
        have hne : W.heap.size ≠ W.heap.size + 1 := Nat.ne_of_lt (Nat.lt_succ_self _)
        exact ⟨(World.cell?_of_block (hh _ hne)).trans hw.1, (World.cell?_of_block (hh _ hne)).trans hw.2.1, (World.cell?_of_block (hh _ hne)).trans hw.2.2⟩)
      have HN := Lib.hid hN
      have HBD := Lib.hid (Below.refl wr.heap.size wr).drew
      have HKZ : Hid (∀ w, Below wr.heap.size wr w → Blk w (W.heap.size + 1) [.int .i64 0, .string ⟨#[]⟩, .string ⟨#[]⟩, .slice none 0 0] 56) := Lib.hid (fun w hw => HKE.out.below (hop BW.out hw) HKE.out.lt)
      clear hN hje hj HST HCS HB2
      go_wp2_with fail
      go_region_held_law (fun w => (w.cell? ⟨W.heap.size, 0, none⟩ = some (.int .i64 k) ∧ w.cell? ⟨W.heap.size, 1, none⟩ = some (strV n) ∧ w.cell? ⟨W.heap.size, 2, none⟩ = some (strV o)))
        (first | with_reducible assumption | (apply HST2.out; assumption))
        (first
          | (go_at_call 86; (with_reducible refine (HCN.out _).mono ?_); rintro r w7 ⟨rfl, hb7⟩; have HB7 := Lib.hid (undrew hb7); have hS7 := HN.out w7 HB7.out; clear hb7)
          | (go_at_call 86; (with_reducible refine (HCO.out _).mono ?_); rintro r w8 ⟨rfl, hb8⟩; have HB8 := Lib.hid (hop HB7.out hb8); have hS8 := HN.out w8 HB8.out; have HK8 := Lib.hid (HKZ.out w8 HB8.out); have v0 := HK8.out.cell (i := 0) (by simp); have v1 := HK8.out.cell (i := 1) (by simp); have v2 := HK8.out.cell (i := 2) (by simp); have v3 := HK8.out.cell (i := 3) (by simp); have f0 := HK8.out.free 0; have f1 := HK8.out.free 1; have f2 := HK8.out.free 2; have f3 := HK8.out.free 3; simp only [List.getElem_cons_zero, List.getElem_cons_succ] at v0 v1 v2 v3; clear hb8))
      go_wp2_with fail
      refine bodyPost_ret (v := .agg #[.int .i64 k, strV n, strV o, .slice A' ks.length c']) (by simp [results, Try.results87, go_sem, v0, v1, v2, v3]) rfl ?_
      have hb8 := hop BW.out HB8.out
      have hsp : Spared wr (((((w8.setCell ⟨W.heap.size + 1, 0, none⟩ (.int .i64 k)).setCell ⟨W.heap.size + 1, 1, none⟩ (strV n)).setCell ⟨W.heap.size + 1, 2, none⟩ (strV o)).setCell ⟨W.heap.size + 1, 3, none⟩ (.slice A' ks.length c'))) (fun b => b < W1.heap.size) := by
        have hF : (fun b => b < W1.heap.size) (W.heap.size + 1) := HKL.out
        exact (((((Spared.of_below HB8.out (fun b => b < W1.heap.size)).setCell hF _ _).setCell hF _ _).setCell hF _ _).setCell hF _ _)
      have hG : ∀ i, i < W.heap.size → i < W1.heap.size ∨ wr.heap.size ≤ i := fun i hi => .inl (by have := HB0.out.size; omega)
      refine ⟨_, rfl, ExAt.of_row HFI.out (HRW.out.moved hsp hG (fun _ _ _ h => ExAt.moved hsp hG _ _ h)), ?_⟩
      exact ((((HB0.out.trans (hb8.mono HB0.out.size)).setCell (p := ⟨W.heap.size + 1, 0, none⟩) (Nat.le_succ _) _).setCell (p := ⟨W.heap.size + 1, 1, none⟩) (Nat.le_succ _) _).setCell (p := ⟨W.heap.size + 1, 2, none⟩) (Nat.le_succ _) _).setCell (p := ⟨W.heap.size + 1, 3, none⟩) (Nat.le_succ _) _
end Go.Proofs.Ytehabjiacgibpaa
namespace Go.Proofs.Ytehabjiacgibpaa
open Go.RowKit
end Go.Proofs.Ytehabjiacgibpaa
namespace Go.Proofs.Ytehabjiacgibpaa
open Go.RowKit
theorem RowAt.pair {W : World} {F : Nat → Prop} {A : Option Addr} {ks : List Rf} (h : RowAt 2 RfAt W F A ks) {j : Nat} (hj : j < ks.length) :
    ∃ b off, A = some ⟨b, off, none⟩ ∧ ∀ W', Below W.heap.size W W' → W'.cell? ⟨b, off + j * 2, none⟩ = some (strV ks[j].1) ∧ W'.cell? ⟨b, off + j * 2 + 1, none⟩ = some (strV ks[j].2) := by
  rcases h with rfl | ⟨b, off, rfl, hb, _, hk⟩
  · simp at hj
  · obtain ⟨cs, ⟨rfl, _, _⟩, h2⟩ := hk j hj
    refine ⟨b, off, rfl, fun W' hW => ?_⟩
    have hc : ∀ i, i < 2 → W'.cell? ⟨b, off + j * 2 + i, none⟩ = [strV ks[j].1, strV ks[j].2][i]? := fun i hi => (hW.cell (p := ⟨b, off + j * 2 + i, none⟩) hb).trans (h2 i hi)
    exact ⟨hc 0 (by decide), hc 1 (by decide)⟩
theorem RlAt.six {W : World} {F : Nat → Prop} {x : Rl} {cs : List Value} (h : RlAt W F x cs) : ∃ A c k n o A' m c', cs = [strV x.name, .slice A x.refs.length c, .int .i64 k, strV n, strV o, .slice A' m c'] ∧ (small x.name ∧ x.refs.length ≤ 9223372036854775807) ∧ RowAt 2 RfAt W F A x.refs ∧
    ExAt W F x.expr [.int .i64 k, strV n, strV o, .slice A' m c'] := by
  obtain ⟨A, c, es, rfl, h2, h3, h4⟩ := h
  rcases he : x.expr with ⟨k, n, o, ks⟩
  rw [he] at h4
  obtain ⟨A', c', rfl, _, _⟩ := h4.row
  exact ⟨A, c, k, n, o, A', ks.length, c', rfl, h2, h3, h4⟩
def RlSix (W : World) (b o : Nat) (n : Txt) (A : Option Addr) (m c : Nat) (k : Int) (p q : Txt) (E : Option Addr) (m' c' : Nat) : Prop :=
  W.cell? ⟨b, o, none⟩ = some (strV n) ∧ W.cell? ⟨b, o + 1, none⟩ = some (.slice A m c) ∧ W.cell? ⟨b, o + 2, none⟩ = some (.int .i64 k) ∧ W.cell? ⟨b, o + 3, none⟩ = some (strV p) ∧ W.cell? ⟨b, o + 4, none⟩ = some (strV q) ∧ W.cell? ⟨b, o + 5, none⟩ = some (.slice E m' c')
theorem RowAt.rel {W : World} {F : Nat → Prop} {A : Option Addr} {ks : List Rl} (h : RowAt 6 RlAt W F A ks) {j : Nat} (hj : j < ks.length) :
    ∃ b off n A' m c k p q E m' c', A = some ⟨b, off, none⟩ ∧ RlAt W F ks[j] [strV n, .slice A' m c, .int .i64 k, strV p, strV q, .slice E m' c'] ∧ ∀ W', Below W.heap.size W W' → RlSix W' b (off + j * 6) n A' m c k p q E m' c' := by
  rcases h with rfl | ⟨b, off, rfl, hb, _, hk⟩
  · simp at hj
  · obtain ⟨cs, h1, h2⟩ := hk j hj
    obtain ⟨A', c, k, n, o, E, m, d, rfl, _, _, _⟩ := h1.six
    refine ⟨b, off, _, A', _, c, k, n, o, E, m, d, rfl, h1, fun W' hW => ?_⟩
    have hc : ∀ i, i < 6 → W'.cell? ⟨b, off + j * 6 + i, none⟩ = [strV ks[j].name, .slice A' ks[j].refs.length c, .int .i64 k, strV n, strV o, .slice E m d][i]? := fun i hi => (hW.cell (p := ⟨b, off + j * 6 + i, none⟩) hb).trans (h2 i hi)
    exact ⟨hc 0 (by decide), hc 1 (by decide), hc 2 (by decide), hc 3 (by decide), hc 4 (by decide), hc 5 (by decide)⟩
theorem RowAt.tyc {W : World} {F : Nat → Prop} {A : Option Addr} {ks : List Ty} (h : RowAt 2 TyAt W F A ks) {j : Nat} (hj : j < ks.length) :
    ∃ b off A' c, A = some ⟨b, off, none⟩ ∧ ((small ks[j].name ∧ ks[j].rels.length ≤ c) ∧ ks[j].rels.length ≤ 9223372036854775807) ∧ RowAt 6 RlAt W F A' ks[j].rels ∧ ∀ W', Below W.heap.size W W' → W'.cell? ⟨b, off + j * 2, none⟩ = some (strV ks[j].name) ∧ W'.cell? ⟨b, off + j * 2 + 1, none⟩ = some (.slice A' ks[j].rels.length c) := by
  rcases h with rfl | ⟨b, off, rfl, hb, _, hk⟩
  · simp at hj
  · obtain ⟨cs, ⟨A', c, rfl, hs, hr⟩, h2⟩ := hk j hj
    refine ⟨b, off, A', c, rfl, hs, hr, fun W' hW => ?_⟩
    have hc : ∀ i, i < 2 → W'.cell? ⟨b, off + j * 2 + i, none⟩ = [strV ks[j].name, .slice A' ks[j].rels.length c][i]? := fun i hi => (hW.cell (p := ⟨b, off + j * 2 + i, none⟩) hb).trans (h2 i hi)
    exact ⟨hc 0 (by decide), hc 1 (by decide)⟩
theorem RowAt.ty {W : World} {F : Nat → Prop} {A : Option Addr} {ks : List Ty} (h : RowAt 2 TyAt W F A ks) {j : Nat} (hj : j < ks.length) :
    ∃ b off A' c, A = some ⟨b, off, none⟩ ∧ (small ks[j].name ∧ ks[j].rels.length ≤ 9223372036854775807) ∧ RowAt 6 RlAt W F A' ks[j].rels ∧ ∀ W', Below W.heap.size W W' → W'.cell? ⟨b, off + j * 2, none⟩ = some (strV ks[j].name) ∧ W'.cell? ⟨b, off + j * 2 + 1, none⟩ = some (.slice A' ks[j].rels.length c) := by
  obtain ⟨b, off, A', c, h1, h2, h3⟩ := h.tyc hj
  exact ⟨b, off, A', c, h1, ⟨h2.1.1, h2.2⟩, h3⟩
end Go.Proofs.Ytehabjiacgibpaa
