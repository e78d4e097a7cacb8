/-
  Levels as they lie: a row of rows of ints, each row a block of its own; rows of what leans on what. No program is named.
  What an expression leans on (conciergeref12's leans). Conditions: the schema and the expression are there; nothing is wrong with it.
  How many relations there are (conciergeref12's many). Condition: the schema is there.
  What leans on what, by names and by numbers; levels either way. No condition.
  The program's heights are the document's levels. No condition.
  What examine answers is what the document says. No condition.
-/
import Derived.Test.YtdnhbledndgbcaaGreatCRuV
import Derived.Test.YtdnhbledndgbcaaGreatCLaF
import Derived.Test.YtdnhbledndgbcaaGreatCRuN
import Derived.Test.YtdnhbledndgbcaaGreatCRowT
import Derived.Test.YtdnhbledndgbcaaGreatCRlTy
import Derived.Test.YtdnhbledndgbcaaGreatCRuT
namespace Go.Proofs.YtdnhbledndgbcaaGreat
open Go.RowKit
abbrev iv (v : Nat) : Value := .int .i64 (v : Int)
def LnAt (_ : World) (_ : Nat → Prop) (c : Ln) (cs : List Value) : Prop := cs = [iv c.1.1, iv c.1.2, .bool c.2] ∧ c.1.1 ≤ 1000000 ∧ c.1.2 ≤ 1000000
def RwAt (W : World) (F : Nat → Prop) (r : Rw) (cs : List Value) : Prop := ∃ A c, cs = [iv r.1.1, iv r.1.2, .slice A r.2.length c] ∧ (r.1.1 ≤ 1000000 ∧ r.1.2 ≤ 1000000 ∧ r.2.length ≤ 1000000) ∧ RowAt 3 LnAt W F A r.2
theorem RwAt.moved {W W' : World} {F G : Nat → Prop} (hs : Spared W W' F) (hG : ∀ i, G i → F i ∨ W.heap.size ≤ i) {x : Rw} {cs : List Value} (h : RwAt W F x cs) : RwAt W' G x cs := by
  obtain ⟨A, c, rfl, hb, hr⟩ := h
  exact ⟨A, c, rfl, hb, RowAt.moved hs hG (fun _ _ _ h => h) hr⟩
theorem RowAt.ln {W : World} {F : Nat → Prop} {A : Option Addr} {ls : List Ln} (h : RowAt 3 LnAt W F A ls) {j : Nat} (hj : j < ls.length) :
    ∃ b off, A = some ⟨b, off, none⟩ ∧ (ls[j].1.1 ≤ 1000000 ∧ ls[j].1.2 ≤ 1000000) ∧ ∀ W', Spared W W' F → W'.cell? ⟨b, off + j * 3, none⟩ = some (iv ls[j].1.1) ∧ W'.cell? ⟨b, off + j * 3 + 1, none⟩ = some (iv ls[j].1.2) ∧ W'.cell? ⟨b, off + j * 3 + 2, none⟩ = some (.bool ls[j].2) := by
  rcases h with rfl | ⟨b, off, rfl, hb, hF, hk⟩
  · simp at hj
  · obtain ⟨cs, ⟨rfl, h1, h2⟩, h3⟩ := hk j hj
    refine ⟨b, off, rfl, ⟨h1, h2⟩, fun W' hW => ?_⟩
    have hc : ∀ i, i < 3 → W'.cell? ⟨b, off + j * 3 + i, none⟩ = [iv ls[j].1.1, iv ls[j].1.2, Value.bool ls[j].2][i]? := fun i hi => (hW.cellOf hb hF _).trans (h3 i hi)
    exact ⟨hc 0 (by decide), hc 1 (by decide), hc 2 (by decide)⟩
theorem RowAt.rw3 {W : World} {F : Nat → Prop} {A : Option Addr} {w : List Rw} (h : RowAt 3 RwAt W F A w) {j : Nat} (hj : j < w.length) :
    ∃ b off B c, A = some ⟨b, off, none⟩ ∧ (w[j].1.1 ≤ 1000000 ∧ w[j].1.2 ≤ 1000000 ∧ w[j].2.length ≤ 1000000) ∧ RowAt 3 LnAt W F B w[j].2 ∧
      ∀ W', Spared W W' F → W'.cell? ⟨b, off + j * 3, none⟩ = some (iv w[j].1.1) ∧ W'.cell? ⟨b, off + j * 3 + 1, none⟩ = some (iv w[j].1.2) ∧ W'.cell? ⟨b, off + j * 3 + 2, none⟩ = some (.slice B w[j].2.length c) := by
  rcases h with rfl | ⟨b, off, rfl, hb, hF, hk⟩
  · simp at hj
  · obtain ⟨cs, ⟨B, c, rfl, h1, h2⟩, h3⟩ := hk j hj
    refine ⟨b, off, B, c, rfl, h1, h2, fun W' hW => ?_⟩
    have hc : ∀ i, i < 3 → W'.cell? ⟨b, off + j * 3 + i, none⟩ = [iv w[j].1.1, iv w[j].1.2, Value.slice B w[j].2.length c][i]? := fun i hi => (hW.cellOf hb hF _).trans (h3 i hi)
    exact ⟨hc 0 (by decide), hc 1 (by decide), hc 2 (by decide)⟩
def LvAt (W : World) (A : Option Addr) (gs : List Nat) (l : Lv2) : Prop :=
  (gs.length = l.length ∧ gs.Nodup) ∧ (l = [] ∨ ∃ b off, A = some ⟨b, off, none⟩ ∧ b < W.heap.size ∧ b ∉ gs ∧ ∀ i (h : i < l.length) (hg : i < gs.length), ∃ c, W.cell? ⟨b, off + i, none⟩ = some (.slice (some ⟨gs[i], 0, none⟩) l[i].length c)) ∧
    ∀ i (h : i < l.length) (hg : i < gs.length), Blk W gs[i] (l[i].map iv) 3
theorem lvG_at {l : Lv2} {x : Nd} (h : lvH l x) : ∃ (h1 : x.1 < l.length) (h2 : x.2 < l[x.1].length), lvG l x = l[x.1][x.2] := by
  obtain ⟨h1, h2⟩ := h
  have e : l.getD x.1 [] = l[x.1] := by simp [List.getD_eq_getElem?_getD, h1]
  rw [e] at h2
  refine ⟨h1, h2, ?_⟩
  unfold lvG
  rw [e]
  simp [List.getD_eq_getElem?_getD, h2]
theorem LvAt.at_ {W : World} {A : Option Addr} {gs : List Nat} {l : Lv2} (h : LvAt W A gs l) {x : Nd} (hx : lvH l x) :
    ∃ b off g n c, A = some ⟨b, off, none⟩ ∧ g ∈ gs ∧ x.2 < n ∧ W.cell? ⟨b, off + x.1, none⟩ = some (.slice (some ⟨g, 0, none⟩) n c) ∧ W.cell? ⟨g, x.2, none⟩ = some (iv (lvG l x)) ∧ W.frozen? ⟨g, x.2, none⟩ = false ∧
      ∀ v, LvAt (W.setCell ⟨g, x.2, none⟩ (iv v)) A gs (lvS l x v) := by
  obtain ⟨⟨hl, hnd⟩, ho, hb⟩ := h
  obtain ⟨h1, h2, h3⟩ := lvG_at hx
  have hg : x.1 < gs.length := by rw [hl]; exact h1
  rcases ho with rfl | ⟨b, off, hA, hbs, hbg, hc⟩
  · simp at h1
  obtain ⟨c, hc1⟩ := hc x.1 h1 hg
  have hB := hb x.1 h1 hg
  refine ⟨b, off, gs[x.1], l[x.1].length, c, hA, List.getElem_mem hg, h2, hc1, ?_, hB.free _, fun v => ?_⟩
  · rw [hB.cell (i := x.2) (by simpa using h2), h3, List.getElem_map]
  · have hls : (lvS l x v).length = l.length := by simp [lvS]
    have hrow : ∀ i (h : i < l.length) (h' : i < (lvS l x v).length), (lvS l x v)[i] = if i = x.1 then l[i].set x.2 v else l[i] := fun i h h' => by
      have e0 : (lvS l x v)[i] = (l.set x.1 ((l.getD x.1 []).set x.2 v))[i]'(by simpa using h) := rfl
      rw [e0, List.getElem_set]
      by_cases e : x.1 = i
      · subst e
        rw [if_pos rfl, if_pos rfl]
        simp [List.getD_eq_getElem?_getD, h1]
      · rw [if_neg e, if_neg (Ne.symm e)]
    refine ⟨⟨by rw [hls]; exact hl, hnd⟩, .inr ⟨b, off, hA, by simpa [World.setCell] using hbs, hbg, fun i hi hg' => ?_⟩, fun i hi hg' => ?_⟩
    · have hi' : i < l.length := by rw [← hls]; exact hi
      obtain ⟨c', hc'⟩ := hc i hi' hg'
      refine ⟨c', ?_⟩
      rw [World.cell?_setCell_other _ _ _ _ (by intro e; exact hbg (by have e2 : b = gs[x.1] := (congrArg Addr.block e).symm; rw [e2]; exact List.getElem_mem hg)), hc', hrow i hi' hi]
      split
      · rw [List.length_set]
      · rfl
    · have hi' : i < l.length := by rw [← hls]; exact hi
      rw [hrow i hi' hi]
      by_cases e : i = x.1
      · subst e
        rw [if_pos rfl]
        have := hB.set x.2 (iv v)
        rw [← List.map_set] at this
        exact this
      · rw [if_neg e]
        refine (hb i hi' hg').other _ _ (fun e2 => ?_)
        have e3 : gs[i] = gs[x.1] := e2
        rcases Nat.lt_trichotomy i x.1 with h4 | h4 | h4
        · exact (List.pairwise_iff_getElem.1 hnd) i x.1 hg' hg h4 e3
        · exact e h4
        · exact (List.pairwise_iff_getElem.1 hnd) x.1 i hg hg' h4 e3.symm
end Go.Proofs.YtdnhbledndgbcaaGreat
namespace Go.Proofs.YtdnhbledndgbcaaGreat
open Go.RowKit
def lnC (c : Ln) : List Value := [iv c.1.1, iv c.1.2, .bool c.2]
theorem ln_one (c : Ln) : ∀ u ∈ lnC c, u.oneCell' = true := by
  intro u hu
  simp only [lnC, List.mem_cons, List.not_mem_nil, or_false] at hu
  rcases hu with rfl | rfl | rfl <;> rfl
theorem rowLn : ∃ i z, RowT Tryz.prog 104 109 3 24 i z := by
  have hf : (Tryz.prog.info? 109).map (fun i => (i.zero, i.size, i.bytes)) = some (some (.agg #[.int .i64 0, .int .i64 0, .bool false]), 3, 24) := by kernel_rfl
  obtain ⟨i, hi, hz, hs, hb⟩ := info_parts hf
  exact ⟨i, _, Tryz.underlying104, hi, hz, hs, hb, rfl⟩
def leafLn (s : Sc) (t : Nat) (k : Int) (n o : Txt) (out : Bool) : List Ln :=
  ((t, (relN s t n).toNat), out) :: (if k = 1 then (relAt s t (relN s t n)).refs.filterMap (fun r => if r.2 = [] ∧ 0 ≤ relN s (typN s r.1) o then some (((typN s r.1).toNat, (relN s (typN s r.1) o).toNat), out) else none) else [])
mutual
def leansE (s : Sc) (t : Nat) : Ex → Bool → List Ln
  | .mk k n o ks, out => if 0 < ks.length then leansL s t k ks 0 out else leafLn s t k n o out
def leansL (s : Sc) (t : Nat) (k : Int) : List Ex → Nat → Bool → List Ln
  | [], _, _ => []
  | x :: r, i, out => leansE s t x (out || (decide (k = 4) && decide (i = 1))) ++ leansL s t k r (i + 1) out
end
theorem leansL_drop {s : Sc} {t : Nat} {k : Int} {ks : List Ex} {out : Bool} {j : Nat} (h : j < ks.length) : leansL s t k (ks.drop j) j out = leansE s t ks[j] (out || (decide (k = 4) && decide (j = 1))) ++ leansL s t k (ks.drop (j + 1)) (j + 1) out := by
  rw [List.drop_eq_getElem_cons h, leansL]
def LnRow (W : World) (ls : List Ln) (e : Ending) (w' : World) : Prop := ∃ A c, e = .returned (.slice A ls.length c) ∧ w'.ownsRow W.heap.size 109 3 (.slice A ls.length c) ls.length (ls.flatMap lnC) ∧ Below W.heap.size W w'
theorem step_append_rows {P : Program} (w : World) {ops : Array Oper} {o : Oper} {a : Act} {K : Act → World → Prop} {Q : Exit → Act → World → Prop} {E : Prop} (hgd : o.guard = none) (s x : Operand) (t : TypeId)
    (ho : o.op = .call { callee := .builtin .append, args := #[s, x], argTypes := #[t, t] })
    {e : TypeId} {k b : Nat} {i : TypeInfo} {z : Value} (R : RowT P t e k b i z) (hk : 0 < k) (hb64 : b ≤ 128)
    (base : Nat) (A : Option Addr) (n c : Nat) (xs : List Value) (ad : Addr) (m c2 : Nat) (L : List Value) (hL : L.length = m * k) (hs : a.eval s = .slice A n c) (hx : a.eval x = .slice (some ad) m c2)
    (hnews : ∀ (j : Nat) u, L[j]? = some u → w.cell? (ad.add j) = some u) (hbase : base ≤ w.heap.size) (h : w.ownsRow base e k (.slice A n c) n xs) (hone : ∀ u ∈ L, u.oneCell' = true) (hn : n + m ≤ 1000000)
    (K0 : ∀ A' c' w', w'.ownsRow base e k (.slice A' (n + m) c') (n + m) (xs ++ L) → Below base w w' → K (a.put o.dst (.slice A' (n + m) c')) w') :
    if Region.wanted o (yielded ops a.tmps) = true then Oper.wp P o a w K Q else E := by
  have hw : Region.wanted o (yielded ops a.tmps) = true := by simp [Region.wanted, hgd]
  rw [if_pos hw]
  obtain ⟨v', w', hr, h2, h3, _, h5⟩ := run_append_own_at (P := P) w base t o.type e i z k b R.ht R.hi R.hz R.hs R.hb R.zs hk _ n xs h ad m c2 L hL hnews hone (by unfold maxLen; omega) (Nat.le_trans (Nat.mul_le_mul_left _ hb64) (by omega)) hbase
  obtain ⟨A', c', rfl⟩ := ownrow_shape h2
  unfold Oper.wp execOp
  simp only [ho, resolve, invoke, builtin, Sem.run_bind, Sem.run_pure, Result.andThen_ok, List.map_toArray, List.map_cons, List.map_nil, hs, hx, hr]
  exact K0 A' c' w' h2 (below_grown (Below.refl base w) hbase h h3)
theorem leans_ne (s : Sc) (t : Nat) : ∀ (e : Ex) (out : Bool), leansE s t e out ≠ [] := by
  intro e
  refine Ex.all (P := fun e => ∀ out : Bool, leansE s t e out ≠ []) (fun k n o ks ih out => ?_) e
  unfold leansE
  split
  · cases ks with
    | nil => simp at *
    | cons x r =>
      unfold leansL
      have := ih x (List.mem_cons_self ..) (out || (decide (k = 4) && decide (0 = 1)))
      intro h
      exact this (List.append_eq_nil_iff.1 h).1
  · unfold leafLn
    simp
theorem lnC_len (ls : List Ln) : (ls.flatMap lnC).length = ls.length * 3 := by
  induction ls with
  | nil => rfl
  | cons c r ih => rw [List.flatMap_cons, List.length_append, ih, List.length_cons, Nat.succ_mul]; show 3 + _ = _; omega
theorem lnC_one (ls : List Ln) : ∀ u ∈ ls.flatMap lnC, u.oneCell' = true := by
  intro u hu
  obtain ⟨c, _, h⟩ := List.mem_flatMap.1 hu
  exact ln_one c u h
theorem LnRow.cells {w : World} {base : Nat} {A : Option Addr} {c : Nat} {ls : List Ln} (h : w.ownsRow base 109 3 (.slice A ls.length c) ls.length (ls.flatMap lnC)) (h0 : ls ≠ []) :
    ∃ g, A = some ⟨g, 0, none⟩ ∧ ∀ (j : Nat) u, (ls.flatMap lnC)[j]? = some u → w.cell? ((⟨g, 0, none⟩ : Addr).add j) = some u := by
  rcases h.2 with ⟨_, h1⟩ | ⟨g, cap, cur, hv, hb, hh, hnc, hx, hsz, htake⟩
  · exact absurd (List.length_eq_zero_iff.1 h1) h0
  · injection hv with hA _ hcc
    subst hA hcc
    exact ⟨g, rfl, World.ownsRow.cells h rfl⟩
end Go.Proofs.YtdnhbledndgbcaaGreat
namespace Go.Proofs.YtdnhbledndgbcaaGreat
open Go.RowKit
def manyN (s : Sc) : Nat := s.foldr (fun t n => t.rels.length + n) 0
set_option maxRecDepth 100000 in
set_option maxHeartbeats 1000000 in
theorem rmany_any (s : Sc) (W : World) (F : Nat → Prop) (A : Option Addr) (c : Nat) (hs : ScAt W F A s) (hm : manyN s ≤ 1000000) (hl : s.length ≤ 1000000) :
    Calls Tryz.prog 18 #[.agg #[.slice A s.length c]] W fun r w' => r = .returned (.int .i64 (manyN s : Int)) ∧ Below W.heap.size W w' := by
  obtain ⟨v, hv⟩ : ∃ v, v = manyN s := ⟨_, rfl⟩
  rw [← hv] at hm ⊢
  obtain ⟨W1, hW⟩ : ∃ W1, W1 = W.alloc (.cells #[.slice A s.length c] 24) := ⟨_, rfl⟩
  have HK0 : Hid (Blk W1 W.heap.size [.slice A s.length c] 24) := by rw [hW]; exact Lib.hid (Blk.new W _ _)
  have HB0 : Hid (Below W.heap.size W W1) := by rw [hW]; exact Lib.hid ((Below.refl W.heap.size W).alloc (Nat.le_refl _) _)
  have HS : Hid (RowAt 2 TyAt W F A s) := Lib.hid hs
  have HW := Lib.hid hW
  have HV : Hid (v = 0 + manyN (s.drop 0)) := Lib.hid (by rw [hv, List.drop_zero, Nat.zero_add])
  clear hs hW hv
  go_enter Tryz.func18, Tryz.ntmps18
  go_wp2_with fail
  rw [← HW.out]
  go_loopw [3, 4] (fun sn i wr => ∃ j q : Nat, j ≤ s.length ∧ i = .int .i64 j ∧ sn = .int .i64 q ∧ Hid (v = q + manyN (s.drop j)) ∧ Hid (Below W1.heap.size W1 wr)) (fun _ i _ => s.length - (intOf i).toNat)
  case atStart => exact ⟨0, 0, by omega, rfl, rfl, HV, Lib.hid (Below.refl _ _)⟩
  case round =>
    obtain ⟨j, q, hj, rfl, rfl, H, BW⟩ := hrel
    have x1 := (HK0.out.below BW.out HK0.out.lt).cell (i := 0) (by simp)
    simp only [List.getElem_cons_zero] at x1
    by_cases hlt : j < s.length
    · obtain ⟨b, off, B, d, rfl, ⟨_, hrl⟩, _, hc⟩ := HS.out.ty hlt
      obtain ⟨z0, z1⟩ := hc wr (HB0.out.trans (BW.out.mono HB0.out.size))
      have HN : Hid (v = q + s[j].rels.length + manyN (s.drop (j + 1))) := Lib.hid (by
        rw [H.out, List.drop_eq_getElem_cons hlt]
        show q + (s[j].rels.length + manyN (s.drop (j + 1))) = _
        omega)
      clear hc
      generalize s[j].rels = rx at *
      have hq := HN.out
      go_wp2_with fail
      go_roundw
      case rel => exact ⟨j + 1, q + rx.length, by omega, by go_num, by go_num, HN, BW⟩
      case measure => simp [intOf]; omega
    · have HN : Hid (v = q) := Lib.hid (by rw [H.out, List.drop_of_length_le (by omega)]; rfl)
      go_wp2_with fail
      go_ret
      exact ⟨by rw [HN.out] <;> rfl, HB0.out.trans (BW.out.mono HB0.out.size)⟩
end Go.Proofs.YtdnhbledndgbcaaGreat
namespace Go.Proofs.YtdnhbledndgbcaaGreat
open Go.RowKit
def allN (s : Sc) (t : Nat) (x : Rl) : List Ln :=
  if x.refs.length = 0 then leansE s t x.expr false else x.refs.filterMap (fun r => if r.2 ≠ [] then some (((typN s r.1).toNat, (relN s (typN s r.1) r.2).toNat), false) else none)
def rowsR (s : Sc) (t : Nat) : List Rl → Nat → List Rw
  | [], _ => []
  | x :: r, k => ((t, k), allN s t x) :: rowsR s t r (k + 1)
def rowsT (s : Sc) : Sc → Nat → List Rw
  | [], _ => []
  | x :: r, t => rowsR s t x.rels 0 ++ rowsT s r (t + 1)
def rowsN (s : Sc) : List Rw := rowsT s s 0
theorem rowsR_mem {s : Sc} {t : Nat} {q : Rw} : ∀ (l : List Rl) (k : Nat), q ∈ rowsR s t l k ↔ ∃ j, ∃ h : j < l.length, q = ((t, k + j), allN s t l[j])
  | [], k => by unfold rowsR; simp
  | x :: r, k => by
    unfold rowsR
    rw [List.mem_cons, rowsR_mem r (k + 1)]
    constructor
    · rintro (h | ⟨j, hj, h⟩)
      · exact ⟨0, by simp, by simpa using h⟩
      · exact ⟨j + 1, by simpa using hj, by rw [h, show k + 1 + j = k + (j + 1) by omega]; rfl⟩
    · rintro ⟨j, hj, h⟩
      cases j with
      | zero => exact .inl (by simpa using h)
      | succ j => exact .inr ⟨j, by simpa using hj, by rw [h, show k + 1 + j = k + (j + 1) by omega]; rfl⟩
theorem rowsT_mem {s : Sc} {q : Rw} : ∀ (l : Sc) (t : Nat), q ∈ rowsT s l t ↔ ∃ i, ∃ hi : i < l.length, ∃ j, ∃ h : j < l[i].rels.length, q = ((t + i, j), allN s (t + i) l[i].rels[j])
  | [], t => by unfold rowsT; simp
  | x :: r, t => by
    unfold rowsT
    rw [List.mem_append, rowsR_mem, rowsT_mem r (t + 1)]
    constructor
    · rintro (⟨j, hj, h⟩ | ⟨i, hi, j, hj, h⟩)
      · exact ⟨0, by simp, j, hj, by simpa using h⟩
      · exact ⟨i + 1, by simpa using hi, j, hj, by rw [h, show t + 1 + i = t + (i + 1) by omega]; rfl⟩
    · rintro ⟨i, hi, j, hj, h⟩
      cases i with
      | zero => exact .inl ⟨j, hj, by simpa using h⟩
      | succ i => exact .inr ⟨i, by simpa using hi, j, hj, by rw [h, show t + 1 + i = t + (i + 1) by omega]; rfl⟩
theorem rowsN_mem {s : Sc} {q : Rw} : q ∈ rowsN s ↔ ∃ i, ∃ hi : i < s.length, ∃ j, ∃ h : j < s[i].rels.length, q = ((i, j), allN s i s[i].rels[j]) := by
  unfold rowsN
  rw [rowsT_mem]
  simp only [Nat.zero_add]
theorem rowsR_len {s : Sc} {t : Nat} : ∀ (l : List Rl) (k : Nat), (rowsR s t l k).length = l.length
  | [], _ => rfl
  | x :: r, k => by unfold rowsR; rw [List.length_cons, rowsR_len r, List.length_cons]
theorem rowsT_len {s : Sc} : ∀ (l : Sc) (t : Nat), (rowsT s l t).length = manyN l
  | [], _ => rfl
  | x :: r, t => by
    unfold rowsT
    rw [List.length_append, rowsR_len, rowsT_len r]
    rfl
def nodeN (s : Sc) (x : Nd) : Nk := (nameT s x.1, nameR (ofT s (x.1 : Int)) x.2)
def InN (s : Sc) (x : Nd) : Prop := ∃ hi : x.1 < s.length, x.2 < s[x.1].rels.length
theorem nodeN_at {s : Sc} {i k : Nat} (hi : i < s.length) (hk : k < s[i].rels.length) : nodeN s (i, k) = (s[i].name, s[i].rels[k].name) := by
  unfold nodeN
  dsimp only
  rw [nameT_at hi, ofT_at hi, nameR_at hk]
theorem nodeN_of {s : Sc} {n o : Txt} (h : 0 ≤ relN s (typN s n) o) : InN s ((typN s n).toNat, (relN s (typN s n) o).toNat) ∧ nodeN s ((typN s n).toNat, (relN s (typN s n) o).toNat) = (n, o) := by
  obtain ⟨i, k, hi, hk, h1, h2, h3, h4⟩ := relN_some h
  rw [h2, h1, Int.toNat_natCast, Int.toNat_natCast, nodeN_at hi hk, h3, h4]
  exact ⟨⟨hi, hk⟩, rfl⟩
structure OkN (s : Sc) : Prop where
  dist : Dist s
  may : mayS s = true
  names : ∀ i (hi : i < s.length) k (hk : k < s[i].rels.length), namesN s i s[i].rels[k] = 0
def stN (b : Bool) : Nat := if b then 1 else 0
def edgeN (s : Sc) (c : Ln) : Nk × Nat := (nodeN s c.1, stN c.2)
theorem leafD_is {s : Sc} (hd : Dist s) {t : Nat} (ht : t < s.length) {k : Int} {n o : Txt} (out : Bool) (hn : n ≠ []) (ho : k = 1 → o ≠ []) (h0 : leafN s t k n o = 0) :
    leafD (knS s) s[t].name (.mk k n o [], stN out) = (leafLn s t k n o out).map (edgeN s) ∧ ∀ c ∈ leafLn s t k n o out, InN s c.1 := by
  have hr : 0 ≤ relN s (t : Int) n := by
    unfold leafN at h0
    dsimp only at h0
    by_cases h : relN s (t : Int) n < 0
    · rw [if_pos h] at h0; cases h0
    · omega
  have hnode := nodeN_of (s := s) (n := s[t].name) (o := n) (by rw [hd.typ ht]; exact hr)
  rw [hd.typ ht, Int.toNat_natCast] at hnode
  unfold leafD leafLn
  dsimp only
  show ((s[t].name, n), stN out) :: (if k = 1 then (overK (knS s) (s[t].name, n) o).map (fun x => (x, stN out)) else []) = _ ∧ _
  by_cases hk : k = 1
  · rw [if_pos hk, if_pos hk]
    have h3 : overK (knS s) (s[t].name, n) o = (relAt s (t : Int) (relN s (t : Int) n)).refs.filterMap (overR (knS s) o) := by
      unfold overK
      rw [hd.knR _ _ hn, hd.typ ht, if_neg (by omega)]
      rfl
    rw [h3, List.map_cons]
    refine ⟨congr (congrArg _ ?_) ?_, fun c hc => ?_⟩
    · unfold edgeN
      dsimp only
      rw [hnode.2]
    · rw [List.map_filterMap, List.map_filterMap]
      congr 1
      funext r
      rw [overR_is hd (ho hk)]
      by_cases h4 : r.2 = [] ∧ 0 ≤ relN s (typN s r.1) o
      · rw [if_pos (by rw [decide_eq_true h4.1, decide_eq_true h4.2]; rfl), if_pos h4]
        unfold edgeN
        dsimp only [Option.map_some]
        rw [(nodeN_of h4.2).2]
      · rw [if_neg (fun h => by
          rw [Bool.and_eq_true] at h
          exact h4 ⟨of_decide_eq_true h.1, of_decide_eq_true h.2⟩), if_neg h4]
        rfl
    · rcases List.mem_cons.1 hc with rfl | hc
      · exact hnode.1
      · obtain ⟨r, _, hr⟩ := List.mem_filterMap.1 hc
        split at hr
        · rename_i h4
          injection hr with hr
          rw [← hr]
          exact (nodeN_of h4.2).1
        · cases hr
  · rw [if_neg hk, if_neg hk]
    refine ⟨?_, fun c hc => ?_⟩
    · unfold edgeN
      simp only [List.map_cons, List.map_nil]
      rw [hnode.2]
    · rw [List.mem_singleton.1 hc]
      exact hnode.1
theorem leans_is {s : Sc} (hd : Dist s) {t : Nat} (ht : t < s.length) (e : Ex) : ∀ (m : Int) (out : Bool), mayE e m = true → chkE s t e = 0 → (lvsE e (stN out)).flatMap (leafD (knS s) s[t].name) = (leansE s t e out).map (edgeN s) ∧ ∀ c ∈ leansE s t e out, InN s c.1 := by
  refine Ex.all (P := fun e => ∀ (m : Int) (out : Bool), mayE e m = true → chkE s t e = 0 → (lvsE e (stN out)).flatMap (leafD (knS s) s[t].name) = (leansE s t e out).map (edgeN s) ∧ ∀ c ∈ leansE s t e out, InN s c.1) (fun k n o ks ih m out hm h0 => ?_) e
  unfold mayE at hm
  split at hm
  · cases hm
  · rename_i hk
    unfold lvsE leansE
    unfold chkE at h0
    split at hm
    · rename_i hk1
      rw [Bool.and_eq_true, Bool.and_eq_true] at hm
      obtain ⟨h1, h2, h3⟩ := hm
      have h2 : ks.length = 0 := by simpa using h2
      have hks : ks = [] := List.length_eq_zero_iff.1 h2
      subst hks
      rw [if_pos (show ([] : List Ex).length = 0 from rfl), if_neg (show ¬ 0 < ([] : List Ex).length by simp), List.flatMap_singleton]
      rw [if_neg (show ¬ 0 < ([] : List Ex).length by simp)] at h0
      refine leafD_is hd ht out (nameL_ne h1) (fun e => ?_) ?_
      · rw [e] at h3
        exact nameL_ne (by simpa using h3)
      · unfold chkL at h0
        simpa using h0
    · rename_i hk1
      rw [Bool.and_eq_true] at hm
      have h2 : ks.length = 2 := of_decide_eq_true hm.1
      rw [if_neg (by omega), if_pos (show 0 < ks.length by omega)]
      have h0 : chkL s t ks = 0 := by
        by_cases h : chkL s t ks = 0
        · exact h
        · rw [if_pos h] at h0
          exact h0
      have hL : ∀ (l : List Ex), (∀ x ∈ l, x ∈ ks) → ∀ i, mayL l (m - 1) = true → chkL s t l = 0 → (lvsL k l i (stN out)).flatMap (leafD (knS s) s[t].name) = (leansL s t k l i out).map (edgeN s) ∧ ∀ c ∈ leansL s t k l i out, InN s c.1 := by
        intro l
        induction l with
        | nil => intro _ _ _ _; unfold lvsL leansL; exact ⟨rfl, fun c hc => nomatch hc⟩
        | cons x r ihr =>
          intro hs i hml hc0
          unfold mayL at hml
          rw [Bool.and_eq_true] at hml
          unfold chkL at hc0
          have hx : chkE s t x = 0 := by
            by_cases h : chkE s t x = 0
            · exact h
            · rw [if_pos h] at hc0
              exact hc0
          rw [if_neg (by rw [hx]; simp)] at hc0
          unfold lvsL leansL
          have hst : (if k = 4 ∧ i = 1 then 1 else stN out) = stN (out || (decide (k = 4) && decide (i = 1))) := by
            unfold stN
            by_cases h4 : k = 4
            · by_cases h5 : i = 1 <;> cases out <;> simp [h4, h5]
            · cases out <;> simp [h4]
          rw [hst, List.flatMap_append, List.map_append]
          obtain ⟨a1, a2⟩ := ih x (hs x (List.mem_cons_self ..)) (m - 1) (out || (decide (k = 4) && decide (i = 1))) hml.1 hx
          obtain ⟨b1, b2⟩ := ihr (fun y hy => hs y (List.mem_cons_of_mem _ hy)) (i + 1) hml.2 hc0
          rw [a1, b1]
          refine ⟨rfl, fun c hc => ?_⟩
          rcases List.mem_append.1 hc with hc | hc
          · exact a2 c hc
          · exact b2 c hc
      exact hL ks (fun _ h => h) 0 hm.2 h0
theorem all_is {s : Sc} (h : OkN s) {i k : Nat} (hi : i < s.length) (hk : k < s[i].rels.length) : depsK (knS s) s[i].name s[i].rels[k] = (allN s i s[i].rels[k]).map (edgeN s) ∧ ∀ c ∈ allN s i s[i].rels[k], InN s c.1 := by
  have h0 := h.names i hi k hk
  have hm : mayR s[i].rels[k] = true := by
    have h5 : mayT s[i] = true := List.all_eq_true.1 h.may _ (List.getElem_mem hi)
    unfold mayT at h5
    rw [Bool.and_eq_true] at h5
    exact List.all_eq_true.1 h5.2 _ (List.getElem_mem hk)
  generalize s[i].rels[k] = x at *
  unfold depsK allN
  unfold namesN at h0
  by_cases hr : x.refs.length = 0
  · have hx : x.refs = [] := List.length_eq_zero_iff.1 hr
    rw [if_pos hr, if_pos hr]
    rw [if_pos hr] at h0
    unfold mayR at hm
    rw [Bool.and_eq_true, Bool.and_eq_true, Bool.or_eq_true] at hm
    have hmE : mayE x.expr 12 = true := by
      rcases hm.2.2 with h1 | h1
      · have := of_decide_eq_true h1
        omega
      · exact h1
    have := leans_is h.dist hi x.expr 12 false hmE h0
    rw [hx]
    exact this
  · rw [if_neg hr, if_neg hr]
    rw [if_neg hr] at h0
    have hall : ∀ r ∈ x.refs, refN s r = false := fun r hrm => by
      cases hq : refN s r with
      | false => rfl
      | true =>
        rw [if_pos (List.any_eq_true.2 ⟨r, hrm, hq⟩)] at h0
        cases h0
    have hrel : ∀ r ∈ x.refs, r.2 ≠ [] → 0 ≤ relN s (typN s r.1) r.2 := fun r hrm hne => by
      have := hall r hrm
      unfold refN at this
      rw [Bool.or_eq_false_iff, decide_eq_true hne, Bool.true_and] at this
      have := of_decide_eq_false this.2
      omega
    rw [List.append_nil]
    clear hr h0 hall hm
    generalize x.refs = rf at *
    induction rf with
    | nil => exact ⟨rfl, fun c hc => nomatch hc⟩
    | cons r l ih =>
      obtain ⟨i1, i2⟩ := ih (fun r hr => hrel r (List.mem_cons_of_mem _ hr))
      rw [List.filterMap_cons]
      by_cases hne : r.2 = []
      · rw [List.filter_cons_of_neg (by simp [hne]), if_neg (fun h => h hne)]
        exact ⟨i1, i2⟩
      · have h4 := nodeN_of (hrel r (List.mem_cons_self ..) hne)
        rw [List.filter_cons_of_pos (by simp [hne]), if_pos hne]
        dsimp only
        refine ⟨?_, fun c hc => ?_⟩
        · rw [List.map_cons, List.map_cons, i1]
          refine congr (congrArg _ ?_) rfl
          unfold edgeN
          dsimp only
          rw [h4.2]
          rfl
        · rcases List.mem_cons.1 hc with rfl | hc
          · exact h4.1
          · exact i2 c hc
end Go.Proofs.YtdnhbledndgbcaaGreat
namespace Go.Proofs.YtdnhbledndgbcaaGreat
open Go.RowKit
theorem Highs.le {kn : Kn} {m : Nat} {HL : List (Nk × Nat)} (h : Highs kn m HL) {x : Nk} {n : Nat} (hw : WayK kn x n) : min n m ≤ hv HL x := by
  induction hw with
  | nil x => omega
  | cons he hn ih =>
    have := h.cl _ _ _ he
    omega
theorem Highs.most {kn : Kn} {m : Nat} {HL : List (Nk × Nat)} (h : Highs kn m HL) (x : Nk) : hv HL x ≤ m := by
  obtain ⟨n, _, h1⟩ := h.way x
  omega
theorem Highs.same {kn : Kn} {m : Nat} {HL HL' : List (Nk × Nat)} (h : Highs kn m HL) (h' : Highs kn m HL') (x : Nk) : hv HL x = hv HL' x := by
  obtain ⟨n, h1, h2⟩ := h.way x
  obtain ⟨n', h3, h4⟩ := h'.way x
  have := h'.le h1
  have := h.le h3
  omega
def relNodes (s : Sc) : List Nk := s.flatMap (fun t => t.rels.map (fun r => (t.name, r.name)))
theorem relNodes_len : ∀ s : Sc, (relNodes s).length = manyN s
  | [] => rfl
  | t :: s => by
    have := relNodes_len s
    unfold relNodes at this ⊢
    rw [List.flatMap_cons, List.length_append, this, List.length_map]
    rfl
theorem nodesS_len : ∀ s : Sc, (nodesS s).length = s.length + manyN s
  | [] => rfl
  | t :: s => by
    have := nodesS_len s
    have h3 : (nodesT t).length = t.rels.length + 1 := by simp [nodesT]
    have h4 : manyN (t :: s) = t.rels.length + manyN s := rfl
    unfold nodesS at this ⊢
    rw [List.flatMap_cons, List.length_append, this, List.length_cons]
    omega
theorem EdgeK.node {s : Sc} {z y : Nk} {n : Nat} (h : EdgeK (knS s) z y n) : z ∈ relNodes s := by
  obtain ⟨r, h1, h2, _⟩ := h
  obtain ⟨t, ht, h3 | ⟨r', hr, h3⟩⟩ := knS_some h1
  · exact absurd (congrArg (·.2) h3.1) h2
  · unfold relNodes
    exact List.mem_flatMap.2 ⟨t, ht, List.mem_map.2 ⟨r', hr, h3.1.symm⟩⟩
theorem Highs.lower {s : Sc} {m : Nat} {HL : List (Nk × Nat)} (h : Highs (knS s) m HL) {x : Nk} {n : Nat} (hw : WayK (knS s) x n) : hv HL x = n → n < m → ∀ k, 1 ≤ k → k ≤ n → ∃ y ∈ relNodes s, hv HL y = k := by
  induction hw with
  | nil x => intro _ _ k h1 h2; omega
  | @cons x y st n he hn ih =>
    intro hx hm k h1 h2
    have h3 := h.cl _ _ _ he
    have h4 := h.le hn
    have h5 := he.le
    have h6 : hv HL y = n := by omega
    by_cases hk : k ≤ n
    · exact ih h6 (by omega) k h1 hk
    · exact ⟨x, he.node, by omega⟩
theorem Highs.small {s : Sc} {m : Nat} {HL : List (Nk × Nat)} (h : Highs (knS s) m HL) (x : Nk) (hx : hv HL x < m) : hv HL x ≤ manyN s := by
  obtain ⟨n, h1, h2⟩ := h.way x
  have h3 : hv HL x = n := by omega
  have h4 := h.lower h1 h3 (by omega)
  have h5 := nodup_le ((List.range n).map (· + 1)) ((relNodes s).map (hv HL)) (by
    rw [List.nodup_iff_pairwise_ne, List.pairwise_map]
    exact (List.nodup_iff_pairwise_ne.1 List.nodup_range).imp (fun h e => h (by omega))) (fun k hk => by
    obtain ⟨j, hj, rfl⟩ := List.mem_map.1 hk
    have := List.mem_range.1 hj
    obtain ⟨y, hy, e⟩ := h4 (j + 1) (by omega) (by omega)
    exact List.mem_map.2 ⟨y, hy, e⟩)
  rw [List.length_map, List.length_map, List.length_range, relNodes_len] at h5
  omega
theorem way_names {s : Sc} (h : OkN s) {x : Nd} {n : Nat} (hw : Way (rowsN s) x n) : WayK (knS s) (nodeN s x) n := by
  induction hw with
  | nil x => exact .nil _
  | @cons x ls c n hx hc hn ih =>
    obtain ⟨i, hi, k, hk, e⟩ := rowsN_mem.1 hx
    injection e with e1 e2
    subst e1 e2
    have he : EdgeK (knS s) (nodeN s (i, k)) (nodeN s c.1) (stN c.2) := by
      rw [nodeN_at hi hk]
      refine ⟨_, h.dist.kn hi hk, h.dist.ne i hi k hk, ?_⟩
      rw [(all_is h hi hk).1]
      exact List.mem_map.2 ⟨c, hc, rfl⟩
    have := WayK.cons he ih
    exact this
theorem way_numbers {s : Sc} (h : OkN s) {z : Nk} {n : Nat} (hw : WayK (knS s) z n) : ∀ x, InN s x → z = nodeN s x → Way (rowsN s) x n := by
  induction hw with
  | nil z => intro x _ _; exact .nil x
  | @cons z y st n he hn ih =>
    intro x hx hz
    obtain ⟨i, k⟩ := x
    obtain ⟨hi, hk⟩ := hx
    obtain ⟨r, h1, h2, h3⟩ := he
    rw [hz, nodeN_at hi hk] at h1 h3
    rw [h.dist.kn hi hk] at h1
    injection h1 with h1
    subst h1
    rw [(all_is h hi hk).1] at h3
    obtain ⟨c, hc, e⟩ := List.mem_map.1 h3
    unfold edgeN at e
    injection e with e1 e2
    have := ih c.1 ((all_is h hi hk).2 c hc) e1.symm
    rw [← e2]
    exact .cons (rowsN_mem.2 ⟨i, hi, k, hk, rfl⟩) hc this
def zeroL (s : Sc) : Lv2 := s.map (fun t => List.replicate t.rels.length 0)
theorem zeroL_has {s : Sc} {x : Nd} (h : InN s x) : lvH (zeroL s) x := by
  obtain ⟨hi, hk⟩ := h
  unfold lvH zeroL
  rw [List.length_map]
  refine ⟨hi, ?_⟩
  rw [List.getD_eq_getElem?_getD, List.getElem?_map, List.getElem?_eq_getElem hi]
  simpa using hk
theorem zeroL_zero (s : Sc) (x : Nd) : lvG (zeroL s) x = 0 := by
  unfold lvG zeroL
  rw [List.getD_eq_getElem?_getD, List.getD_eq_getElem?_getD, List.getElem?_map]
  cases s[x.1]? with
  | none => rfl
  | some t =>
    simp only [Option.map_some, Option.getD_some]
    rw [List.getElem?_replicate]
    split <;> rfl
theorem zeroL_ok {s : Sc} (h : OkN s) : LvOk (rowsN s) (zeroL s) := by
  refine ⟨fun q hq => ?_, fun x => by rw [zeroL_zero]; exact .nil x⟩
  obtain ⟨i, hi, k, hk, rfl⟩ := rowsN_mem.1 hq
  exact ⟨zeroL_has ⟨hi, hk⟩, fun c hc => zeroL_has ((all_is h hi hk).2 c hc)⟩
def levS (s : Sc) : Lv2 := levN (rowsN s) 70000 (zeroL s)
theorem lev_same {s : Sc} (h : OkN s) (hs : manyN s ≤ 256) (h0 : s.length ≠ 0) {m : Nat} (hm : m = (nodesS s).length) {HL : List (Nk × Nat)} (hh : Highs (knS s) m HL) {x : Nd} (hx : InN s x) :
    (lvG (levS s) x ≤ manyN s → hv HL (nodeN s x) = lvG (levS s) x ∧ hv HL (nodeN s x) < m) ∧ (manyN s < lvG (levS s) x → hv HL (nodeN s x) = m) := by
  have hlen : (rowsN s).length = manyN s := rowsT_len s 0
  obtain ⟨h1, h2⟩ := lev_is (zeroL_ok h) (by omega) x
  rw [hlen] at h2
  rw [nodesS_len] at hm
  have h3 := hh.le (way_names h h1)
  have hmost := hh.most (nodeN s x)
  have h4 := hh.small (nodeN s x)
  obtain ⟨n, h5, h6⟩ := hh.way (nodeN s x)
  have h7 := way_numbers h h5 x hx rfl
  show (lvG (levN (rowsN s) 70000 (zeroL s)) x ≤ manyN s → _ = lvG (levN (rowsN s) 70000 (zeroL s)) x ∧ _) ∧ (manyN s < lvG (levN (rowsN s) 70000 (zeroL s)) x → _)
  refine ⟨fun hv1 => ?_, fun hv1 => ?_⟩
  · have := h2 hv1 n h7
    omega
  · by_cases hlt : hv HL (nodeN s x) < m
    · have := h4 hlt
      omega
    · omega
end Go.Proofs.YtdnhbledndgbcaaGreat
namespace Go.Proofs.YtdnhbledndgbcaaGreat
open Go.RowKit
def cycF (s : Sc) (i k : Nat) : Nat := if manyN s < lvG (levS s) (i, k) then 11 else 0
def docC (s : Sc) : Fa := if (plainN s).2.2 ≠ 0 then plainN s else frN (cycF s) s 0
theorem frRow_congr {f g : Nat → Nat} {t : Nat} : ∀ (l : List Rl) (k : Nat), (∀ b, b < l.length → f (k + b) = g (k + b)) → frRow f t l k = frRow g t l k
  | [], _, _ => rfl
  | x :: r, k, h => by
    unfold frRow
    have h0 := h 0 (by simp)
    rw [Nat.add_zero] at h0
    rw [h0, frRow_congr (f := f) (g := g) r (k + 1) (fun b hb => by
      have := h (b + 1) (by simpa using hb)
      rwa [show k + 1 + b = k + (b + 1) by omega])]
theorem frN_congr {f g : Nat → Nat → Nat} : ∀ (l : Sc) (t : Nat), (∀ a (ha : a < l.length) b, b < l[a].rels.length → f (t + a) b = g (t + a) b) → frN f l t = frN g l t
  | [], _, _ => rfl
  | x :: r, t, h => by
    unfold frN
    rw [frRow_congr (f := f t) (g := g t) x.rels 0 (fun b hb => by
      have := h 0 (by simp) b (by simpa using hb)
      simpa using this), frN_congr (f := f) (g := g) r (t + 1) (fun a ha b hb => by
      have := h (a + 1) (by simpa using ha) b (by simpa using hb)
      rwa [show t + 1 + a = t + (a + 1) by omega])]
theorem manyN_le : ∀ (s : Sc), (∀ t ∈ s, t.rels.length ≤ 16) → manyN s ≤ 16 * s.length
  | [], _ => Nat.le_refl _
  | t :: s, h => by
    have h1 := manyN_le s (fun t ht => h t (List.mem_cons_of_mem _ ht))
    have h2 := h t (List.mem_cons_self ..)
    have h4 : manyN (t :: s) = t.rels.length + manyN s := rfl
    rw [List.length_cons]
    omega
theorem ok_of {s : Sc} (h1 : (sizesN s).2.2 = 0) (h2 : (namesF s).2.2 = 0) : OkN s := by
  have hm := (sizes_ok h1).2.1
  unfold namesF at h2
  have hw1 : wfF (repN s) := (orFs_two (ftN_wf (f := repT s) s 0) (frN_wf (f := repR s) s 0)).1
  obtain ⟨h3, h4⟩ := (orFs_two hw1 (frN_wf (f := unkF (knS s) s) s 0)).2 h2
  have hd := dist_of (s := s) (by rw [h3]) hm
  refine ⟨hd, hm, fun i hi k hk => ?_⟩
  have h5 := frN_zero s 0 (by rw [h4]) i hi k hk
  rw [Nat.zero_add] at h5
  unfold unkF at h5
  rw [nameT_at hi, relAt_at hi hk] at h5
  rw [← names_is hd hi _ ?_]
  · exact h5
  · have h5 : mayT s[i] = true := List.all_eq_true.1 hm _ (List.getElem_mem hi)
    unfold mayT at h5
    rw [Bool.and_eq_true] at h5
    exact List.all_eq_true.1 h5.2 _ (List.getElem_mem hk)
theorem raise1_len (top : Nat) (x : Nd) (st : Lv2 × Bool) (c : Ln) : ((raise1 top x st c).1).map List.length = st.1.map List.length := by
  unfold raise1
  split
  · unfold lvS
    dsimp only
    apply List.ext_getElem
    · simp
    · intro i h1 h2
      simp only [List.getElem_map, List.getElem_set]
      split
      · rename_i e
        subst e
        rw [List.length_set, List.getD_eq_getElem?_getD, List.getElem?_eq_getElem (by simpa using h2)]
        rfl
      · rfl
  · rfl
theorem raiseR_len (top : Nat) (x : Nd) : ∀ (ls : List Ln) (st : Lv2 × Bool), ((ls.foldl (raise1 top x) st).1).map List.length = st.1.map List.length
  | [], _ => rfl
  | c :: r, st => by rw [List.foldl_cons, raiseR_len top x r, raise1_len]
theorem raised_len (top : Nat) : ∀ (rs : List Rw) (st : Lv2 × Bool), ((rs.foldl (raiseR top) st).1).map List.length = st.1.map List.length
  | [], _ => rfl
  | r :: rs, st => by
    rw [List.foldl_cons, raised_len top rs]
    exact raiseR_len top r.1 r.2 st
theorem levN_len (w : List Rw) : ∀ (n : Nat) (l : Lv2), (levN w n l).map List.length = l.map List.length
  | 0, _ => rfl
  | n + 1, l => by
    have h : ((raisedL w l).1).map List.length = l.map List.length := raised_len w.length w (l, false)
    unfold levN
    split
    · rw [levN_len w n, h]
    · exact h
theorem levS_len (s : Sc) : (levS s).map List.length = s.map (fun t => t.rels.length) := by
  unfold levS
  rw [levN_len]
  unfold zeroL
  rw [List.map_map]
  congr 1
  funext t
  simp
theorem rows_eq {a b : Lv2} (hl : a.map List.length = b.map List.length) (h : ∀ i (hi : i < a.length) k, k < a[i].length → lvG a (i, k) = lvG b (i, k)) : a = b := by
  have hab : a.length = b.length := by
    have := congrArg List.length hl
    simpa using this
  apply List.ext_getElem hab
  intro i h1 h2
  have h3 : a[i].length = b[i].length := by
    have := congrArg (fun l => l[i]?) hl
    simp only [List.getElem?_map, List.getElem?_eq_getElem h1, List.getElem?_eq_getElem h2, Option.map_some] at this
    injection this
  apply List.ext_getElem h3
  intro k h4 h5
  have := h i h1 k h4
  unfold lvG at this
  simpa [List.getD_eq_getElem?_getD, h1, h2, h4, h5] using this
theorem hvS_get {HL : List (Nk × Nat)} {s : Sc} {i k : Nat} (hi : i < s.length) (hk : k < s[i].rels.length) : lvG (hvS HL s) (i, k) = hv HL (nodeN s (i, k)) := by
  unfold lvG
  dsimp only
  rw [nodeN_at hi hk, List.getD_eq_getElem?_getD, List.getD_eq_getElem?_getD]
  unfold hvS
  rw [List.getElem?_map, List.getElem?_eq_getElem hi]
  simp only [Option.map_some, Option.getD_some]
  unfold hvT
  rw [List.getElem?_map, List.getElem?_eq_getElem hk]
  rfl
theorem exF_is {HL : List (Nk × Nat)} {s : Sc} {m i k : Nat} (hi : i < s.length) (hk : k < s[i].rels.length) : exF (hvS HL s) m i k = if hv HL (nodeN s (i, k)) = m then 11 else 0 := by
  unfold exF
  rw [nodeN_at hi hk]
  unfold hvS
  rw [List.getElem?_map, List.getElem?_eq_getElem hi]
  simp only [Option.map_some, Option.getD_some]
  have e : (hvT HL s[i])[k]? = some (hv HL (s[i].name, s[i].rels[k].name)) := by
    unfold hvT
    rw [List.getElem?_map, List.getElem?_eq_getElem hk]
    rfl
  simp only [e, Option.some.injEq]
theorem ExIs.doc {s : Sc} {z : Fa} {lv : List (List Nat) → Prop} (h : ExIs s z lv) : z = docC s ∧ (z.2.2 = 0 → OkN s ∧ lv (levS s) ∧ (∀ i (hi : i < s.length) k (hk : k < s[i].rels.length), lvG (levS s) (i, k) ≤ manyN s ∧ ∀ c ∈ allN s i s[i].rels[k], lvG (levS s) c.1 + stN c.2 ≤ lvG (levS s) (i, k))) := by
  rcases h with ⟨h1, h2⟩ | ⟨h1, h2, h3⟩ | ⟨h1, h2, HL, m, h3, h4, h5, h6, h7⟩
  · have hp : plainN s = sizesN s := by rw [plain_is, if_pos h1]
    refine ⟨?_, fun h => absurd (h2 ▸ h) h1⟩
    unfold docC
    rw [hp, if_pos h1, h2]
  · have hp : plainN s = namesF s := by rw [plain_is, if_neg (fun h => h h1)]
    refine ⟨?_, fun h => absurd (h3 ▸ h) h2⟩
    unfold docC
    rw [hp, if_pos h2, h3]
  · have hp : plainN s = namesF s := by rw [plain_is, if_neg (fun h => h h1)]
    have hok := ok_of h1 h2
    have hsz := sizes_ok h1
    have hmany : manyN s ≤ 256 := by
      have := manyN_le s hsz.2.2.2
      have := hsz.2.2.1
      omega
    have hm := h4 hok.dist.nodup
    have hsame := fun i (hi : i < s.length) k (hk : k < s[i].rels.length) => lev_same hok hmany hsz.1 hm h5 (x := (i, k)) ⟨hi, hk⟩
    have hz : z = frN (cycF s) s 0 := by
      rw [h6]
      refine frN_congr s 0 (fun i hi k hk => ?_)
      rw [Nat.zero_add, exF_is hi hk]
      unfold cycF
      obtain ⟨a1, a2⟩ := hsame i hi k hk
      by_cases hlt : manyN s < lvG (levS s) (i, k)
      · rw [if_pos hlt, if_pos (a2 hlt)]
      · have := (a1 (by omega)).2
        rw [if_neg hlt, if_neg (by omega)]
    refine ⟨?_, fun hz0 => ?_⟩
    · unfold docC
      rw [hp, if_neg (fun h => h h2), hz]
    · have hle : ∀ i (hi : i < s.length) k, k < s[i].rels.length → lvG (levS s) (i, k) ≤ manyN s := fun i hi k hk => by
        have := frN_zero s 0 (by rw [← hz]; exact hz0) i hi k hk
        rw [Nat.zero_add] at this
        unfold cycF at this
        split at this
        · cases this
        · omega
      have heq : hvS HL s = levS s := by
        refine rows_eq ?_ (fun i hi k hk => ?_)
        · rw [levS_len]
          unfold hvS
          rw [List.map_map]
          congr 1
          funext t
          show (hvT HL t).length = _
          unfold hvT
          rw [List.length_map]
        · have hi' : i < s.length := by unfold hvS at hi; simpa using hi
          have hk' : k < s[i].rels.length := by
            rw [hvS_at HL hi' hi] at hk
            unfold hvT at hk
            simpa using hk
          rw [hvS_get hi' hk']
          exact ((hsame i hi' k hk').1 (hle i hi' k hk')).1
      refine ⟨hok, by rw [← heq]; exact h7 hz0, fun i hi k hk => ⟨hle i hi k hk, fun c hc => ?_⟩⟩
      obtain ⟨hi2, hk2⟩ := (all_is hok hi hk).2 c hc
      have e1 := (hsame i hi k hk).1 (hle i hi k hk)
      have e2 := (hsame c.1.1 hi2 c.1.2 hk2).1 (hle c.1.1 hi2 c.1.2 hk2)
      have he : EdgeK (knS s) (nodeN s (i, k)) (nodeN s c.1) (stN c.2) := by
        rw [nodeN_at hi hk]
        refine ⟨_, hok.dist.kn hi hk, hok.dist.ne i hi k hk, ?_⟩
        rw [(all_is hok hi hk).1]
        exact List.mem_map.2 ⟨c, hc, rfl⟩
      have h8 := h5.cl _ _ _ he
      have h9 : stN c.2 ≤ 1 := he.le
      have e2' : hv HL (nodeN s c.1) = lvG (levS s) c.1 ∧ hv HL (nodeN s c.1) < m := e2
      omega
end Go.Proofs.YtdnhbledndgbcaaGreat
