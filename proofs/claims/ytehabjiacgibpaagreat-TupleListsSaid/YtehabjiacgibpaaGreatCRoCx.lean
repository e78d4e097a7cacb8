/-
  The grammar as Lean functions over tokens: tokens of a text; atoms, terms, expressions, refs, relations, types; the first fault. No program is named.
  The tokens of a text, by fuel: for texts written out. No program is named.
  Expressions copied (the program's copyExpr). Conditions: the expression is there; each text is of at most 2^48 bytes, each list of at most 1,000,000 expressions.
-/
import Derived.Test.YtehabjiacgibpaaGreatCTpL
import Derived.Deep.RegionHeldLaw
namespace Go.Proofs.YtehabjiacgibpaaGreat
open Go.RowKit
abbrev Tk := Txt × Nat × Nat
abbrev Dg := Nat × Nat × Nat
def signs : Txt := [58, 124, 35, 43, 45, 38, 46, 40, 41]
def signT (c : UInt8) : Txt := if c ∈ signs then [c] else [63]
def wordL : Txt → Nat
  | [] => 0
  | c :: r => if lowB c then (r.takeWhile nmB).length + 1 else 0
theorem wordL_le (l : Txt) : wordL l ≤ l.length := by
  cases l with
  | nil => simp [wordL]
  | cons c r =>
    have h := (List.takeWhile_sublist (l := r) nmB).length_le
    rw [wordL]
    by_cases hc : lowB c = true
    · rw [if_pos hc]; simp; omega
    · rw [if_neg hc]; omega
def tokL (l : Txt) (line col : Nat) : List Tk :=
  match l with
  | [] => [([], line, col)]
  | c :: r =>
    if c = 10 then tokL r (line + 1) 1
    else if c = 32 ∨ c = 9 then tokL r line (col + 1)
    else if h : wordL (c :: r) = 0 then (if signT c = [63] then [([63], line, col)] else (signT c, line, col) :: tokL r line (col + 1))
    else ((c :: r).take (wordL (c :: r)), line, col) :: tokL ((c :: r).drop (wordL (c :: r))) line (col + wordL (c :: r))
termination_by l.length
decreasing_by
  all_goals simp
  all_goals omega
inductive Rs (α : Type) where
  | ok (a : α) (r : List Tk)
  | no (d : Dg)
def Rs.then {α β : Type} (x : Rs α) (f : α → List Tk → Rs β) : Rs β :=
  match x with
  | .ok a r => f a r
  | .no d => .no d
def failT (t : Tk) (e : Nat) : Dg := (t.2.1, t.2.2, e)
def nx (ts : List Tk) : Tk := ts.headD ([], 0, 0)
def nameP (ts : List Tk) : Rs Txt := if nameL (nx ts).1 then .ok (nx ts).1 ts.tail else .no (failT (nx ts) 8)
def mustP (s : Txt) (ts : List Tk) : Rs Unit := if (nx ts).1 = s then .ok () ts.tail else .no (failT (nx ts) 8)
def atomK (sub : Option (List Tk → Rs Ex)) (ts : List Tk) : Rs Ex :=
  if (nx ts).1 = [40] then
    (match sub with
    | none => .no (failT (nx ts) 9)
    | some f => (f ts.tail).then fun e r => (mustP [41] r).then fun _ r => .ok e r)
  else (nameP ts).then fun s r => if (nx r).1 = [46] then (nameP r.tail).then fun o r => .ok (.mk 1 s o []) r else .ok (.mk 0 s [] []) r
def twoP (k : Int) (t : Tk) (a b : Ex) (r : List Tk) : Rs Ex := if 12 < heightE (.mk k [] [] [a, b]) then .no (failT t 9) else .ok (.mk k [] [] [a, b]) r
def termLoop (sub : Option (List Tk → Rs Ex)) : Nat → Ex → List Tk → Rs Ex
  | 0, a, ts => .ok a ts
  | n + 1, a, ts => if (nx ts).1 = [38] then (atomK sub ts.tail).then fun b r => (twoP 3 (nx ts) a b r).then fun e r => termLoop sub n e r else .ok a ts
def termK (sub : Option (List Tk → Rs Ex)) (ts : List Tk) : Rs Ex := (atomK sub ts).then fun a r => termLoop sub ts.length a r
def exprLoop (sub : Option (List Tk → Rs Ex)) : Nat → Ex → List Tk → Rs Ex
  | 0, a, ts => .ok a ts
  | n + 1, a, ts => if (nx ts).1 = [43] ∨ (nx ts).1 = [45] then (termK sub ts.tail).then fun b r => (twoP (if (nx ts).1 = [45] then 4 else 2) (nx ts) a b r).then fun e r => exprLoop sub n e r else .ok a ts
def exprK (sub : Option (List Tk → Rs Ex)) (ts : List Tk) : Rs Ex := (termK sub ts).then fun a r => exprLoop sub ts.length a r
def exprD : Nat → List Tk → Rs Ex
  | 0 => exprK none
  | d + 1 => exprK (some (exprD d))
def subD : Nat → Option (List Tk → Rs Ex)
  | 0 => none
  | d + 1 => some (exprD d)
theorem exprD_eq (d : Nat) : exprD d = exprK (subD d) := by cases d <;> rfl
def refP (ts : List Tk) : Rs Rf := (nameP ts).then fun s r => if (nx r).1 = [35] then (nameP r.tail).then fun o r => .ok (s, o) r else .ok (s, []) r
def refsLoop : Nat → List Tk → Rs (List Rf)
  | 0, ts => .ok [] ts
  | n + 1, ts => if (nx ts).1 = [124] then (refP ts.tail).then fun x r => (refsLoop n r).then fun l r => .ok (x :: l) r else .ok [] ts
def relW2 : Txt := [114, 101, 108, 97, 116, 105, 111, 110]
def defW2 : Txt := [100, 101, 102, 105, 110, 101]
def typW2 : Txt := [116, 121, 112, 101]
def noEx : Ex := .mk 0 [] [] []
def toldP (ts : List Tk) : Rs Rl := (nameP ts).then fun n r => (mustP [58] r).then fun _ r => (refP r).then fun x r => (refsLoop r.length r).then fun l r => .ok ⟨n, x :: l, noEx⟩ r
def defP (ts : List Tk) : Rs Rl := (nameP ts).then fun n r => (mustP [58] r).then fun _ r => (exprD 12 r).then fun e r => .ok ⟨n, [], e⟩ r
def relsLoop : Nat → List Tk → Rs (List Rl)
  | 0, ts => .ok [] ts
  | n + 1, ts =>
    if (nx ts).1 = relW2 then (toldP ts.tail).then fun x r => (relsLoop n r).then fun l r => .ok (x :: l) r
    else if (nx ts).1 = defW2 then (defP ts.tail).then fun x r => (relsLoop n r).then fun l r => .ok (x :: l) r
    else .ok [] ts
def typesLoop : Nat → List Tk → Rs Sc
  | 0, ts => .ok [] ts
  | n + 1, ts => if (nx ts).1 = typW2 then (nameP ts.tail).then fun s r => (relsLoop r.length r).then fun rs r => (typesLoop n r).then fun l r => .ok (⟨s, rs⟩ :: l) r else .ok [] ts
def wholeP (ts : List Tk) : Rs Sc := (typesLoop ts.length ts).then fun s r => if (nx r).1 = [] then .ok s r else .no (failT (nx r) 8)
def parseT (l : Txt) : Sc × Dg := if 4096 < l.length then ([], (1, 1, 2)) else (match wholeP (tokL l 1 1) with | .ok s _ => (s, (0, 0, 0)) | .no d => ([], d))
theorem Rs.then_ok {α β : Type} {x : Rs α} {f : α → List Tk → Rs β} {b : β} {r : List Tk} (h : x.then f = .ok b r) : ∃ a r', x = .ok a r' ∧ f a r' = .ok b r := by
  cases x with
  | ok a r' => exact ⟨a, r', rfl, h⟩
  | no d => cases h
end Go.Proofs.YtehabjiacgibpaaGreat
namespace Go.Proofs.YtehabjiacgibpaaGreat
open Go.RowKit
def tokF : Nat → Txt → Nat → Nat → List Tk
  | 0, _, _, _ => []
  | n + 1, l, line, col =>
    match l with
    | [] => [([], line, col)]
    | c :: r =>
      if c = 10 then tokF n r (line + 1) 1
      else if c = 32 ∨ c = 9 then tokF n r line (col + 1)
      else if wordL (c :: r) = 0 then (if signT c = [63] then [([63], line, col)] else (signT c, line, col) :: tokF n r line (col + 1))
      else ((c :: r).take (wordL (c :: r)), line, col) :: tokF n ((c :: r).drop (wordL (c :: r))) line (col + wordL (c :: r))
theorem tokF_eq : ∀ (n : Nat) (l : Txt) (line col : Nat), l.length < n → tokF n l line col = tokL l line col
  | 0, l, _, _, h => absurd h (Nat.not_lt_zero _)
  | n + 1, [], line, col, _ => by rw [tokF, tokL]
  | n + 1, c :: r, line, col, h => by
    have hr : r.length < n := by simpa using h
    rw [tokF, tokL]
    by_cases h1 : c = 10
    · rw [if_pos h1, if_pos h1, tokF_eq n r _ _ hr]
    · rw [if_neg h1, if_neg h1]
      by_cases h2 : c = 32 ∨ c = 9
      · rw [if_pos h2, if_pos h2, tokF_eq n r _ _ hr]
      · rw [if_neg h2, if_neg h2]
        by_cases h3 : wordL (c :: r) = 0
        · rw [if_pos h3, dif_pos h3, tokF_eq n r _ _ hr]
        · rw [if_neg h3, dif_neg h3, tokF_eq n _ _ _ (by rw [List.length_drop]; simp at h ⊢; omega)]
end Go.Proofs.YtehabjiacgibpaaGreat
namespace Go.Proofs.YtehabjiacgibpaaGreat
open Go.RowKit
mutual
def cpE : Ex → Prop
  | .mk _ n o ks => n.length ≤ 281474976710656 ∧ o.length ≤ 281474976710656 ∧ ks.length ≤ 1000000 ∧ cpL ks
def cpL : List Ex → Prop
  | [] => True
  | x :: r => cpE x ∧ cpL r
end
theorem cpL_mem : ∀ {ks : List Ex}, cpL ks → ∀ x ∈ ks, cpE x
  | [], _, x, hx => by cases hx
  | y :: r, h, x, hx => by
    unfold cpL at h
    rcases List.mem_cons.1 hx with rfl | hx
    · exact h.1
    · exact cpL_mem h.2 x hx
theorem ExAt.one {W : World} {F : Nat → Prop} {e : Ex} {cs : List Value} (h : ExAt W F e cs) : ∀ u ∈ cs, u.oneCell' = true := by
  obtain ⟨k, n, o, ks⟩ := e
  unfold ExAt at h
  obtain ⟨A, c, rfl, _⟩ := h
  intro u hu
  simp only [List.mem_cons, List.not_mem_nil, or_false] at hu
  rcases hu with rfl | rfl | rfl | rfl <;> rfl
def CopyX (W : World) (e : Ex) (r : Ending) (w' : World) : Prop := ∃ cs : List Value, r = .returned (.agg cs.toArray) ∧ ExAt w' (fun b => b < W.heap.size) e cs ∧ Below W.heap.size W w'
def CpSt (base : Nat) (ks : List Ex) (A : Option Addr) (j : Nat) (wr : World) : Prop :=
  ks = [] ∨ ∃ g M, A = some ⟨g, 0, none⟩ ∧ base ≤ g ∧ Blk wr g M 69 ∧ ks.length * 4 ≤ M.length ∧ ∀ q (h : q < ks.length), ∃ cs, ExAt wr (fun b => (q < j ∧ b < base) ∨ b = g) ks[q] cs ∧ ∀ i, i < 4 → M[q * 4 + i]? = cs[i]?
theorem CpSt.row {wr : World} {base : Nat} {ks : List Ex} {A : Option Addr} (h : CpSt base ks A ks.length wr) : RowAt 4 ExAt wr (fun b => b < base) A ks := by
  rcases h with h | ⟨g, M, hA, hg, hB, hle, hq⟩
  · exact .inl h
  · refine .inr ⟨g, 0, hA, hB.lt, fun hf => by have hf : g < base := hf; omega, fun j hj => ?_⟩
    obtain ⟨cs, h1, h2⟩ := hq j hj
    refine ⟨cs, ExAt.moved (Spared.refl wr _) (fun i hi => .inl (.inl ⟨hj, hi⟩)) _ _ h1, fun i hi => ?_⟩
    have hlt : j * 4 + i < M.length := by
      have : (j + 1) * 4 ≤ ks.length * 4 := Nat.mul_le_mul_right 4 hj
      omega
    rw [← h2 i hi, Nat.zero_add, hB.cell hlt, List.getElem?_eq_getElem hlt]
theorem CpSt.start {w wr : World} {F : Nat → Prop} {base : Nat} {ks : List Ex} {A : Option Addr} (h : RowCp 4 ExAt w F 69 ks A wr) (hb : Below w.heap.size w wr) (hbase : base ≤ w.heap.size) : CpSt base ks A 0 wr := by
  rcases h with h | ⟨g, M, hA, hg, hB, hle, hq⟩
  · exact .inl h
  · refine .inr ⟨g, M, hA, by omega, hB, hle, fun q hj => ?_⟩
    obtain ⟨cs, h1, h2⟩ := hq q hj
    exact ⟨cs, ExAt.moved (Spared.of_below hb F) (fun i hi => by
      rcases hi with hi | hi
      · omega
      · exact .inr (by omega)) _ _ h1, h2⟩
theorem CpSt.below {wr w : World} {base j : Nat} {ks : List Ex} {A : Option Addr} (h : CpSt base ks A j wr) (hb : Below wr.heap.size wr w) : CpSt base ks A j w := by
  rcases h with h | ⟨g, M, hA, hg, hB, hle, hq⟩
  · exact .inl h
  · exact .inr ⟨g, M, hA, hg, hB.below hb hB.lt, hle, fun q hj => by
      obtain ⟨cs, h1, h2⟩ := hq q hj
      exact ⟨cs, h1.below hb, h2⟩⟩
theorem CpSt.at_ {wr : World} {base j : Nat} {ks : List Ex} {A : Option Addr} (h : CpSt base ks A j wr) (hj : j < ks.length) :
    ∃ g cs, A = some ⟨g, 0, none⟩ ∧ base ≤ g ∧ g < wr.heap.size ∧ ExAt wr (fun b => b = g) ks[j] cs ∧
      ∀ w, Below wr.heap.size wr w → (∀ i, i < 4 → w.cell? ⟨g, j * 4 + i, none⟩ = cs[i]? ∧ w.frozen? ⟨g, j * 4 + i, none⟩ = false) ∧
        ∀ (u0 u1 u2 u3 : Value), ExAt w (fun b => b < base ∨ b = g) ks[j] [u0, u1, u2, u3] → CpSt base ks A (j + 1) ((((w.setCell ⟨g, j * 4, none⟩ u0).setCell ⟨g, j * 4 + 1, none⟩ u1).setCell ⟨g, j * 4 + 2, none⟩ u2).setCell ⟨g, j * 4 + 3, none⟩ u3) := by
  rcases h with h | ⟨g, M, hA, hg, hB, hle, hq⟩
  · subst h; cases hj
  have hlt : j * 4 + 4 ≤ M.length := by
    have : (j + 1) * 4 ≤ ks.length * 4 := Nat.mul_le_mul_right 4 hj
    omega
  obtain ⟨cs, h1, h2⟩ := hq j hj
  refine ⟨g, cs, hA, hg, hB.lt, ExAt.moved (Spared.refl wr _) (fun i hi => .inl (.inr hi)) _ _ h1, fun w hb => ⟨fun i hi => ?_, fun u0 u1 u2 u3 hu => ?_⟩⟩
  · have hBw := hB.below hb hB.lt
    refine ⟨?_, hBw.free _⟩
    rw [← h2 i hi, hBw.cell (by omega), List.getElem?_eq_getElem (by omega)]
  · have hBw := hB.below hb hB.lt
    have hB4 := (((hBw.set (j * 4) u0).set (j * 4 + 1) u1).set (j * 4 + 2) u2).set (j * 4 + 3) u3
    have hsp : Spared w ((((w.setCell ⟨g, j * 4, none⟩ u0).setCell ⟨g, j * 4 + 1, none⟩ u1).setCell ⟨g, j * 4 + 2, none⟩ u2).setCell ⟨g, j * 4 + 3, none⟩ u3) (fun b => b = g) := by
      have hF : (fun b => b = g) g := rfl
      exact ((((Spared.refl w (fun b => b = g)).setCell hF _ u0).setCell hF _ u1).setCell hF _ u2).setCell hF _ u3
    refine .inr ⟨g, _, hA, hg, hB4, by simpa using hle, fun q hq' => ?_⟩
    have hMq : ∀ i, i < 4 → ((((M.set (j * 4) u0).set (j * 4 + 1) u1).set (j * 4 + 2) u2).set (j * 4 + 3) u3)[q * 4 + i]? = if q = j then [u0, u1, u2, u3][i]? else M[q * 4 + i]? := fun i hi => by
      simp only [List.getElem?_set, List.length_set]
      by_cases hqj : q = j
      · subst hqj
        rw [if_pos rfl]
        have : i = 0 ∨ i = 1 ∨ i = 2 ∨ i = 3 := by omega
        rcases this with rfl | rfl | rfl | rfl
        · rw [if_neg (by omega), if_neg (by omega), if_neg (by omega), if_pos (by omega), if_pos (by omega)]; rfl
        · rw [if_neg (by omega), if_neg (by omega), if_pos (by omega), if_pos (by omega)]; rfl
        · rw [if_neg (by omega), if_pos (by omega), if_pos (by omega)]; rfl
        · rw [if_pos (by omega), if_pos (by omega)]; rfl
      · rw [if_neg hqj, if_neg (by omega), if_neg (by omega), if_neg (by omega), if_neg (by omega)]
    by_cases hqj : q = j
    · subst hqj
      exact ⟨[u0, u1, u2, u3], ExAt.moved (F := fun b => b < base ∨ b = g) (hsp.mono (fun _ h => .inr h)) (fun i hi => .inl (hi.imp (fun h => h.2) id)) _ _ hu, fun i hi => by rw [hMq i hi, if_pos rfl]⟩
    · obtain ⟨cs2, h3, h4⟩ := hq q hq'
      refine ⟨cs2, ExAt.moved (F := fun b => (q < j ∧ b < base) ∨ b = g) (hsp.mono (fun _ h => .inr h)) (fun i hi => .inl (hi.imp (fun h => ⟨by omega, h.2⟩) id)) _ _ (h3.below hb), fun i hi => by rw [hMq i hi, if_neg hqj]; exact h4 i hi⟩
set_option maxRecDepth 100000 in
set_option maxHeartbeats 4000000 in
theorem copyX_any : ∀ (e : Ex) (W : World) (F : Nat → Prop) (cs : List Value), cpE e → ExAt W F e cs → Calls Tryz.prog 114 #[.agg cs.toArray] W (CopyX W e) := by
  intro e
  refine Ex.all (P := fun e => ∀ (W : World) (F : Nat → Prop) (cs : List Value), cpE e → ExAt W F e cs → Calls Tryz.prog 114 #[.agg cs.toArray] W (CopyX W e)) (fun k n o ks ih W F cs hcp hE => ?_) e
  unfold cpE at hcp
  obtain ⟨hn, ho, hkl, hcl⟩ := hcp
  obtain ⟨E, m0, rfl, ⟨hk, hsn, hso, _⟩, hr⟩ := hE.row
  show Calls _ _ #[.agg #[.int .i64 k, strV n, strV o, .slice E ks.length m0]] _ _
  obtain ⟨W1, hW⟩ : ∃ W1, W1 = (W.alloc (.cells #[.int .i64 k, strV n, strV o, .slice E ks.length m0] 69)).alloc (.cells #[.int .i64 0, .string ⟨#[]⟩, .string ⟨#[]⟩, .slice none 0 0] 69) := ⟨_, rfl⟩
  have HKA : Hid (Blk W1 W.heap.size [.int .i64 k, strV n, strV o, .slice E ks.length m0] 69) := by rw [hW]; exact Lib.hid ((Blk.new W _ _).alloc _)
  have HKE : Hid (Blk W1 (W.heap.size + 1) [.int .i64 0, .string ⟨#[]⟩, .string ⟨#[]⟩, .slice none 0 0] 69) := by
    rw [hW]
    have := Blk.new (W.alloc (.cells #[.int .i64 k, strV n, strV o, .slice E ks.length m0] 69)) [.int .i64 0, .string ⟨#[]⟩, .string ⟨#[]⟩, .slice none 0 0] 69
    rw [World.size_alloc] at this
    exact Lib.hid this
  have HB0 : Hid (Below W.heap.size W W1) := by rw [hW]; exact Lib.hid (((Below.refl _ _).alloc (Nat.le_refl _) _).alloc (by simp) _)
  have HW := Lib.hid hW
  have HX : Hid (∀ w, Below W1.heap.size W1 w → w.cell? ⟨W.heap.size, 0, none⟩ = some (.int .i64 k) ∧ w.cell? ⟨W.heap.size, 1, none⟩ = some (strV n) ∧ w.cell? ⟨W.heap.size, 2, none⟩ = some (strV o) ∧ w.cell? ⟨W.heap.size, 3, none⟩ = some (.slice E ks.length m0)) := Lib.hid (fun w hw => by
    have h1 := HKA.out.below hw HKA.out.lt
    exact ⟨h1.cell (i := 0) (by simp), h1.cell (i := 1) (by simp), h1.cell (i := 2) (by simp), h1.cell (i := 3) (by simp)⟩)
  have HCL := Lib.hid (cloneExpr_any (R := ExAt) ks E m0 W1 F (hr.moved (Spared.of_below HB0.out F) (fun _ h => .inl h) (fun _ _ _ h => ExAt.moved (Spared.of_below HB0.out F) (fun _ h => .inl h) _ _ h)) (fun x cs h => h.len) (fun x cs h => h.one) hkl)
  have HI := Lib.hid ih
  have HCP : Hid (∀ x ∈ ks, cpE x) := Lib.hid (cpL_mem hcl)
  have HCN := Lib.hid (fun w => rclone_any n w hn)
  have HCO := Lib.hid (fun w => rclone_any o w ho)
  have HFI : Hid (fitsI k ∧ small n ∧ small o ∧ ks.length ≤ 9223372036854775807) := Lib.hid ⟨hk, hsn, hso, by omega⟩
  obtain ⟨x0, x1, x2, x3⟩ := HX.out W1 (Below.refl _ _)
  rw [HW.out] at x0 x1 x2 x3
  clear hW hE hr ih hcl hn ho hk hsn hso
  go_enter Tryz.func114, Tryz.ntmps114
  go_wp2_with (go_at_call 118; rw [← HW.out]; (refine HCL.out.mono ?_); rintro r w2 ⟨A', c', rfl, hb2, hcp⟩; have HB2 := Lib.hid hb2; have HCS : Hid (CpSt W1.heap.size ks A' 0 w2) := Lib.hid (CpSt.start hcp hb2 (Nat.le_refl _)); clear x0 x1 x2 x3 hb2 hcp)
  have HKL : Hid (W.heap.size + 1 < W1.heap.size) := Lib.hid HKE.out.lt
  go_loopw [11] (fun i wr => ∃ j : Nat, j ≤ ks.length ∧ i = .int .i64 j ∧ Hid (CpSt W1.heap.size ks A' j wr) ∧ Hid (Below W1.heap.size W1 wr)) (fun i _ => ks.length - (intOf i).toNat)
  case atStart => exact ⟨0, by omega, rfl, HCS, HB2⟩
  case round =>
    obtain ⟨j, hj, rfl, HST, BW⟩ := hrel
    by_cases hlt : j < ks.length
    · have hlt2 : ((j : Int) < (ks.length : Int)) := by omega
      obtain ⟨g, cs, hA, hg, hgl, hkid, hat⟩ := HST.out.at_ hlt
      have hmem := List.getElem_mem hlt
      have hkb := hkid
      generalize hkj : ks[j] = kid at *
      obtain ⟨kk, kn, kov, kks⟩ := kid
      obtain ⟨A3, m3, rfl, hfi3, _⟩ := hkb.row
      obtain ⟨hat1, _⟩ := hat wr (Below.refl _ _)
      have y0 := (hat1 0 (by decide)).1
      have y1 := (hat1 1 (by decide)).1
      have y2 := (hat1 2 (by decide)).1
      have y3 := (hat1 3 (by decide)).1
      simp only [Nat.add_zero, List.getElem?_cons_zero, List.getElem?_cons_succ] at y0 y1 y2 y3
      obtain ⟨w4, hw4⟩ : ∃ w4, w4 = wr.alloc (.cells #[.int .i64 kk, strV kn, strV kov, .slice A3 kks.length m3] 69) := ⟨_, rfl⟩
      have hb4 : Below wr.heap.size wr w4 := by rw [hw4]; exact (Below.refl _ _).alloc (Nat.le_refl _) _
      have hk4 : Blk w4 wr.heap.size [.int .i64 kk, strV kn, strV kov, .slice A3 kks.length m3] 69 := by rw [hw4]; exact Blk.new _ _ _
      have z0 := hk4.cell (i := 0) (by simp)
      have z1 := hk4.cell (i := 1) (by simp)
      have z2 := hk4.cell (i := 2) (by simp)
      have z3 := hk4.cell (i := 3) (by simp)
      simp only [List.getElem_cons_zero, List.getElem_cons_succ] at z0 z1 z2 z3
      have HQ : Hid (Calls Tryz.prog 114 #[.agg #[.int .i64 kk, strV kn, strV kov, .slice A3 kks.length m3]] w4 (CopyX w4 (.mk kk kn kov kks))) := Lib.hid (by
        rw [hw4]
        exact HI.out _ hmem (wr.alloc (.cells #[.int .i64 kk, strV kn, strV kov, .slice A3 kks.length m3] 69)) (fun b => b = g) _ (HCP.out _ hmem) (hkid.below ((Below.refl _ _).alloc (Nat.le_refl _) _)))
      have HAT := Lib.hid hat
      have HB4 := Lib.hid hb4
      have HW4 := Lib.hid hw4
      have HGL := Lib.hid (And.intro hg hgl)
      rw [hw4] at z0 z1 z2 z3
      clear hat hat1 hkid hkb hb4 hk4 hw4 hg hgl hkj hmem
      subst hA
      go_wp2_with (go_at_call 114; rw [← HW4.out]; (refine HQ.out.mono ?_); rintro r w5 ⟨cs', rfl, hx5, hb5⟩; have hx6 := hx5; obtain ⟨A5, m5, rfl, _, _⟩ := hx6.row; clear hx6; have HB5 := Lib.hid (hop HB4.out hb5); have HX5 : Hid (ExAt w5 (fun b => b < W1.heap.size ∨ b = g) _ _) := Lib.hid (ExAt.moved (Spared.refl w5 _) (fun i hi => .inl (by have h1 := HB4.out.size; have h2 := HGL.out.2; have h3 := HKL.out; have h4 := BW.out.size; show i < w4.heap.size; rcases hi with hi | hi <;> omega)) _ _ hx5); obtain ⟨hc5, hs5⟩ := HAT.out w5 HB5.out; have HS5 := Lib.hid (hs5 _ _ _ _ HX5.out); obtain ⟨v0, f0⟩ := hc5 0 (by decide); obtain ⟨v1, f1⟩ := hc5 1 (by decide); obtain ⟨v2, f2⟩ := hc5 2 (by decide); obtain ⟨v3, f3⟩ := hc5 3 (by decide); simp only [Nat.add_zero, List.getElem?_cons_zero, List.getElem?_cons_succ] at v0 v1 v2 v3 f0 f1 f2 f3; clear hx5 hb5 hc5 hs5 y0 y1 y2 y3 z0 z1 z2 z3)
      go_roundw
      case rel => exact ⟨j + 1, by omega, by go_num, HS5, Lib.hid (((((hop BW.out HB5.out).setCell (p := ⟨g, j * 4, none⟩) HGL.out.1 _).setCell (p := ⟨g, j * 4 + 1, none⟩) HGL.out.1 _).setCell (p := ⟨g, j * 4 + 2, none⟩) HGL.out.1 _).setCell (p := ⟨g, j * 4 + 3, none⟩) HGL.out.1 _)⟩
      case measure => simp [intOf]; omega
    · have hlt2 : ¬ ((j : Int) < (ks.length : Int)) := by omega
      have hje : j = ks.length := by omega
      have HRW : Hid (RowAt 4 ExAt wr (fun b => b < W1.heap.size) A' ks) := Lib.hid (CpSt.row (by rw [← hje]; exact HST.out))
      have hN : ∀ w, Below wr.heap.size wr w → (w.cell? ⟨W.heap.size, 0, none⟩ = some (.int .i64 k) ∧ w.cell? ⟨W.heap.size, 1, none⟩ = some (strV n) ∧ w.cell? ⟨W.heap.size, 2, none⟩ = some (strV o)) := fun w hw => by
        have h := HX.out w (hop BW.out hw)
        exact ⟨h.1, h.2.1, h.2.2.1⟩
      have hS0 : (wr.drew.cell? ⟨W.heap.size, 0, none⟩ = some (.int .i64 k) ∧ wr.drew.cell? ⟨W.heap.size, 1, none⟩ = some (strV n) ∧ wr.drew.cell? ⟨W.heap.size, 2, none⟩ = some (strV o)) := hN wr.drew (Below.refl _ _).drew
      have HST2 : Hid (∀ w : World, (w.cell? ⟨W.heap.size, 0, none⟩ = some (.int .i64 k) ∧ w.cell? ⟨W.heap.size, 1, none⟩ = some (strV n) ∧ w.cell? ⟨W.heap.size, 2, none⟩ = some (strV o)) → (((((w.setCell ⟨W.heap.size + 1, 0, none⟩ (.int .i64 k)).setCell ⟨W.heap.size + 1, 1, none⟩ (strV n)).setCell ⟨W.heap.size + 1, 2, none⟩ (strV o)).setCell ⟨W.heap.size + 1, 3, none⟩ (.slice A' ks.length c')).cell? ⟨W.heap.size, 0, none⟩ = some (.int .i64 k) ∧ ((((w.setCell ⟨W.heap.size + 1, 0, none⟩ (.int .i64 k)).setCell ⟨W.heap.size + 1, 1, none⟩ (strV n)).setCell ⟨W.heap.size + 1, 2, none⟩ (strV o)).setCell ⟨W.heap.size + 1, 3, none⟩ (.slice A' ks.length c')).cell? ⟨W.heap.size, 1, none⟩ = some (strV n) ∧ ((((w.setCell ⟨W.heap.size + 1, 0, none⟩ (.int .i64 k)).setCell ⟨W.heap.size + 1, 1, none⟩ (strV n)).setCell ⟨W.heap.size + 1, 2, none⟩ (strV o)).setCell ⟨W.heap.size + 1, 3, none⟩ (.slice A' ks.length c')).cell? ⟨W.heap.size, 2, none⟩ = some (strV o))) := Lib.hid (fun w hw => by
        have hh : ∀ k', k' ≠ W.heap.size + 1 → (((((w.setCell ⟨W.heap.size + 1, 0, none⟩ (.int .i64 k)).setCell ⟨W.heap.size + 1, 1, none⟩ (strV n)).setCell ⟨W.heap.size + 1, 2, none⟩ (strV o)).setCell ⟨W.heap.size + 1, 3, none⟩ (.slice A' ks.length c'))).heap[k']? = w.heap[k']? := fun k' hk => by
          rw [Below.heap_setCell _ _ _ _ hk, Below.heap_setCell _ _ _ _ hk, Below.heap_setCell _ _ _ _ hk, Below.heap_setCell _ _ _ _ hk]
        have hne : W.heap.size ≠ W.heap.size + 1 := Nat.ne_of_lt (Nat.lt_succ_self _)
        exact ⟨(World.cell?_of_block (hh _ hne)).trans hw.1, (World.cell?_of_block (hh _ hne)).trans hw.2.1, (World.cell?_of_block (hh _ hne)).trans hw.2.2⟩)
      have HN := Lib.hid hN
      have HBD := Lib.hid (Below.refl wr.heap.size wr).drew
      have HKZ : Hid (∀ w, Below wr.heap.size wr w → Blk w (W.heap.size + 1) [.int .i64 0, .string ⟨#[]⟩, .string ⟨#[]⟩, .slice none 0 0] 69) := Lib.hid (fun w hw => HKE.out.below (hop BW.out hw) HKE.out.lt)
      clear hN hje hj HST HCS HB2
      go_wp2_with fail
      go_region_held_law (fun w => (w.cell? ⟨W.heap.size, 0, none⟩ = some (.int .i64 k) ∧ w.cell? ⟨W.heap.size, 1, none⟩ = some (strV n) ∧ w.cell? ⟨W.heap.size, 2, none⟩ = some (strV o)))
        (first | with_reducible assumption | (apply HST2.out; assumption))
        (first
          | (go_at_call 86; (with_reducible refine (HCN.out _).mono ?_); rintro r w7 ⟨rfl, hb7⟩; have HB7 := Lib.hid (undrew hb7); have hS7 := HN.out w7 HB7.out; clear hb7)
          | (go_at_call 86; (with_reducible refine (HCO.out _).mono ?_); rintro r w8 ⟨rfl, hb8⟩; have HB8 := Lib.hid (hop HB7.out hb8); have hS8 := HN.out w8 HB8.out; have HK8 := Lib.hid (HKZ.out w8 HB8.out); have v0 := HK8.out.cell (i := 0) (by simp); have v1 := HK8.out.cell (i := 1) (by simp); have v2 := HK8.out.cell (i := 2) (by simp); have v3 := HK8.out.cell (i := 3) (by simp); have f0 := HK8.out.free 0; have f1 := HK8.out.free 1; have f2 := HK8.out.free 2; have f3 := HK8.out.free 3; simp only [List.getElem_cons_zero, List.getElem_cons_succ] at v0 v1 v2 v3; clear hb8))
      go_wp2_with fail
      refine bodyPost_ret (v := .agg #[.int .i64 k, strV n, strV o, .slice A' ks.length c']) (by simp [results, Tryz.results114, go_sem, v0, v1, v2, v3]) rfl ?_
      have hb8 := hop BW.out HB8.out
      have hsp : Spared wr (((((w8.setCell ⟨W.heap.size + 1, 0, none⟩ (.int .i64 k)).setCell ⟨W.heap.size + 1, 1, none⟩ (strV n)).setCell ⟨W.heap.size + 1, 2, none⟩ (strV o)).setCell ⟨W.heap.size + 1, 3, none⟩ (.slice A' ks.length c'))) (fun b => b < W1.heap.size) := by
        have hF : (fun b => b < W1.heap.size) (W.heap.size + 1) := HKL.out
        exact (((((Spared.of_below HB8.out (fun b => b < W1.heap.size)).setCell hF _ _).setCell hF _ _).setCell hF _ _).setCell hF _ _)
      have hG : ∀ i, i < W.heap.size → i < W1.heap.size ∨ wr.heap.size ≤ i := fun i hi => .inl (by have := HB0.out.size; omega)
      refine ⟨_, rfl, ExAt.of_row HFI.out (HRW.out.moved hsp hG (fun _ _ _ h => ExAt.moved hsp hG _ _ h)), ?_⟩
      exact ((((HB0.out.trans (hb8.mono HB0.out.size)).setCell (p := ⟨W.heap.size + 1, 0, none⟩) (Nat.le_succ _) _).setCell (p := ⟨W.heap.size + 1, 1, none⟩) (Nat.le_succ _) _).setCell (p := ⟨W.heap.size + 1, 2, none⟩) (Nat.le_succ _) _).setCell (p := ⟨W.heap.size + 1, 3, none⟩) (Nat.le_succ _) _
end Go.Proofs.YtehabjiacgibpaaGreat
