/-
  What Write of a state comes to: the input is longer by what was written, and no other block has turned. Conditions: the bytes lie in another block than the state; the input's length fits; the program's tables lie as their initialisers lay them.
-/
import Derived.Test.YtmmfnfndepijlaaDoorStep
import Derived.Deep.RegionHeld3
namespace Go.Proofs.YtmmfnfndepijlaaDoor
open Go.RowKit

def lenOf : Value → Nat
  | .slice _ n _ => n
  | _ => 0
/-- what holds ahead of each round -/
def WR (w : World) (g : Nat) (q : List UInt8) (s : Value) (wr : World) : Prop :=
  ∃ p r A c, p ++ r = q ∧ s = .slice A r.length c ∧ r.length ≤ c ∧ Apart wr g A r ∧ StAt wr g p ∧ w.grownBy wr (some g)

theorem slice_rest (g u : Nat) (hu : u < 64) (W : World) : (Instr.sliceAt 31 (.pointer (some ⟨g, 8, none⟩)) (some (.int .i64 (u : Int))) none none).run Tryd.prog W = .ok (.slice (some ⟨g, 8 + u, none⟩) (64 - u) (64 - u)) W := by
  have e1 : Tryd.prog.arrayLen 31 = 64 := by kernel_rfl
  have e2 : Tryd.prog.elem 31 = 5 := by kernel_rfl
  obtain ⟨i, hi, hz⟩ := Option.map_eq_some_iff.1 info5
  simp only [Prod.mk.injEq] at hz
  rw [run_sliceAt_array_l W 31 ⟨g, 8, none⟩ (by kernel_rfl) .i64 (u : Int) (by omega) (by rw [e1]; omega), e1, e2]
  simp [sizeOf, typeInfo, hi, hz.2.1, slicedAt, add_plain]
  omega
theorem slice_tail (A : Option Addr) (n c m : Nat) (hm : m ≤ n) (W : World) : (Instr.slice 22 (.slice A n c) (some (.int .i64 (m : Int))) none none).run Tryd.prog W = .ok (.slice (if c = m then A else A.map (·.add (m * 1))) (n - m) (c - m)) W := by
  have e2 : Tryd.prog.elem 22 = 5 := by kernel_rfl
  obtain ⟨i, hi, hz⟩ := Option.map_eq_some_iff.1 info5
  simp only [Prod.mk.injEq] at hz
  rw [run_slice_l W 22 A n c (by kernel_rfl) .i64 (m : Int) (by omega) (by omega), e2]
  simp [sizeOf, typeInfo, hi, hz.2.1, sliced]
theorem size5 : (Tryd.prog.info? 5).map (·.size) = some 1 := by kernel_rfl
theorem st_len {w : World} {g : Nat} {ws : List Nat} {rs : List UInt8} {n : Nat} {t : TypeId} (hb : Blk w g (stCells ws rs n) t) (h1 : ws.length = 8) (h2 : rs.length = 64) : w.cell? ⟨g, 72, none⟩ = some (.int .i64 (n : Int)) := by
  rw [hb.cell (by rw [stCells_length]; omega)]
  simp [stCells, h1, h2]
/-- the copy into the state's room -/
theorem wpList_copy_state {P : Program} {w : World} {ops : Array Oper} {rest : List Oper} {o : Oper} {a : Act} {Q : Exit → Act → World → Prop} (hgd : o.guard = none) (d s : Operand) (dT : TypeId)
    (ho : o.op = .call { callee := .builtin .copy, args := #[d, s], argTypes := #[dT, dT] }) (elem : TypeId) (hu : P.underlying dT = some (.slice elem)) (hsz : (P.info? elem).map (·.size) = some 1)
    (g off dLen dCap : Nat) (A : Option Addr) (r : List UInt8) (sCap : Nat) (hd : a.eval d = .slice (some ⟨g, off, none⟩) dLen dCap) (hs : a.eval s = .slice A r.length sCap)
    (cur : List Value) (t : TypeId) (hg : Blk w g cur t) (hr : Apart w g A r) (h0 : 0 < r.length) (m : Nat) (hm : m = min r.length dLen) (hfit : off + m ≤ cur.length)
    (h : ∀ w', Blk w' g (splice cur off ((r.take m).map bv)) t → w.grownBy w' (some g) → wpList P ops Q rest (a.put o.dst (.int .i64 (m : Int))) w') : wpList P ops Q (o :: rest) a w := by
  rcases hr with rfl | ⟨b, off', rfl, hb, hne, hc⟩
  · simp at h0
  · have hl : ((r.take m).map bv).length = m := by simp; omega
    refine wpList_copy_own hgd d s dT dT ho elem hu hsz g off dLen dCap ⟨b, off', none⟩ r.length sCap hd hs cur.toArray t hg ((r.take m).map bv) (by rw [hl, hm]) (fun j v hv => ?_) (by rw [hl]; simpa using hfit) (fun v hv => by obtain ⟨x, _, rfl⟩ := List.mem_map.1 hv; rfl) ?_
    · obtain ⟨hj, hju⟩ := List.getElem?_eq_some_iff.1 hv
      rw [hl] at hj
      rw [add_plain, hc j (by omega), ← hju, List.getElem_map, List.getElem_take]
      rfl
    · rw [hl]
      refine h _ ?_ (only_setRow (World.grownBy.refl w _) _)
      have := setRow_heap w g _ (splice cur off ((r.take m).map bv)).toArray t _ hg
      unfold splice at this ⊢
      rw [hl] at this ⊢
      exact this
theorem wpList_copy_rest {P : Program} {w : World} {ops : Array Oper} {rest : List Oper} {o : Oper} {a : Act} {Q : Exit → Act → World → Prop} (hgd : o.guard = none) (d s : Operand) (dT : TypeId)
    (ho : o.op = .call { callee := .builtin .copy, args := #[d, s], argTypes := #[dT, dT] }) (elem : TypeId) (hu : P.underlying dT = some (.slice elem)) (hsz : (P.info? elem).map (·.size) = some 1)
    (g u : Nat) (A : Option Addr) (r : List UInt8) (sCap : Nat) (hd : a.eval d = .slice (some ⟨g, 8 + u, none⟩) (64 - u) (64 - u)) (hs : a.eval s = .slice A r.length sCap)
    (ws : List Nat) (rs : List UInt8) (n : Nat) (t : TypeId) (hg : Blk w g (stCells ws rs n) t) (h1 : ws.length = 8) (h2 : rs.length = 64) (hr : Apart w g A r) (h0 : 0 < r.length) (m : Nat) (hm : m = min r.length (64 - u)) (hu64 : u < 64)
    (h : ∀ w', Hid (Blk w' g (stCells ws (splice rs u (r.take m)) n) t) → Hid (w.grownBy w' (some g)) → w'.cell? ⟨g, 72, none⟩ = some (.int .i64 (n : Int)) → w'.frozen? ⟨g, 72, none⟩ = false → wpList P ops Q rest (a.put o.dst (.int .i64 (m : Int))) w') : wpList P ops Q (o :: rest) a w := by
  have hl : (r.take m).length = m := by simp; omega
  refine wpList_copy_state hgd d s dT ho elem hu hsz g (8 + u) (64 - u) (64 - u) A r sCap hd hs _ t hg hr h0 m hm (by rw [stCells_length]; omega) (fun w' hb hgr => ?_)
  rw [splice_cells ws rs (r.take m) n u h1 (by omega)] at hb
  exact h w' hb hgr (st_len hb h1 (by rw [length_splice _ _ _ (by omega)]; exact h2)) (hb.free 72)
theorem range_below {W W' : World} {g o : Nat} {cs : List Value} (h : W.rangeAt g o cs) (hb : Below W.heap.size W W') : W'.rangeAt g o cs := fun j v hv =>
  (hb.cell (p := ⟨g, o + j, none⟩) (World.block_lt_of_cell? W _ (h j v hv))).trans (h j v hv)
theorem there_below {W W' : World} {g o n : Nat} (h : W.there g o n) (hb : Below W.heap.size W W') : W'.there g o n := fun j hj => by
  obtain ⟨h1, h2⟩ := h j hj
  obtain ⟨u, hu⟩ := Option.isSome_iff_exists.1 h1
  have hlt := World.block_lt_of_cell? W _ hu
  exact ⟨by rw [hb.cell (p := ⟨g, o + j, none⟩) hlt]; exact h1, by rw [hb.frozen (p := ⟨g, o + j, none⟩) hlt]; exact h2⟩
theorem store_there {P : Program} {g : Nat} {vs : List Value} (h1 : ∀ v ∈ vs, v.oneCell' = true) {n : Nat} (hn : vs.length = n) (W : World) (ht : W.there g 0 n) : (storeCells ⟨g, 0, none⟩ vs).run P W = .ok () (W.setCells g 0 vs) := by
  subst hn
  have := run_storeCells_cells (P := P) g 0 vs 0 W (fun j hj => by simpa using (ht j hj).1) (fun j hj => by simpa using (ht j hj).2) h1
  simpa using this
theorem range_stored {W : World} {g : Nat} {vs cs : List Value} (h : W.rangeAt g 8 cs) (hl : vs.length = 8) : (W.setCells g 0 vs).rangeAt g 8 cs :=
  World.rangeAt_setCells_apart h _ _ _ (Or.inr (Or.inr (by rw [hl]; decide)))
theorem Blk.there {w : World} {g : Nat} {L : List Value} {t : TypeId} (h : Blk w g L t) (o n : Nat) (hn : o + n ≤ L.length) : w.there g o n := fun j hj =>
  ⟨by rw [h.cell (by omega : o + j < L.length)]; rfl, h.free _⟩
theorem wr_part {w wr w1 : World} {g : Nat} {q p r : List UInt8} {A2 : Option Addr} {c' u m : Nat} {ws : List Nat} {rs : List UInt8} (hpr : p ++ r = q) (hrc : r.length ≤ c') (hdr : Apart wr g A2 (r.drop m)) (hi : StIs ws rs p)
    (hb1 : Blk w1 g (stCells ws (splice rs u (r.take m)) p.length) 47) (hg1 : wr.grownBy w1 (some g)) (hgr : w.grownBy wr (some g)) (hu : u = p.length % 64) (hm : m = min r.length (64 - u)) (hnf : ¬ u + m = 64) :
    WR w g q (.slice A2 (r.length - m) (c' - m)) (w1.setCell ⟨g, 72, none⟩ (.int .i64 ((p.length : Int) + (m : Int)))) := by
  have hf : fits p r = m := by unfold fits; omega
  subst hu
  have hs := step_part (ws := ws) (rs := rs) (p := p) (r := r) hi (by rw [hf]; omega)
  rw [hf] at hs
  have hlm : (r.take m).length = m := by rw [List.length_take]; omega
  have hst := hb1.set 72 (.int .i64 (((p ++ r.take m).length : Nat) : Int))
  rw [set_length _ _ _ _ hs.1 hs.2.1] at hst
  have e : ((p.length : Int) + (m : Int)) = (((p ++ r.take m).length : Nat) : Int) := by rw [List.length_append, hlm]; omega
  rw [e]
  refine ⟨p ++ r.take m, r.drop m, A2, c' - m, by rw [List.append_assoc, List.take_append_drop]; exact hpr, by rw [List.length_drop], by rw [List.length_drop]; omega, hdr.grown (only_setCell hg1 72 _), ⟨_, _, hst, hs⟩, only_trans hgr (only_setCell hg1 72 _)⟩
theorem stIs_splice {ws : List Nat} {rs p x : List UInt8} {u : Nat} (h : StIs ws rs p) (hu : u = p.length % 64) (hx : u + x.length ≤ 64) : StIs ws (splice rs u x) p := by
  subst hu
  obtain ⟨h1, h2, h3, h4⟩ := h
  refine ⟨h1, by rw [length_splice _ _ _ (by omega)]; exact h2, h3, ?_⟩
  rw [← h4]
  unfold splice
  rw [List.take_append_of_le_length (by simp; omega), List.take_take, Nat.min_self]
theorem wr_full {w wr w1 w2 w3 : World} {g : Nat} {q p r : List UInt8} {A2 : Option Addr} {c' u m : Nat} {ws : List Nat} {rs : List UInt8} (hpr : p ++ r = q) (hrc : r.length ≤ c') (hdr : Apart wr g A2 (r.drop m)) (hi : StIs ws rs p)
    (hb1 : Blk w1 g (stCells ws (splice rs u (r.take m)) p.length) 47) (hg1 : wr.grownBy w1 (some g)) (hgr : w.grownBy wr (some g)) (hu : u = p.length % 64) (hm : m = min r.length (64 - u)) (hfl : u + m = 64)
    (hb2 : Below w1.heap.size w1 w2) (hb3 : Below w2.heap.size w2 w3) :
    WR w g q (.slice A2 (r.length - m) (c' - m)) ((w3.setCells g 0 ((mixL (hashed p (p.length / 64)) (splice rs u (r.take m))).map wv)).setCell ⟨g, 72, none⟩ (.int .i64 ((p.length : Int) + (m : Int)))) := by
  have hf : fits p r = m := by unfold fits; omega
  subst hu
  obtain ⟨_, h64, hs⟩ := step_full (ws := ws) (rs := rs) (p := p) (r := r) hi (by rw [hf]; omega)
  rw [hf] at hs h64
  have hlm : (r.take m).length = m := by rw [List.length_take]; omega
  have hb13 := hop hb2 hb3
  have hbk := hb1.below hb13 hb1.lt
  have hbs := Blk.setCells ((mixL (hashed p (p.length / 64)) (splice rs (p.length % 64) (r.take m))).map wv) 0 _ _ hbk (by rw [List.length_map, hs.1, stCells_length, hi.1]; omega)
  rw [splice_words _ _ _ _ (by rw [hs.1, hi.1])] at hbs
  have hst := hbs.set 72 (.int .i64 (((p ++ r.take m).length : Nat) : Int))
  rw [set_length _ _ _ _ hs.1 hs.2.1] at hst
  have hg3 : wr.grownBy w3 (some g) := only_below hg1 hb13
  have e : ((p.length : Int) + (m : Int)) = (((p ++ r.take m).length : Nat) : Int) := by rw [List.length_append, hlm]; omega
  rw [e]
  have hgf := only_setCell (only_setCells ((mixL (hashed p (p.length / 64)) (splice rs (p.length % 64) (r.take m))).map wv) 0 w3 hg3) 72 (.int .i64 (((p ++ r.take m).length : Nat) : Int))
  exact ⟨p ++ r.take m, r.drop m, A2, c' - m, by rw [List.append_assoc, List.take_append_drop]; exact hpr, by rw [List.length_drop], by rw [List.length_drop]; omega, hdr.grown hgf, ⟨_, _, hst, hs⟩, only_trans hgr hgf⟩

set_option maxRecDepth 100000 in
set_option maxHeartbeats 1000000 in
theorem write_any (w : World) (g : Nat) (l : List UInt8) (A : Option Addr) (b : List UInt8) (c : Nat) (h : StAt w g l) (hs : Apart w g A b) (hc : b.length ≤ c) (hn : l.length + b.length ≤ 140737488355328) (ht : Tabs w) (hg2 : 2 ≤ g) :
    Calls Tryd.prog 20 #[.pointer (some ⟨g, 0, none⟩), .slice A b.length c] w fun e w' => e = .returned (.tuple #[]) ∧ StAt w' g (l ++ b) ∧ w.grownBy w' (some g) := by
  have H0 := Lib.hid h
  have HS := Lib.hid hs
  have HT := Lib.hid ht
  clear h hs ht
  obtain ⟨q, hq⟩ : ∃ q, q = l ++ b := ⟨_, rfl⟩
  rw [← hq]
  have hql : q.length ≤ 140737488355328 := by rw [hq, List.length_append]; exact hn
  have HQ := Lib.hid hq
  clear hq
  go_enter Tryd.func20, Tryd.ntmps20
  go_wp2
  go_loopw [1] (fun s wr => WR w g q s wr) (fun s _ => lenOf s)
  case atStart => exact ⟨l, b, A, c, HQ.out.symm, rfl, hc, HS.out, H0.out, World.grownBy.refl w _⟩
  case round =>
    clear H0 HS HQ
    obtain ⟨p, r, A', c', hpr, rfl, hrc, hap, hst, hgr⟩ := hrel
    have HPR := Lib.hid hpr
    have HAP := Lib.hid hap
    have HGR := Lib.hid hgr
    have hlp : p.length + r.length ≤ 140737488355328 := by have := hql; rw [← hpr, List.length_append] at this; exact this
    clear hpr hap hgr
    by_cases hr : 0 < r.length
    · obtain ⟨ws, rs, hb, hi⟩ := hst
      have c72 := st_len hb hi.1 hi.2.1
      have HB := Lib.hid hb
      have HI := Lib.hid hi
      clear hb hi
      obtain ⟨u, hu⟩ : ∃ u : Nat, u = p.length % 64 := ⟨_, rfl⟩
      have hu64 : u < 64 := by omega
      have hui : (p.length : Int) % 64 = (u : Int) := by omega
      have HU := Lib.hid hu
      clear hu
      go_wp2
      rw [hui]
      have hsl := slice_rest g u hu64
      obtain ⟨m, hm⟩ : ∃ m, m = min r.length (64 - u) := ⟨_, rfl⟩
      have hm1 : m ≤ r.length := by omega
      have hm2 : u + m ≤ 64 := by omega
      have hm0 : 0 < m := by omega
      have HM := Lib.hid hm
      clear hm
      have hst := slice_tail A' r.length c' m hm1
      have HDR := Lib.hid (HAP.out.drop m c' hrc)
      generalize (if c' = m then A' else A'.map (·.add (m * 1))) = A2 at hst HDR
      by_cases hfull : u + m = 64
      · have t1 : ((u : Int) + (m : Int) == 64) = true := by rw [beq_iff_eq]; omega
        clear hui
        rw [hsl]
        go_simp
        have ua := Tryd.underlying31
        go_wp2_with ((refine wpList_copy_rest rfl (.tmp 20) (.tmp 21) 22 rfl 5 Tryd.underlying22 size5 g u A' r c' rfl rfl ws rs p.length 47 HB.out HI.out.1 HI.out.2.1 HAP.out hr m HM.out hu64 ?_; intro w1 HB1 HG1 c1 f1))
        have HX : Hid (StIs ws (splice rs u (r.take m)) p) := stIs_splice HI.out HU.out (by rw [List.length_take]; omega)
        have HS1 : Hid (StAt w1.drew g p) := ⟨_, _, HB1.out.drew, HX.out⟩
        have HT1 : Hid (Tabs w1.drew) := HT.out.grown (only_drew (only_trans HGR.out HG1.out)) hg2
        have HRX := Lib.hid (st_rest HB1.out HX.out.1)
        have HTH := Lib.hid (HB1.out.there 0 8 (by rw [stCells_length, HX.out.1, HX.out.2.1]; omega))
        have HFIN := fun (w2 w3 : World) (h2 : Below w1.heap.size w1 w2) (h3 : Below w2.heap.size w2 w3) => wr_full HPR.out hrc HDR.out HI.out HB1.out HG1.out HGR.out HU.out HM.out hfull h2 h3
        have HFIN' := Lib.hid HFIN
        clear HFIN
        have HX64 := Lib.hid HX.out.2.1
        generalize splice rs u (r.take m) = X at *
        have ui := Tryd.underlying31
        have u8 := Tryd.underlying45
        have ii : (Tryd.prog.info? 31).map (·.size) = some (X.map bv).length := by rw [info44, List.length_map, HX64.out]
        have oo := bytes_one X
        have i8 : (Tryd.prog.info? 45).map (·.size) = some ((mixL (hashed p (p.length / 64)) X).map wv).length := by rw [info41, List.length_map, length_mixL _ _ (hashed_ok _ _).1]
        have l8 : ((mixL (hashed p (p.length / 64)) X).map wv).length = 8 := by rw [List.length_map, length_mixL _ _ (hashed_ok _ _).1]
        have o8 : ∀ v ∈ (mixL (hashed p (p.length / 64)) X).map wv, v.oneCell' = true := fun v hv => by obtain ⟨n, _, rfl⟩ := List.mem_map.1 hv; rfl
        have hsto := fun (W : World) (h : W.there g 0 8) => store_there (P := Tryd.prog) o8 l8 W h
        have rx : w1.drew.rangeAt g 8 (X.map bv) := HRX.out
        have th : w1.drew.there g 0 8 := HTH.out
        go_region_held3 (fun w' => w'.rangeAt g 8 (X.map bv) ∧ w'.there g 0 8) (first | (go_split_ands; constructor <;> (first | assumption | (apply range_below <;> assumption) | (apply there_below <;> assumption) | (apply range_stored <;> assumption) | (apply World.there_setCells; assumption))))
          (first
            | (go_at_call 26; refine (hashed_any _ g p HS1.out HT1.out).mono ?_; rintro e w2 ⟨rfl, hb2⟩)
            | (go_at_call 25; refine (mix_any _ X _ (hashed_ok _ _).1 (hashed_ok _ _).2 HX64.out (HT1.out.below (by assumption))).mono ?_; rintro e w3 ⟨rfl, hb3⟩))
        have HB2 := Lib.hid (undrew hb2)
        have HB3 := Lib.hid hb3
        have e3 := (HFIN'.out w2 w3 (undrew hb2) hb3)
        have HE3 := Lib.hid e3
        clear e3
        have HBK := Lib.hid (HB1.out.below (hop (undrew hb2) hb3) HB1.out.lt)
        generalize hY : (mixL (hashed p (p.length / 64)) X).map wv = Y at *
        have c3 : (w3.setCells g 0 Y).cell? ⟨g, 72, none⟩ = some (.int .i64 (p.length : Int)) := by
          rw [World.cell?_setCells_out g Y 0 w3 ⟨g, 72, none⟩ (fun _ _ => Or.inr (by show 0 + Y.length ≤ 72; omega))]
          exact st_len HBK.out HX.out.1 HX.out.2.1
        have f3 : (w3.setCells g 0 Y).frozen? ⟨g, 72, none⟩ = false := by
          rw [World.frozen?_setCells]; exact HBK.out.free 72
        clear rx th hsto o8 i8 oo ii hb2 hb3 c1 f1
        go_wp2
        go_roundw
        case rel => exact HE3.out
        case measure => show r.length - m < r.length; omega
      · have t1 : ((u : Int) + (m : Int) == 64) = false := by rw [beq_eq_false_iff_ne]; omega
        clear hui
        rw [hsl]
        go_simp
        go_wp2_with ((refine wpList_copy_rest rfl (.tmp 20) (.tmp 21) 22 rfl 5 Tryd.underlying22 size5 g u A' r c' rfl rfl ws rs p.length 47 HB.out HI.out.1 HI.out.2.1 HAP.out hr m HM.out hu64 ?_; intro w1 HB1 HG1 c1 f1))
        go_roundw
        case rel => exact wr_part HPR.out hrc HDR.out HI.out HB1.out HG1.out HGR.out HU.out HM.out hfull
        case measure => show r.length - m < r.length; omega
    · obtain rfl : r = [] := List.eq_nil_of_length_eq_zero (by omega)
      rw [List.append_nil] at HPR
      have HST := Lib.hid hst
      clear hst hr
      go_wp2
      go_end0
      exact ⟨rfl, by rw [← HPR.out]; exact HST.out, HGR.out⟩
end Go.Proofs.YtmmfnfndepijlaaDoor
