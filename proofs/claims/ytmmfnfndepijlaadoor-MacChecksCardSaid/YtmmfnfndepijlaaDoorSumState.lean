/-
  What Sum of a state, and Sum of bytes, come to: the hash of the input; what was there is as it was. Conditions: the input's length fits; the program's tables lie as their initialisers lay them.
-/
import Derived.Test.YtmmfnfndepijlaaDoorWrite
namespace Go.Proofs.YtmmfnfndepijlaaDoor
open Go.RowKit

theorem make32 (w : World) : (Instr.makeSlice 22 (.int .i64 0) (.int .i64 32)).run Tryd.prog w = .ok (.slice (some ⟨w.heap.size, 0, none⟩) 0 32) (w.alloc (.cells (madeCells #[.int .u8 0] 32) 5)) := by kernel_rfl
theorem index_ws (ws : List Nat) (h : ws.length = 8) (k : Nat) (hk : k < 8) (w : World) : (Instr.index 45 (.agg (ws.map wv).toArray) (.int .i64 (k : Int))).run Tryd.prog w = .ok (.int .u32 (ws.getD k 0 : Nat)) w := by
  obtain ⟨a, b, c, d, e, f, g, x, rfl⟩ := eight ws h
  exact index8 a b c d e f g x k hk w
theorem outL_append (a b : List Nat) : outL (a ++ b) = outL a ++ outL b := by
  induction a with
  | nil => rfl
  | cons x r ih => simp [outL, ih]
theorem outL_next (ws : List Nat) (h : ws.length = 8) (k : Nat) (hk : k < 8) : outL (ws.take (k + 1)) = outL (ws.take k) ++ be4 (ws.getD k 0) := by
  rw [List.take_succ_eq_append_getElem (by omega), outL_append, List.getD_eq_getElem?_getD, List.getElem?_eq_getElem (by omega)]
  simp [outL]

/-- several bytes, within the room -/
theorem wpList_append_fitN {P : Program} (w : World) {ops : Array Oper} {rest : List Oper} {o : Oper} {a : Act} {Q : Exit → Act → World → Prop} (hgd : o.guard = none) (s x : Operand) (t : TypeId)
    (ho : o.op = .call { callee := .builtin .append, args := #[s, x], argTypes := #[t, t] })
    (e : TypeId) (i : TypeInfo) (ht : P.underlying t = some (.slice e)) (hi : P.info? e = some i) (hsize : i.size = 1)
    (w0 : World) (d : List UInt8) (n cap : Nat) (ys : List Int) (hs : a.eval s = .slice (some ⟨w0.heap.size, 0, none⟩) n cap) (hx : a.eval x = .slice (some ⟨w.heap.size, 0, none⟩) ys.length ys.length)
    (H : Room e w0 d n cap w) (h0 : ∀ y ∈ ys, 0 ≤ y ∧ y < 256) (hcap : n + ys.length ≤ cap)
    (h : ∀ w', Room e w0 (d ++ ys.map fun y => UInt8.ofNat y.toNat) (n + ys.length) cap w' → wpList P ops Q rest (a.put o.dst (.slice (some ⟨w0.heap.size, 0, none⟩) (n + ys.length) cap)) w') :
    wpList P ops Q (o :: rest) a (w.alloc (.cells (ys.map (Value.int .u8)).toArray e)) := by
  refine wpList_plain hgd fun K hK => ?_
  obtain ⟨w', hrun, h3⟩ := run_append_fit (P := P) w t o.type e i ht hi hsize w0 d n cap H ys h0 hcap
  unfold Oper.wp execOp
  simp only [ho, resolve, invoke, builtin, Sem.run_bind, Sem.run_pure, Result.andThen_ok, List.map_toArray, List.map_cons, List.map_nil, hs, hx, hrun]
  exact hK _ _ (h w' h3)

def SumR (W0 : World) (ws : List Nat) (s i : Value) (wr : World) : Prop :=
  ∃ k : Nat, k ≤ 8 ∧ i = .int .i64 k ∧ s = .slice (some ⟨W0.heap.size, 0, none⟩) (4 * k) 32 ∧ Room 5 W0 (outL (ws.take k)) (4 * k) 32 wr

theorem write_len (w : World) (g : Nat) (l : List UInt8) (A : Option Addr) (b : List UInt8) (n c : Nat) (hbn : b.length = n) (h : StAt w g l) (hs : Apart w g A b) (hc : n ≤ c) (hn : l.length + n ≤ 140737488355328) (ht : Tabs w) (hg2 : 2 ≤ g) :
    Calls Tryd.prog 20 #[.pointer (some ⟨g, 0, none⟩), .slice A n c] w fun e w' => e = .returned (.tuple #[]) ∧ StAt w' g (l ++ b) ∧ w.grownBy w' (some g) := by
  subst hbn
  exact write_any w g l A b c h hs hc hn ht hg2
theorem below_only {w w1 w2 : World} {g : Nat} (h : Below w.heap.size w w1) (hg : w1.grownBy w2 (some g)) (hge : w.heap.size ≤ g) : Below w.heap.size w w2 :=
  ⟨hg.os.trans h.os, hg.tape.trans h.tape, hg.output.trans h.output, Nat.le_trans h.size hg.size, fun k hk => (hg.block k (Nat.lt_of_lt_of_le hk h.size) (fun e => by injection e with e; omega)).trans (h.block k hk)⟩
theorem apart_new {w w' : World} {g : Nat} {l : List UInt8} (h : Seen w' (some ⟨w.heap.size, 0, none⟩) l) (hg : g < w.heap.size) : Apart w' g (some ⟨w.heap.size, 0, none⟩) l :=
  Apart.of_seen h (fun b off e => by injection e with e; injection e with e _ _; omega)
/-- the state's words behind the padding -/
theorem words_end {w : World} {g : Nat} {l : List UInt8} (h : StAt w g (l ++ padL l.length)) : ∃ ws, w.rangeAt g 0 (ws.map wv) ∧ ws.length = 8 ∧ (∀ x ∈ ws, x < 4294967296) ∧ outL ws = shaL l := by
  obtain ⟨ws, rs, hb, h1, h2, h3, h4⟩ := h
  have := padded_whole l
  have hw := h3 this.2
  refine ⟨ws, st_words hb, h1, ?_, ?_⟩
  · rw [hw]; exact (hashed_ok _ _).2
  · rw [hw]; rfl

theorem four_small (x : Nat) (hx : x < 4294967296) : ∀ y ∈ [(x : Int) / 16777216, (x : Int) / 65536 % 256, (x : Int) / 256 % 256, (x : Int) % 256], 0 ≤ y ∧ y < 256 := by
  intro y hy
  simp only [List.mem_cons, List.not_mem_nil, or_false] at hy
  rcases hy with rfl | rfl | rfl | rfl <;> omega
theorem byte_of (a : Nat) (b : Int) (h : b % 256 = (a : Int) % 256) (h0 : 0 ≤ b) : UInt8.ofNat b.toNat = UInt8.ofNat a := by
  apply UInt8.toNat_inj.1
  rw [UInt8.toNat_ofNat', UInt8.toNat_ofNat']
  omega
theorem four_bytes (x : Nat) : ([(x : Int) / 16777216, (x : Int) / 65536 % 256, (x : Int) / 256 % 256, (x : Int) % 256].map fun y => UInt8.ofNat y.toNat) = be4 x := by
  simp only [List.map_cons, List.map_nil, be4]
  rw [byte_of (x / 16777216) _ (by omega) (by omega), byte_of (x / 65536) _ (by omega) (by omega), byte_of (x / 256) _ (by omega) (by omega), byte_of x _ (by omega) (by omega)]
theorem room_start (w : World) : Room 5 w [] 0 32 (w.alloc (.cells (madeCells #[.int .u8 0] 32) 5)) :=
  ⟨World.ownsRow_made w _ 32 (Nat.le_refl _) (by unfold maxLen; omega) (by rw [size_madeCells, Nat.mul_one]), (Below.refl _ _).alloc (Nat.le_refl _) _⟩

set_option maxRecDepth 100000 in
set_option maxHeartbeats 1000000 in
theorem stateSum_any (w : World) (g : Nat) (l : List UInt8) (h : StAt w g l) (ht : Tabs w) (hn : l.length ≤ 70368744177664) :
    Calls Tryd.prog 21 #[.pointer (some ⟨g, 0, none⟩)] w fun e w' => ∃ A, e = .returned (.slice A 32 32) ∧ Seen w' A (shaL l) ∧ Below w.heap.size w w' := by
  have HS := Lib.hid h
  have HT := Lib.hid ht
  clear h ht
  go_enter Tryd.func21, Tryd.ntmps21
  go_wp2_with fail
  refine (copy_any _ g l HS.out).mono ?_
  rintro e w1 ⟨rfl, hst1, hb1⟩
  obtain ⟨ws, rs, hbk, hi⟩ := hst1
  have c72 := st_len hbk hi.1 hi.2.1
  have HST1 : Hid (StAt w1 w.heap.size l) := ⟨ws, rs, hbk, hi⟩
  have HB1 := Lib.hid hb1
  clear hbk hi hb1
  go_wp2_with fail
  refine (padding_any l.length _ (by omega)).mono ?_
  rintro e w2 ⟨rfl, hs2, hb2⟩
  have HS2 := Lib.hid hs2
  have HB2 := Lib.hid hb2
  clear hs2 hb2 c72
  go_wp2_with fail
  have hg2 : 2 ≤ w.heap.size := HT.out.2.2
  have hz : zerosN l.length < 64 := by unfold zerosN; omega
  refine (write_len _ w.heap.size l _ (padL l.length) _ _ (length_padL _) (HST1.out.below HB2.out) (apart_new HS2.out HST1.out.lt) (Nat.le_refl _) (by omega) (HT.out.below (hop HB1.out HB2.out)) hg2).mono ?_
  rintro e w3 ⟨rfl, hst3, hg3⟩
  obtain ⟨ws, hrg, hws, hwl, hout⟩ := words_end hst3
  have HB3 := Lib.hid (below_only (hop HB1.out HB2.out) hg3 (Nat.le_refl _))
  have HG := Lib.hid hst3.lt
  have HR := Lib.hid hrg
  have HW := Lib.hid hws
  have HWL := Lib.hid hwl
  have HO := Lib.hid hout
  clear hst3 hg3 hrg hws hwl hout HST1 HB1 HS2 HB2 hz
  have mk := make32
  have HRR : Hid ((w3.alloc (.cells (madeCells #[.int .u8 0] 32) 5)).rangeAt w.heap.size 0 (ws.map wv)) := World.rangeAt_alloc HR.out _
  go_wp2_with (refine wpList_load_mid rfl 45 (.tmp 19) rfl w.heap.size 0 rfl (ws.map wv) _ HRR.out Tryd.underlying45 rfl (by rw [info41]; simp [HW.out]) ?_)
  obtain ⟨i0, hi, hz0, hz1, hz2⟩ := info_parts info5
  go_loopw [4, 21] (fun s i wr => SumR w3 ws s i wr) (fun _ i _ => 8 - (intOf i).toNat)
  case atStart => exact ⟨0, by omega, rfl, rfl, room_start w3⟩
  case round =>
    clear HRR HR mk
    obtain ⟨k, hk, rfl, rfl, H⟩ := hrel
    have HRM := Lib.hid H
    clear H
    by_cases h8 : k < 8
    · have ix := fun W => index_ws ws HW.out k h8 W
      have hx := getD_lt HWL.out k
      have HN := Lib.hid (outL_next ws HW.out k h8)
      generalize ws.getD k 0 = x at *
      go_wp2_with (refine wpList_append_fitN wr rfl (.tmp 24) (.tmp 36) 22 rfl 5 i0 Tryd.underlying22 hi hz1 w3 (outL (ws.take k)) (4 * k) 32 [(x : Int) / 16777216, (x : Int) / 65536 % 256, (x : Int) / 256 % 256, (x : Int) % 256] rfl rfl HRM.out (four_small x hx) (by show 4 * k + 4 ≤ 32; omega) ?_; intro w5 h5)
      have H5 : Hid (Room 5 w3 (outL (ws.take (k + 1))) (4 * (k + 1)) 32 w5) := by
        show Room _ _ _ _ _ _
        rw [HN.out, ← four_bytes x]
        exact h5
      clear h5
      go_wp2_with fail
      go_roundw
      case rel => exact ⟨k + 1, by omega, by go_num, by rw [Nat.mul_add], H5.out⟩
      case measure => simp [intOf]; omega
    · obtain rfl : k = 8 := by omega
      rw [List.take_of_length_le (Nat.le_of_eq HW.out), HO.out] at HRM
      go_wp2_with fail
      go_ret
      exact ⟨_, rfl, (Seen.of_own HRM.out.1).1, HB3.out.trans (HRM.out.2.mono HB3.out.size)⟩
theorem new_state {w : World} : StAt (w.alloc (.cells (stCells (List.replicate 8 0) (List.replicate 64 0) 0).toArray 47)) w.heap.size [] :=
  ⟨_, _, Blk.new w _ _, stIs_zero⟩
set_option maxRecDepth 100000 in
set_option maxHeartbeats 400000 in
theorem sum_any (w : World) (A : Option Addr) (b : List UInt8) (c : Nat) (hs : Seen w A b) (hc : b.length ≤ c) (hn : b.length ≤ 70368744177664) (ht : Tabs w) :
    Calls Tryd.prog 18 #[.slice A b.length c] w fun e w' => ∃ A', e = .returned (.slice A' 32 32) ∧ Seen w' A' (shaL b) ∧ Below w.heap.size w w' := by
  have HS := Lib.hid hs
  have HT := Lib.hid ht
  clear hs ht
  go_enter Tryd.func18, Tryd.ntmps18
  go_wp2_with fail
  refine (new_any _).mono ?_
  rintro e w1 ⟨rfl, hw1⟩
  have HB1 : Hid (Below w.heap.size w w1) := by rw [hw1]; exact (Below.refl _ _).alloc (Nat.le_refl _) _
  have HS1 : Hid (StAt w1 w.heap.size []) := by rw [hw1]; exact new_state
  clear hw1
  have hg2 : 2 ≤ w.heap.size := HT.out.2.2
  go_wp2_with fail
  refine (write_any _ w.heap.size [] A b c HS1.out (Apart.new HS.out HB1.out) hc (by simp; omega) (HT.out.below HB1.out) hg2).mono ?_
  rintro e w2 ⟨rfl, hst2, hg2'⟩
  rw [List.nil_append] at hst2
  have HB2 := Lib.hid (below_only HB1.out hg2' (Nat.le_refl _))
  have HS2 := Lib.hid hst2
  clear hst2 hg2'
  go_wp2_with fail
  refine (stateSum_any _ w.heap.size b HS2.out (HT.out.below HB2.out) hn).mono ?_
  rintro e w3 ⟨A', rfl, hs3, hb3⟩
  have HS3 := Lib.hid hs3
  have HB3 := Lib.hid (hop HB2.out hb3)
  clear hs3 hb3
  go_wp2_with fail
  go_ret
  exact ⟨A', rfl, HS3.out, HB3.out⟩
end Go.Proofs.YtmmfnfndepijlaaDoor
