/-
  An area's small methods: valid, before, filled; put: whole blocks are written and synced. Conditions: as each says.
  An area's small methods: valid, before, filled. Conditions: as each says.
  An area's write: the bytes of a frame are laid at a place, the block of the place last. Conditions: the frame fits into the area; as it says.
  A log's methods: Gen, Seq, Room, and Append. Conditions: how the log and its disk lie in memory; as each says.
  Begin of a log: what it answers and what it leaves. Conditions: as it says.
-/
import Derived.Test.YtkbjhnlihnakkaaLgB
import Derived.Test.YtkbjhnlihnakkaaMadeN
import Derived.Test.YtkbjhnlihnakkaaExtend
import Derived.Deep.QuietTactic
import Derived.BigQuiet
import Derived.StillTailTactics
import Derived.ArgAppend
import Derived.Test.YtkbjhnlihnakkaaRd
import Derived.Deep.RegionHeldLaw
import Derived.Deep.RegionLawGrows
import Derived.Test.YtkbjhnlihnakkaaFEncode
namespace Go.Proofs.Ytkbjhnlihnakkaa
open Go.RowKit

def areaCells (g : Nat) (f N : Int) : List Value := [.pointer (some ⟨g, 0, none⟩), .int .i64 f, .int .i64 N]
theorem area_cells {w : World} {b g : Nat} {f N : Int} {t : TypeId} (h : Blk w b (areaCells g f N) t) : w.cell? ⟨b, 0, none⟩ = some (.pointer (some ⟨g, 0, none⟩)) ∧ w.cell? ⟨b, 1, none⟩ = some (.int .i64 f) ∧ w.cell? ⟨b, 2, none⟩ = some (.int .i64 N) :=
  ⟨h.cell (i := 0) (by simp [areaCells]), h.cell (i := 1) (by simp [areaCells]), h.cell (i := 2) (by simp [areaCells])⟩
/-- the area's own block -/
def boxA (w : World) (g : Nat) (f N : Int) : World := w.alloc (.cells #[.pointer (some ⟨g, 0, none⟩), .int .i64 f, .int .i64 N] 72)
theorem boxA_blk (w : World) (g : Nat) (f N : Int) : Blk (boxA w g f N) w.heap.size (areaCells g f N) 72 := Blk.new w (areaCells g f N) _
theorem boxA_below (w : World) (g : Nat) (f N : Int) : Below w.heap.size w (boxA w g f N) := (Below.refl _ _).alloc (Nat.le_refl _) _
theorem boxA_size (w : World) (g : Nat) (f N : Int) : (boxA w g f N).heap.size = w.heap.size + 1 := by simp [boxA]
theorem Moved.blk {w w' : World} {g b : Nat} {F : Nat → Prop} {s : Dsk} {L : List Value} {t : TypeId} (h : Moved w g F s w') (hb : Blk w b L t) (hF : ¬ F b) : Blk w' b L t := by
  obtain ⟨_, _, hs, _⟩ := h
  exact hs.blk hb hF
theorem Moved.before {w w1 w' : World} {g : Nat} {F : Nat → Prop} {s : Dsk} (h : Moved w1 g F s w') (hb : Below w.heap.size w w1) : Moved w g F s w' := by
  obtain ⟨F', h1, h2, h3⟩ := h
  exact ⟨F', h1, (Spared.of_below hb F).trans h2 (fun _ h => .inl h), fun k hk => (h3 k hk).elim .inl (fun h => .inr (Nat.le_trans hb.size h))⟩
theorem Moved.size {w w' : World} {g : Nat} {F : Nat → Prop} {s : Dsk} (h : Moved w g F s w') : w.heap.size ≤ w'.heap.size := by obtain ⟨_, _, h, _⟩ := h; exact h.size
theorem Moved.away {w w' : World} {g : Nat} {F : Nat → Prop} {s : Dsk} {A : Option Addr} {l : List UInt8} (h : Moved w g F s w') (ha : Away w F A l) : Seen w' A l := by
  obtain ⟨F', _, h2, h3⟩ := h
  exact (ha.moved h2 h3).seen
theorem Moved.then {w w1 w' : World} {g : Nat} {F : Nat → Prop} {s s' : Dsk} (h : Moved w g F s w1) (k : ∀ F', DiskAt w1 g F' s → Moved w1 g F' s' w') : Moved w g F s' w' := by
  obtain ⟨F1, h1, h2, h3⟩ := h
  exact .trans h2 h3 (k F1 h1)

set_option maxRecDepth 100000 in
set_option maxHeartbeats 1000000 in
theorem area_put (w : World) (g : Nat) (F : Nat → Prop) (s : Dsk) (f i N : Nat) (B : Option Addr) (b : List UInt8) (c m q : Nat) (h : DiskAt w g F s) (hb : Away w F B b) (hn : b.length = m * 64) (hc : m * 64 ≤ c) (hi : f + i + m ≤ s.K.length) (hf : s.Few q) (hq : q + m ≤ 900000) :
    Calls Try.prog 53 #[.agg #[.pointer (some ⟨g, 0, none⟩), .int .i64 (f : Int), .int .i64 (N : Int)], .int .i64 (i : Int), .slice B (m * 64) c] w fun e w' => e = .returned (.int .i64 (s.putErr (f + i) (rowsOf b))) ∧ Moved w g F (s.putAll (f + i) (rowsOf b)) w' := by
  have hK4 := h.ok.hi
  have OK := Lib.hid h.ok
  have HR : Hid ((rowsOf b).length = m) := by show _ = _; rw [rowsOf_length, hn]; omega
  have HRL := Lib.hid (rowsOf_len b)
  have HRG : Hid (∀ k (h : k < (rowsOf b).length), (rowsOf b)[k] = (b.drop (k * 64)).take 64) := fun k h => rowsOf_get h
  generalize rowsOf b = R at HR HRL HRG ⊢
  have H := Lib.hid h
  have HA := Lib.hid hb
  have HN := Lib.hid hn
  have HF := Lib.hid hf
  clear h hb hn hf
  by_cases hm : m = 0
  · subst hm
    have hR : R = [] := List.eq_nil_of_length_eq_zero HR.out
    have h1 : s.putErr (f + i) R = 0 := by unfold Dsk.putErr; rw [if_pos hR]
    have h2 : s.putAll (f + i) R = s := by unfold Dsk.putAll; rw [if_pos hR]
    rw [h1, h2]
    have HB := Lib.hid (boxA_below w g f N)
    clear h1 h2 hR
    have e0 : (0 : Nat) * 64 = 0 := rfl
    rw [e0]
    go_enter Try.func53, Try.ntmps53
    go_wp2
    go_ret
    exact ⟨rfl, .still H.out HB.out⟩
  have hm0 : 0 < m := by omega
  have HNE : Hid (¬ R = []) := fun e => by have := HR.out; rw [e] at this; simp at this; omega
  have HBX := Lib.hid (boxA_blk w g f N)
  have HB := Lib.hid (boxA_below w g f N)
  have HNF : Hid (¬ F w.heap.size) := fun hF => by have := H.out.lt _ hF; omega
  have HA1 : Hid (Away (boxA w g f N) F B b) := HA.out.moved (.of_below HB.out F) (fun _ h => .inl h)
  have HM1 : Hid (Moved (boxA w g f N) g F s (boxA w g f N)) := .still (H.out.still HB.out) (Below.refl _ _)
  obtain ⟨w1, hw1⟩ : ∃ w1, w1 = boxA w g f N := ⟨_, rfl⟩
  have HW1 := Lib.hid hw1
  rw [← hw1] at HBX HB HA1 HM1
  clear hw1 HA
  have hm64 : ¬ (m : Int) * 64 = 0 := by omega
  have hm64' : ((m : Int) * 64 == 0) = false := by rw [beq_eq_false_iff_ne]; exact hm64
  have hd64 : Int.tdiv ((m : Int) * 64) 64 = (m : Int) := by rw [Int.tdiv_eq_ediv_of_nonneg (by omega)]; omega
  go_enter Try.func53, Try.ntmps53
  go_wp2
  go_loopw [16] (fun a wr => ∃ k : Nat, k ≤ m ∧ a = .int .i64 k ∧ Moved w1 g F (s.puts (f + i) (R.take k)) wr ∧ (s.puts (f + i) (R.take k)).Few (q + k)) (fun a _ => m - (intOf a).toNat)
  case atStart =>
    refine ⟨0, Nat.zero_le _, rfl, ?_, HF.out⟩
    have := HM1.out
    rw [HW1.out] at this ⊢
    exact this
  case round =>
    clear HM1 hm64 hm64' hd64
    obtain ⟨k, hk, rfl, hmv, hfew⟩ := hrel
    have HM := Lib.hid hmv
    have HFW := Lib.hid hfew
    obtain ⟨c0, c1, c2⟩ := area_cells (hmv.blk HBX.out HNF.out)
    clear hmv hfew
    by_cases hlt : k < m
    · have hkl : (k : Int) < (m : Int) := by omega
      have hkR : k < R.length := by rw [HR.out]; exact hlt
      obtain ⟨A', c', hcut, hs', hl'⟩ := (HM.out.away HA1.out).mid_cut (m * 64) c (k * 64) ((k + 1) * 64) 64 ((k : Int) * 64) (((k : Int) + 1) * 64) (by omega) (by omega) (by omega) HN.out (by omega) (by omega) hc
      have e64 : ((m * 64 : Nat) : Int) = (m : Int) * 64 := by omega
      have HPW := Lib.hid (Dsk.wput_pw (s := s.puts (f + i) (R.take k)) (i := f + i + k) (l := (b.drop (k * 64)).take 64) (by rw [Dsk.puts_K]; omega) hl')
      have HST := Lib.hid (Dsk.puts_step (s := s) (i := f + i) hkR)
      rw [HRG.out k hkR] at HST
      have HSTOP := Lib.hid (fun h => Dsk.puts_stop (s := s) (i := f + i) (R := R) (k := k) h)
      have HFP := Lib.hid (HFW.out.pw (f + i + k) ((b.drop (k * 64)).take 64))
      generalize hst : s.puts (f + i) (R.take k) = st at *
      have HL' := Lib.hid hl'
      have HS' := Lib.hid hs'
      generalize (b.drop (k * 64)).take 64 = x at *
      have HW : Hid (Calls Try.prog 67 #[.pointer (some ⟨g, 0, none⟩), .int .i64 ((f : Int) + (i : Int) + (k : Int)), .slice A' 64 c'] wr fun e w' => e = .returned (.int .i64 (if st.off then 5 else 0)) ∧ Moved w1 g F (st.pw (f + i + k) x) w') := by
        obtain ⟨F', hd, hs2, hf2⟩ := HM.out
        have := write_all wr g F' st ((f + i + k : Nat) : Int) A' x 64 c' hd HL'.out (by decide) HS'.out (HFW.out.mono (by omega))
        rw [HPW.out.1, HPW.out.2, show ((f + i + k : Nat) : Int) = (f : Int) + (i : Int) + (k : Int) by omega] at this
        exact this.mono fun e w' ⟨he, hmv⟩ => ⟨he, .trans hs2 hf2 hmv⟩
      clear hst hl' hs' HPW HL' HS' hkR
      by_cases ho : st.off = true
      · have HE : Hid (s.putErr (f + i) R = 5 ∧ s.putAll (f + i) R = st) := by
          have e := HSTOP.out ho
          unfold Dsk.putErr Dsk.putAll
          rw [if_neg HNE.out, if_neg HNE.out, e, if_pos ho]
          exact ⟨rfl, by unfold Dsk.sput; rw [if_pos ho]⟩
        have HPO : Hid (st.pw (f + i + k) x = st) := Dsk.pw_off ho _ _
        rw [HPO.out, if_pos ho] at HW
        clear ho HSTOP HST HFP HPO
        go_wp2_with (go_at_call 67; refine HW.out.mono ?_; rintro e w6 ⟨rfl, hp6⟩; have P6 := Lib.hid hp6; clear hp6)
        go_ret
        rw [HE.out.1, HE.out.2]
        exact ⟨rfl, P6.out.before HB.out⟩
      · have ho' : st.off = false := by cases hs : st.off <;> simp_all
        rw [ho'] at HW
        have HW' : Hid (Calls Try.prog 67 #[.pointer (some ⟨g, 0, none⟩), .int .i64 ((f : Int) + (i : Int) + (k : Int)), .slice A' 64 c'] wr fun e w' => e = .returned (.int .i64 0) ∧ Moved w1 g F (st.pw (f + i + k) x) w') := HW.out
        clear ho ho' HSTOP HW
        go_wp2_with (go_at_call 67; refine HW'.out.mono ?_; rintro e w6 ⟨rfl, hp6⟩; have P6 := Lib.hid hp6; clear hp6)
        go_roundw
        case rel => exact ⟨k + 1, by omega, by go_num, by rw [HST.out]; exact P6.out, by rw [HST.out]; exact HFP.out⟩
        case measure => simp [intOf]; omega
    · obtain rfl : k = m := by omega
      have ht : R.take k = R := List.take_of_length_le (by rw [HR.out]; exact Nat.le_refl _)
      rw [ht] at HM HFW
      have HE : Hid (s.putErr (f + i) R = (if (s.puts (f + i) R).off then 5 else 0) ∧ s.putAll (f + i) R = (s.puts (f + i) R).sput) := by
        unfold Dsk.putErr Dsk.putAll
        rw [if_neg HNE.out, if_neg HNE.out]
        exact ⟨rfl, rfl⟩
      generalize s.puts (f + i) R = st at *
      have HS : Hid (Calls Try.prog 68 #[.pointer (some ⟨g, 0, none⟩)] wr fun e w' => e = .returned (.int .i64 (if st.off then 5 else 0)) ∧ Moved w1 g F st.sput w') := by
        obtain ⟨F', hd, hs2, hf2⟩ := HM.out
        exact (sync_all wr g F' st hd (HFW.out.mono (by omega))).mono fun e w' ⟨he, hmv⟩ => ⟨he, .trans hs2 hf2 hmv⟩
      obtain ⟨E, hE⟩ : ∃ E : Int, E = if st.off then 5 else 0 := ⟨_, rfl⟩
      rw [← hE] at HE HS
      clear ht hE
      go_wp2_with (go_at_call 68; refine HS.out.mono ?_; rintro e w6 ⟨rfl, hp6⟩; have P6 := Lib.hid hp6; clear hp6)
      go_ret
      rw [HE.out.1, HE.out.2]
      exact ⟨rfl, P6.out.before HB.out⟩
end Go.Proofs.Ytkbjhnlihnakkaa

namespace Go.Proofs.Ytkbjhnlihnakkaa
open Go.RowKit

set_option maxRecDepth 100000 in
set_option maxHeartbeats 1000000 in
theorem area_valid (w : World) (g : Nat) (F : Nat → Prop) (s : Dsk) (f N : Int) (h : DiskAt w g F s) (f0 : -9223372036854775808 ≤ f) (f1 : f ≤ 9223372036854775807) :
    Calls Try.prog 37 #[.agg #[.pointer (some ⟨g, 0, none⟩), .int .i64 f, .int .i64 N]] w fun e w' => e = .returned (.bool (decide (0 ≤ f ∧ 1 ≤ N ∧ N ≤ (s.K.length : Int) - f))) ∧ Below w.heap.size w w' := by
  have hK4 := h.ok.hi
  have HB := Lib.hid (boxA_below w g f N)
  have H1 := Lib.hid (h.still HB.out)
  obtain ⟨c0, c1, c2⟩ := area_cells (boxA_blk w g f N)
  obtain ⟨w1, hw1⟩ : ∃ w1, w1 = boxA w g f N := ⟨_, rfl⟩
  have HW := Lib.hid hw1
  rw [← hw1] at HB H1 c0 c1 c2
  clear h hw1
  by_cases h0 : 0 ≤ f
  · by_cases h1 : 1 ≤ N
    · have d0 : decide ((0 : Int) ≤ f) = true := decide_eq_true h0
      have d1 : decide ((1 : Int) ≤ N) = true := decide_eq_true h1
      have e : decide (0 ≤ f ∧ 1 ≤ N ∧ N ≤ (s.K.length : Int) - f) = decide (N ≤ (s.K.length : Int) - f) := by simp only [h0, h1, true_and]
      rw [e]
      have hw64 : IntKind.i64.wrap ((s.K.length : Int) - f) = (s.K.length : Int) - f := by rw [IntKind.wrap_i64]; omega
      clear e
      go_enter Try.func37, Try.ntmps37
      go_wp2
      rw [show w.alloc (.cells #[.pointer (some ⟨g, 0, none⟩), .int .i64 f, .int .i64 N] 72) = w1 from HW.out.symm]
      go_quiet (first | (go_at_call 45; refine Calls.quiet_of_same (blocks_any (H1.out.still (below_drewN (Below.refl _ _) _)))))
      go_wp2
      go_ret
      exact ⟨rfl, below_drewN HB.out _⟩
    · have d0 : decide ((0 : Int) ≤ f) = true := decide_eq_true h0
      have d1 : decide ((1 : Int) ≤ N) = false := decide_eq_false h1
      have e : decide (0 ≤ f ∧ 1 ≤ N ∧ N ≤ (s.K.length : Int) - f) = false := decide_eq_false (fun h => h1 h.2.1)
      rw [e]
      go_enter Try.func37, Try.ntmps37
      go_wp2
      rw [show w.alloc (.cells #[.pointer (some ⟨g, 0, none⟩), .int .i64 f, .int .i64 N] 72) = w1 from HW.out.symm]
      go_quiet (fail)
      go_wp2
      go_ret
      exact ⟨rfl, below_drewN HB.out _⟩
  · have d0 : decide ((0 : Int) ≤ f) = false := decide_eq_false h0
    have e : decide (0 ≤ f ∧ 1 ≤ N ∧ N ≤ (s.K.length : Int) - f) = false := decide_eq_false (fun h => h0 h.1)
    rw [e]
    go_enter Try.func37, Try.ntmps37
    go_wp2
    rw [show w.alloc (.cells #[.pointer (some ⟨g, 0, none⟩), .int .i64 f, .int .i64 N] 72) = w1 from HW.out.symm]
    go_quiet (fail)
    go_wp2
    go_ret
    exact ⟨rfl, below_drewN HB.out _⟩

theorem cut_cap (A : Option Addr) (n c m : Nat) (hm : m ≤ c) (W : World) : (Instr.slice 22 (.slice A n c) none (some (.int .i64 (m : Int))) (some (.int .i64 (m : Int)))).run Try.prog W = .ok (.slice A m m) W := by
  have e2 : Try.prog.elem 22 = 5 := by kernel_rfl
  obtain ⟨i, hi, hz⟩ := Option.map_eq_some_iff.1 info8p
  simp only [Prod.mk.injEq] at hz
  rw [run_slice_hm W 22 A n c (by kernel_rfl) .i64 .i64 (m : Int) (m : Int) (by omega) (by omega) (by omega), e2]
  simp [sizeOf, typeInfo, hi, hz.2.1, sliced]
  intro _
  cases A with
  | none => rfl
  | some a =>
    show some (a.add 0) = some a
    rw [Addr.add_zero']
/-- what before answers -/
def BeforeOut (w : World) (s : Dsk) (f pos n : Nat) (e : Ending) (w' : World) : Prop :=
  Below w.heap.size w w' ∧ ((s.off = true ∧ n ≠ 0 ∧ e = .returned (.tuple #[.slice none 0 0, .int .i64 5])) ∨
    (¬ (s.off = true ∧ n ≠ 0) ∧ ∃ A, e = .returned (.tuple #[.slice A n n, .int .i64 0]) ∧ (A = none → n = 0) ∧ Seen w' A (aheadL s.view f pos) ∧ (aheadL s.view f pos).length = n))

set_option maxRecDepth 100000 in
set_option maxHeartbeats 1000000 in
theorem area_before (w : World) (g : Nat) (F : Nat → Prop) (s : Dsk) (f N pos n k : Nat) (h : DiskAt w g F s) (hn : pos % 64 = n) (hk : pos / 64 = k) (hi : f + k < s.K.length) :
    Calls Try.prog 51 #[.agg #[.pointer (some ⟨g, 0, none⟩), .int .i64 (f : Int), .int .i64 (N : Int)], .int .i64 (pos : Int)] w (BeforeOut w s f pos n) := by
  have hK4 := h.ok.hi
  have HB := Lib.hid (boxA_below w g f N)
  have H := Lib.hid (h.still HB.out)
  have OK := Lib.hid h.ok
  have HAL : Hid ((aheadL s.view f pos).length = n) := by
    show _ = _
    rw [aheadL_length (view_len h.ok) (by rw [view_length, hk]; exact hi), hn]
  obtain ⟨c0, c1, c2⟩ := area_cells (boxA_blk w g f N)
  obtain ⟨w1, hw1⟩ : ∃ w1, w1 = boxA w g f N := ⟨_, rfl⟩
  have HW := Lib.hid hw1
  have hmod : (pos : Int) % 64 = (n : Int) := by omega
  have hdiv : (pos : Int) / 64 = (k : Int) := by omega
  have hn64 : n < 64 := by omega
  have hp : (pos : Int) ≤ 262144 := by omega
  have HM := Lib.hid hn
  have HD := Lib.hid hk
  rw [← hw1] at HB H c0 c1 c2
  rw [hw1] at c0 c1
  clear h hw1 hn hk c2
  have c0' : (w.alloc (.cells #[.pointer (some ⟨g, 0, none⟩), .int .i64 (f : Int), .int .i64 (N : Int)] 72)).cell? ⟨w.heap.size, 0, none⟩ = some (.pointer (some ⟨g, 0, none⟩)) := c0
  have c1' : (w.alloc (.cells #[.pointer (some ⟨g, 0, none⟩), .int .i64 (f : Int), .int .i64 (N : Int)] 72)).cell? ⟨w.heap.size, 1, none⟩ = some (.int .i64 (f : Int)) := c1
  have HW' : Hid (w.alloc (.cells #[.pointer (some ⟨g, 0, none⟩), .int .i64 (f : Int), .int .i64 (N : Int)] 72) = w1) := HW.out.symm
  clear c0 c1 HW
  by_cases h0 : n = 0
  · subst h0
    have HL0 : Hid (aheadL s.view f pos = []) := List.eq_nil_of_length_eq_zero HAL.out
    have hmod0 : (pos : Int) % 64 = 0 := hmod
    clear hmod
    go_enter Try.func51, Try.ntmps51
    go_wp2
    go_ret2
    rw [HW'.out]
    exact ⟨HB.out, .inr ⟨fun h => h.2 rfl, none, rfl, fun _ => rfl, .inl HL0.out, HAL.out⟩⟩
  have hn0 : ¬ (n : Int) = 0 := by omega
  have hn0' : ((n : Int) == 0) = false := by rw [beq_eq_false_iff_ne]; exact hn0
  have HN0 := Lib.hid h0
  clear h0
  have HRD := Lib.hid (read_any w1 g F s ((f + k : Nat) : Int) H.out)
  rw [show ((f + k : Nat) : Int) = (f : Int) + (k : Int) by omega] at HRD
  by_cases ho : s.off = true
  · have HO := Lib.hid ho
    clear ho
    go_enter Try.func51, Try.ntmps51
    go_wp2_with fail
    rw [HW'.out]
    refine HRD.out.mono ?_
    rintro e w2 ⟨hb2, ⟨hx, _⟩ | ⟨_, _, rfl⟩ | ⟨_, hx, _⟩⟩
    · exact absurd ⟨by omega, by omega⟩ hx
    · have B2 := Lib.hid (hop HB.out hb2)
      clear hb2 HRD
      go_wp2
      go_ret2
      exact ⟨B2.out, .inl ⟨HO.out, HN0.out, rfl⟩⟩
    · rw [HO.out] at hx; cases hx
  · have HO := Lib.hid ho
    clear ho
    have hcut := fun A => cut_cap A 64 64 n (by omega)
    go_enter Try.func51, Try.ntmps51
    go_wp2_with fail
    rw [HW'.out]
    refine HRD.out.mono ?_
    rintro e w2 ⟨hb2, ⟨hx, _⟩ | ⟨_, hx, _⟩ | ⟨_, _, x, gb, hx, _, hk2, rfl⟩⟩
    · exact absurd ⟨by omega, by omega⟩ hx
    · exact absurd hx HO.out
    · have B2 := Lib.hid (hop HB.out hb2)
      have e1 : ((f : Int) + (k : Int)).toNat = f + k := by omega
      rw [e1] at hx
      have hv := last_view OK.out hx
      have HA : Hid (aheadL s.view f pos = x.take n) := by
        show aheadL s.view f pos = x.take n
        unfold aheadL
        rw [HD.out, HM.out, List.getD_eq_getElem?_getD, hv]; rfl
      have HS : Hid (Seen w2 (some ⟨gb, 0, none⟩) (x.take n)) := by
        have : w2.rangeAt gb 0 (x.map bv) := fun j v hv => by
          obtain ⟨hj, hju⟩ := List.getElem?_eq_some_iff.1 hv
          rw [Nat.zero_add, hk2.cell hj, hju]
        exact (range_seen this).take n
      clear hb2 HRD hx hv hk2 e1
      go_wp2
      go_ret2
      exact ⟨B2.out, .inr ⟨fun h => HO.out h.1, _, rfl, (fun h => by cases h), by rw [HA.out]; exact HS.out, HAL.out⟩⟩

set_option maxRecDepth 100000 in
set_option maxHeartbeats 1000000 in
theorem area_filled (w W0 : World) (g : Nat) (f : Nat) (N first : Nat) (a : List UInt8) (A : Option Addr) (n c : Nat) (hm : MadeN 5 W0 a A n c w) (h1 : first < N) (hN : N ≤ 4096) (hfit : n ≤ (N - first) * 64) :
    Calls Try.prog 52 #[.agg #[.pointer (some ⟨g, 0, none⟩), .int .i64 (f : Int), .int .i64 (N : Int)], .int .i64 (first : Int), .slice A n c] w fun e w' => ∃ A' n' c', e = .returned (.slice A' n' c') ∧ MadeN 5 W0 (filledL a (N - first)) A' n' c' w' := by
  obtain ⟨i0, hi, hz0, hz1, hz2⟩ := info_parts info8p
  have HB := Lib.hid (boxA_below w g f N)
  have HM1 := Lib.hid (hm.2.below HB.out)
  have HL := Lib.hid hm.1
  obtain ⟨k, hk⟩ : ∃ k, k = min (n / 64 + 1) (N - first) := ⟨_, rfl⟩
  obtain ⟨z, hz⟩ : ∃ z, z = k * 64 - n := ⟨_, rfl⟩
  have HF : Hid (filledL a (N - first) = a ++ List.replicate z 0) := by
    show filledL a (N - first) = _
    unfold filledL
    rw [hm.1, hz, hk]
  have hk4 : k ≤ 4096 := by omega
  have hn4 : n ≤ 262144 := by omega
  have hz4 : z ≤ 262144 := by omega
  have HB4 : Hid (a.length + z ≤ 140737488355328) := by show _ ≤ _; rw [hm.1]; omega
  by_cases hlt : (N : Int) - (first : Int) < (n : Int) / 64 + 1
  · have hzz : ((N : Int) - (first : Int)) * 64 - (n : Int) = (z : Int) := by omega
    clear hm hk hz hfit h1
    go_enter Try.func52, Try.ntmps52
    go_wp2_with (at_builtin; refine wpList_append_zeros _ rfl (.tmp 17) (.tmp 22) 22 3 rfl 5 i0 Try.underlying22 Try.underlying3 hi hz0 hz1 hz2 W0 (.slice A n c) a z rfl (by simp [Act.eval]) HM1.out HB4.out ?_); intro v' w' hm'
    have HM' := Lib.hid hm'
    clear hm'
    go_wp2
    go_ret
    obtain ⟨A', n', c', rfl, hm'⟩ := HM'.out.named
    exact ⟨A', n', c', rfl, by rw [HF.out]; exact hm'⟩
  · have hzz : ((n : Int) / 64 + 1) * 64 - (n : Int) = (z : Int) := by omega
    clear hm hk hz hfit h1
    go_enter Try.func52, Try.ntmps52
    go_wp2_with (at_builtin; refine wpList_append_zeros _ rfl (.tmp 17) (.tmp 22) 22 3 rfl 5 i0 Try.underlying22 Try.underlying3 hi hz0 hz1 hz2 W0 (.slice A n c) a z rfl (by simp [Act.eval]) HM1.out HB4.out ?_); intro v' w' hm'
    have HM' := Lib.hid hm'
    clear hm'
    go_wp2
    go_ret
    obtain ⟨A', n', c', rfl, hm'⟩ := HM'.out.named
    exact ⟨A', n', c', rfl, by rw [HF.out]; exact hm'⟩
end Go.Proofs.Ytkbjhnlihnakkaa

namespace Go.Proofs.Ytkbjhnlihnakkaa
open Go.RowKit

theorem area_of {w w' : World} {b g : Nat} {f N : Int} {t : TypeId} (h : Blk w b (areaCells g f N) t) (hb : Below w.heap.size w w') : Blk w' b (areaCells g f N) t := h.below hb h.lt

set_option maxRecDepth 100000 in
set_option maxHeartbeats 2000000 in
theorem area_write (w : World) (g : Nat) (F : Nat → Prop) (s : Dsk) (f N pos : Nat) (A : Option Addr) (code : List UInt8) (n c q : Nat) (h : DiskAt w g F s) (ha : Away w F A code) (hl : code.length = n) (h0 : 0 < n) (hN : f + N ≤ s.K.length) (hfit : pos + n ≤ N * 64) (hf : s.Few q) (hq : q + n / 64 ≤ 800000) :
    Calls Try.prog 35 #[.agg #[.pointer (some ⟨g, 0, none⟩), .int .i64 (f : Int), .int .i64 (N : Int)], .int .i64 (pos : Int), .slice A n c] w fun e w' => e = .returned (.int .i64 (s.layErr (laidL s.view f N pos code) (f + pos / 64))) ∧ Moved w g F (s.lay (laidL s.view f N pos code) (f + pos / 64)) w' := by
  have hK4 := h.ok.hi
  obtain ⟨m, hB1, hB2, hB3⟩ := laidL_rows (V := s.view) (f := f) (blocks := N) (pos := pos) (code := code) (view_len h.ok) (by rw [view_length]; exact hN) (by omega) (by omega)
  have HB1 := Lib.hid hB1
  have HLB : Hid (laidL s.view f N pos code = filledL (aheadL s.view f pos ++ code) (N - pos / 64)) := rfl
  generalize laidL s.view f N pos code = B at HB1 HLB ⊢
  have HOFF := Lib.hid (fun h => Dsk.lay_off (s := s) (b := B) (i := f + pos / 64) (n := m) h HB1.out)
  obtain ⟨k, hk⟩ : ∃ k, k = pos / 64 := ⟨_, rfl⟩
  obtain ⟨n1, hn1⟩ : ∃ n1, n1 = pos % 64 := ⟨_, rfl⟩
  have HBB := Lib.hid (boxA_below w g f N)
  have HBX := Lib.hid (boxA_blk w g f N)
  have HNF : Hid (¬ F w.heap.size) := fun hF => by have := h.lt _ hF; omega
  have H1 := Lib.hid (h.still HBB.out)
  have HA1 : Hid (Away (boxA w g f N) F A code) := ha.moved (.of_below HBB.out F) (fun _ h => .inl h)
  have HBEF := Lib.hid (area_before (boxA w g f N) g F s f N pos n1 k H1.out hn1.symm hk.symm (by omega))
  have hdiv : (pos : Int) / 64 = (k : Int) := by omega
  have HL := Lib.hid hl
  have HF := Lib.hid hf
  have OK := Lib.hid h.ok
  have hfit' : n1 + n ≤ (N - k) * 64 := by omega
  have hkN : k < N := by omega
  have hp : (pos : Int) ≤ 262144 := by omega
  rw [← hk] at HLB HOFF ⊢
  have HFR : Hid (F = F) := rfl
  clear h ha hl hf hB1 hk hn1
  obtain ⟨w1, hw1⟩ : ∃ w1, w1 = boxA w g f N := ⟨_, rfl⟩
  rw [← hw1] at HBB HBX H1 HA1 HBEF
  have HW' : Hid (w.alloc (.cells #[.pointer (some ⟨g, 0, none⟩), .int .i64 (f : Int), .int .i64 (N : Int)] 72) = w1) := hw1.symm
  clear hw1
  go_enter Try.func35, Try.ntmps35
  go_wp2_with fail
  rw [HW'.out]
  refine HBEF.out.mono ?_
  rintro e w2 ⟨hb2, ⟨ho, _, rfl⟩ | ⟨_, Ak, rfl, hnone, hsk, hlk⟩⟩
  · have HM2 : Hid (Moved w g F s w2) := .before (.still H1.out hb2) HBB.out
    have HE := Lib.hid (HOFF.out ho)
    clear hb2 ho
    go_wp2
    go_ret
    rw [HE.out.1, HE.out.2]
    exact ⟨rfl, HM2.out⟩
  · have B2 := Lib.hid hb2
    have HX2 := Lib.hid (HBX.out.below hb2 HBX.out.lt)
    obtain ⟨c0, c1, c2⟩ := area_cells HX2.out
    have HSK := Lib.hid hsk
    have HLK := Lib.hid hlk
    have HNO := Lib.hid hnone
    clear hb2 hsk hlk hnone
    generalize aheadL s.view f pos = hd at *
    have HA2 := Lib.hid (HA1.out.moved (.of_below B2.out F) (G := F) (fun _ h => .inl h))
    have HC2 : Hid (∀ W, Below w2.heap.size w2 W → Blk W w.heap.size (areaCells g (f : Int) (N : Int)) 72) := fun W hb => HX2.out.below hb HX2.out.lt
    have HK : Hid (∀ W, Below w2.heap.size w2 W → Below w2.heap.size w2 W ∧ W.cell? ⟨w.heap.size, 0, none⟩ = some (.pointer (some ⟨g, 0, none⟩)) ∧ W.cell? ⟨w.heap.size, 1, none⟩ = some (.int .i64 (f : Int)) ∧ W.cell? ⟨w.heap.size, 2, none⟩ = some (.int .i64 (N : Int))) := fun W hb => ⟨hb, area_cells (HC2.out W hb)⟩
    obtain ⟨ab, ao, rfl, hcc⟩ : ∃ b off, A = some ⟨b, off, none⟩ ∧ ∀ j (h : j < code.length), w2.cell? ⟨b, off + j, none⟩ = some (.int .u8 (code[j].toNat : Int)) := by
      rcases HA2.out with h | ⟨b, off, e, _, _, hc⟩
      · have := HL.out; rw [h] at this; simp at this; omega
      · exact ⟨b, off, e, hc⟩
    have HNEWS : Hid (∀ j u, (code.map bv)[j]? = some u → w2.drew.cell? ((⟨ab, ao, none⟩ : Addr).add j) = some u) := fun j u hu => by
      obtain ⟨hj, hju⟩ := List.getElem?_eq_some_iff.1 hu
      rw [List.length_map] at hj
      rw [add_plain, ← hju, List.getElem_map]
      exact hcc j hj
    have HOLDS : Hid (∀ b, Ak = some b → ∀ j u, (hd.map bv)[j]? = some u → w2.drew.cell? (b.add j) = some u) := fun b hb j u hu => by
      obtain ⟨hj, hju⟩ := List.getElem?_eq_some_iff.1 hu
      rw [List.length_map] at hj
      rcases HSK.out with h | ⟨b', off, e, _, hc⟩
      · rw [h] at hj; simp at hj
      · rw [e] at hb
        injection hb with hb
        rw [← hb, add_plain, ← hju, List.getElem_map]
        exact hc j hj
    have HNO2 : Hid (Ak = none → n1 = 0 ∧ n1 = 0) := fun h => ⟨HNO.out h, HNO.out h⟩
    have bd : Below w2.heap.size w2 w2.drew := (Below.refl _ _).drew
    obtain ⟨i0, hi, hz0, hz1, hz2⟩ := info_parts info8p
    have hl1 : Hid ((hd.map bv).length = n1 * 1) := by show _ = _; rw [List.length_map, HLK.out, Nat.mul_one]
    have hl2 : Hid ((code.map bv).length = n * 1) := by show _ = _; rw [List.length_map, HL.out, Nat.mul_one]
    have hdl : Hid ((hd ++ code).length = n1 + n) := by show _ = _; rw [List.length_append, HLK.out, HL.out]
    have hN4 : N ≤ 4096 := by omega
    clear hcc c0 c1 c2
    go_wp2_with fail
    go_region_held_law (fun w' => Below w2.heap.size w2 w' ∧ w'.cell? ⟨w.heap.size, 0, none⟩ = some (.pointer (some ⟨g, 0, none⟩)) ∧ w'.cell? ⟨w.heap.size, 1, none⟩ = some (.int .i64 (f : Int)) ∧ w'.cell? ⟨w.heap.size, 2, none⟩ = some (.int .i64 (N : Int)))
      (first | exact HK.out _ bd | assumption | (exact HK.out _ (by assumption)))
      (first
        | (refine step_append_grows rfl (.tmp 25) (.tmp 26) 22 rfl 5 i0 (.int .u8 0) 1 1 Try.underlying22 hi hz0 hz1 hz2 rfl (by decide) Ak n1 n1 (hd.map bv) (by simp [Act.eval]) HNO2.out hl1.out HOLDS.out ⟨ab, ao, none⟩ n c (code.map bv) (by simp [Act.eval]) hl2.out HNEWS.out (bytes_one code) (by omega) (by unfold maxLen; omega) (by omega) ?_
           intro v4 w4 hown4 hgr4
           have hb4 : Below w2.heap.size w2 w4 := undrew ⟨hgr4.os, hgr4.tape, hgr4.output, hgr4.size, fun k hk => hgr4.block k hk (by simp)⟩
           have hmade : Made 5 w2 (hd ++ code) v4 w4 := ⟨by rw [hdl.out, List.map_append]; exact hown4, hb4⟩
           obtain ⟨A4, n4, c4, rfl, hm4⟩ := hmade.named
           have hf4 : n4 ≤ (N - k) * 64 := Nat.le_trans (Nat.le_of_eq (hm4.1.symm.trans hdl.out)) hfit'
           have HF4 := Lib.hid hf4
           have HM4 := Lib.hid hm4
           clear hown4 hgr4 hmade hm4 hf4)
        | (go_at_call 52; refine (area_filled w4 w2 g f N k (hd ++ code) A4 n4 c4 HM4.out hkN hN4 HF4.out).mono ?_; rintro e w5 ⟨A5, n5, c5, rfl, hm5⟩; have HM5 := Lib.hid hm5; have hb5 : Below w2.heap.size w2 w5 := hm5.2.2; clear hm5))
    have HM5' : Hid (MadeN 5 w2 B A5 n5 c5 w5) := by show MadeN _ _ _ _ _ _ _; rw [HLB.out]; exact HM5.out
    have hn5 : n5 = (m + 1) * 64 := by rw [← HM5'.out.1]; exact HB1.out
    have hc5 : n5 ≤ c5 := by have := cap_of HM5'.out.2; rw [HM5'.out.1] at this; exact this
    have haw : Away w5 F A5 B := (Made.past HM5'.out.2).mono (fun b hb => Nat.lt_of_lt_of_le (H1.out.lt b hb) B2.out.size)
    have hcut : ∀ W, (Instr.slice 22 (.slice A5 n5 c5) (some (.int .i64 (64 : Int))) none none).run Try.prog W = .ok (.slice (if c5 = 64 then A5 else A5.map (·.add (64 * 1))) (n5 - 64) (c5 - 64)) W := cut_tail A5 n5 c5 64 (by omega)
    have hhead : ∀ W, (Instr.slice 22 (.slice A5 n5 c5) none (some (.int .i64 (64 : Int))) none).run Try.prog W = .ok (.slice A5 64 c5) W := cut_head A5 n5 c5 64 (by omega)
    have hdr := haw.drop 64 c5 (by rw [HB1.out]; omega)
    generalize (if c5 = 64 then A5 else A5.map (·.add (64 * 1))) = AT at hcut hdr
    rw [show n5 - 64 = m * 64 by omega] at hcut
    have HAW5 := Lib.hid (haw.take 64)
    have HBL : Hid (Below w2.heap.size w2 w5) := hb5
    have D5 := Lib.hid (H1.out.still (hop B2.out hb5))
    have HP1 : Hid (Calls Try.prog 53 #[.agg #[.pointer (some ⟨g, 0, none⟩), .int .i64 (f : Int), .int .i64 (N : Int)], .int .i64 ((k : Int) + 1), .slice AT (m * 64) (c5 - 64)] w5.drew fun e w' => e = .returned (.int .i64 (s.putErr (f + k + 1) (rowsOf (B.drop 64)))) ∧ Moved w5 g F (s.putAll (f + k + 1) (rowsOf (B.drop 64))) w') := by
      have := area_put w5.drew g F s f (k + 1) N AT (B.drop 64) (c5 - 64) m q (D5.out.still (Below.refl _ _).drew) (hdr.moved (Spared.drew (Spared.refl w5 F)) (fun _ h => .inl h)) (by rw [List.length_drop, HB1.out]; omega) (by omega) (by omega) HF.out (by omega)
      rw [show ((k + 1 : Nat) : Int) = (k : Int) + 1 by omega, show f + (k + 1) = f + k + 1 by omega] at this
      exact this.mono fun e w' ⟨he, hm⟩ => ⟨he, hm.before ⟨rfl, rfl, rfl, Nat.le_refl _, fun _ _ => rfl⟩⟩
    have HFIRST := Lib.hid (fun h => Dsk.lay_first (s := s) (b := B) (i := f + k) (n := m) HB1.out h)
    have HLAY : Hid (s.lay B (f + k) = (s.putAll (f + k + 1) (rowsOf (B.drop 64))).putAll (f + k) (rowsOf (B.take 64)) ∧ s.layErr B (f + k) = (s.putAll (f + k + 1) (rowsOf (B.drop 64))).putErr (f + k) (rowsOf (B.take 64))) := ⟨rfl, rfl⟩
    have HFEW1 : Hid ((s.putAll (f + k + 1) (rowsOf (B.drop 64))).Few (q + m + 1)) := by
      have := HF.out.putAll (f + k + 1) (rowsOf (B.drop 64))
      rw [rowsOf_length, List.length_drop, HB1.out] at this
      exact this.mono (by omega)
    have HKL : Hid ((s.putAll (f + k + 1) (rowsOf (B.drop 64))).K.length = s.K.length) := Dsk.klen_putAll _ _ _
    have HTL : Hid ((B.take 64).length = 1 * 64) := by show _ = _; rw [List.length_take, HB1.out]; omega
    generalize s.putErr (f + k + 1) (rowsOf (B.drop 64)) = E1 at HP1 HFIRST
    generalize s.putAll (f + k + 1) (rowsOf (B.drop 64)) = s1 at *
    obtain ⟨c0, c1, c2⟩ := area_cells (HC2.out w5 hb5)
    clear hdr haw hb5 HM5' HM5 bd hi hz0 hz1 hz2 HNEWS HOLDS
    have HHEAD := Lib.hid hhead
    have HC5 : Hid (1 * 64 ≤ c5) := by show _ ≤ _; omega
    have hw : IntKind.i64.wrap ((k : Int) + 1) = (k : Int) + 1 := by rw [IntKind.wrap_i64]; omega
    clear hn5 hc5 hhead hdiv
    go_wp2
    go_still_tail 5, (by kernel_rfl)
    go_wp2_with fail
    refine HP1.out.mono ?_
    rintro e w6 ⟨rfl, hp6⟩
    have P6 := Lib.hid hp6
    have HX6 := Lib.hid (hp6.blk (HC2.out w5 HBL.out) HNF.out)
    obtain ⟨c0, c1, c2⟩ := area_cells HX6.out
    clear hp6 HP1 hcut hw
    by_cases he : E1 = 0
    · subst he
      have HP2 : Hid (Calls Try.prog 53 #[.agg #[.pointer (some ⟨g, 0, none⟩), .int .i64 (f : Int), .int .i64 (N : Int)], .int .i64 (k : Int), .slice A5 64 c5] w6.drew fun e w' => e = .returned (.int .i64 (s1.putErr (f + k) (rowsOf (B.take 64)))) ∧ Moved w5 g F (s1.putAll (f + k) (rowsOf (B.take 64))) w') := by
        obtain ⟨F6, hd6, hs6, hf6⟩ := P6.out
        have := area_put w6.drew g F6 s1 f k N A5 (B.take 64) c5 1 (q + m + 1) (hd6.still (Below.refl _ _).drew) ((HAW5.out.moved hs6 hf6).moved (Spared.drew (Spared.refl w6 F6)) (fun _ h => .inl h)) HTL.out HC5.out (by rw [HKL.out]; omega) HFEW1.out (by omega)
        exact this.mono fun e w' ⟨he, hm⟩ => ⟨he, .trans hs6 hf6 (hm.before ⟨rfl, rfl, rfl, Nat.le_refl _, fun _ _ => rfl⟩)⟩
      have hhead := HHEAD.out
      rw [← HLAY.out.1, ← HLAY.out.2] at HP2
      obtain ⟨E2, hE2⟩ : ∃ E2, E2 = s.layErr B (f + k) := ⟨_, rfl⟩
      rw [← hE2] at HP2
      have HE2 := Lib.hid hE2
      clear hE2
      go_wp2
      go_still_tail 4, (by kernel_rfl)
      go_wp2_with fail
      refine HP2.out.mono ?_
      rintro e w7 ⟨rfl, hp7⟩
      have P7 := Lib.hid (hp7.before (hop HBB.out (hop B2.out HBL.out)))
      clear hp7 HP2 hhead
      go_wp2
      go_ret
      exact ⟨by rw [← HE2.out]; rfl, P7.out⟩
    · have hne : (E1 == 0) = false := by rw [beq_eq_false_iff_ne]; exact he
      have HE := Lib.hid (HFIRST.out he)
      have HE1 : Hid (E1 = s.layErr B (f + k)) := by show E1 = _; rw [HE.out.1, HE.out.2.2]
      have HP7 : Hid (Moved w g F (s.lay B (f + k)) w6) := by show Moved _ _ _ _ _; rw [HE.out.2.1]; exact P6.out.before (hop HBB.out (hop B2.out HBL.out))
      clear HHEAD
      go_wp2
      go_ret
      exact ⟨by rw [← HE1.out]; rfl, HP7.out⟩
end Go.Proofs.Ytkbjhnlihnakkaa

namespace Go.Proofs.Ytkbjhnlihnakkaa
open Go.RowKit

def lgCells (g : Nat) (l : Lg) : List Value := [.pointer (some ⟨g, 0, none⟩), .int .i64 (l.f : Int), .int .i64 (l.blocks : Int), .int .i64 l.gen, .int .i64 (l.seq : Int), .int .i64 (l.fin : Int), .bool l.down]
theorem lg_cells {w : World} {b g : Nat} {l : Lg} {t : TypeId} (h : Blk w b (lgCells g l) t) : w.cell? ⟨b, 0, none⟩ = some (.pointer (some ⟨g, 0, none⟩)) ∧ w.cell? ⟨b, 1, none⟩ = some (.int .i64 (l.f : Int)) ∧ w.cell? ⟨b, 2, none⟩ = some (.int .i64 (l.blocks : Int)) ∧
    w.cell? ⟨b, 3, none⟩ = some (.int .i64 l.gen) ∧ w.cell? ⟨b, 4, none⟩ = some (.int .i64 (l.seq : Int)) ∧ w.cell? ⟨b, 5, none⟩ = some (.int .i64 (l.fin : Int)) ∧ w.cell? ⟨b, 6, none⟩ = some (.bool l.down) :=
  ⟨h.cell (i := 0) (by simp [lgCells]), h.cell (i := 1) (by simp [lgCells]), h.cell (i := 2) (by simp [lgCells]), h.cell (i := 3) (by simp [lgCells]), h.cell (i := 4) (by simp [lgCells]), h.cell (i := 5) (by simp [lgCells]), h.cell (i := 6) (by simp [lgCells])⟩
/-- what a call leaves of a log and its disk -/
def LMoved (w : World) (g b : Nat) (F : Nat → Prop) (s : Dsk) (l : Lg) (w' : World) : Prop :=
  ∃ F', DiskAt w' g F' s ∧ Blk w' b (lgCells g l) 74 ∧ ¬ F' b ∧ Spared w w' (fun k => F k ∨ k = b) ∧ ∀ k, F' k → F k ∨ w.heap.size ≤ k
/-- a log and its disk -/
structure LogOn (w : World) (g b : Nat) (F : Nat → Prop) (s : Dsk) (l : Lg) : Prop where
  disk : DiskAt w g F s
  blk : Blk w b (lgCells g l) 74
  not : ¬ F b
  fits : l.Fits s

section
variable {w : World} {g b : Nat} {F : Nat → Prop} {s : Dsk} {l : Lg}
theorem LogOn.still {w' : World} (h : LogOn w g b F s l) (hb : Below w.heap.size w w') : LogOn w' g b F s l := ⟨h.disk.still hb, h.blk.below hb h.blk.lt, h.not, h.fits⟩
theorem gen_any (h : Blk w b (lgCells g l) 74) : Calls Try.prog 30 #[.pointer (some ⟨b, 0, none⟩)] w fun e w' => e = .returned (.int .i64 l.gen) ∧ w' = w := by
  obtain ⟨_, _, _, c3, _⟩ := lg_cells h
  clear h
  go_enter Try.func30, Try.ntmps30
  go_wp2
  go_ret
  exact ⟨rfl, rfl⟩
theorem seq_any (h : Blk w b (lgCells g l) 74) : Calls Try.prog 29 #[.pointer (some ⟨b, 0, none⟩)] w fun e w' => e = .returned (.int .i64 (l.seq : Int)) ∧ w' = w := by
  obtain ⟨_, _, _, _, c4, _⟩ := lg_cells h
  clear h
  go_enter Try.func29, Try.ntmps29
  go_wp2
  go_ret
  exact ⟨rfl, rfl⟩
theorem room_any (h : Blk w b (lgCells g l) 74) (hf : l.fin ≤ l.blocks * 64) (hb : l.blocks ≤ 4096) : Calls Try.prog 33 #[.pointer (some ⟨b, 0, none⟩)] w fun e w' => e = .returned (.int .i64 (l.room : Int)) ∧ ∃ m, w' = w.drewN m := by
  obtain ⟨_, _, c2, _, _, c5, _⟩ := lg_cells h
  have HR : Hid ((l.room : Int) = (l.blocks : Int) * 64 - (l.fin : Int)) := by show (l.room : Int) = _; unfold Lg.room; omega
  obtain ⟨r, hr⟩ : ∃ r : Int, r = (l.room : Int) := ⟨_, rfl⟩
  rw [← hr] at HR ⊢
  clear hr
  have hw1 : IntKind.i64.wrap ((l.blocks : Int) * 64) = (l.blocks : Int) * 64 := by rw [IntKind.wrap_i64]; omega
  have hw2 : IntKind.i64.wrap ((l.blocks : Int) * 64 - (l.fin : Int)) = (l.blocks : Int) * 64 - (l.fin : Int) := by rw [IntKind.wrap_i64]; omega
  clear h
  go_enter Try.func33, Try.ntmps33
  go_wp2
  go_quiet (fail)
  go_wp2
  go_ret
  exact ⟨by rw [HR.out]; rfl, _, rfl⟩
end
theorem gen_nil (w : World) : Calls Try.prog 30 #[.pointer none] w fun e w' => e = .returned (.int .i64 0) ∧ w' = w := by
  go_enter Try.func30, Try.ntmps30
  go_wp2
  go_ret
  exact ⟨rfl, rfl⟩
theorem putErr_cases (s : Dsk) (i : Nat) (R : List (List UInt8)) : s.putErr i R = 0 ∨ s.putErr i R = 5 := by
  unfold Dsk.putErr
  split
  · exact .inl rfl
  · split
    · exact .inr rfl
    · exact .inl rfl
theorem layErr_cases (s : Dsk) (b : List UInt8) (i : Nat) : s.layErr b i = 0 ∨ s.layErr b i = 5 := putErr_cases _ _ _

set_option maxRecDepth 100000 in
set_option maxHeartbeats 2000000 in
theorem append_any (w : World) (g b : Nat) (F : Nat → Prop) (s : Dsk) (l : Lg) (A : Option Addr) (d : List UInt8) (n c q : Nat) (h : LogOn w g b F s l) (ha : Seen w A d) (hn : d.length = n) (hl : n ≤ 9223372036854775807) (hf : s.Few q) (hq : q ≤ 700000) :
    Calls Try.prog 12 #[.pointer (some ⟨b, 0, none⟩), .slice A n c] w fun e w' => e = .returned (.int .i64 (l.err s d)) ∧ LMoved w g b F (l.dsk s d) (l.next s d) w' := by
  have HSTAY : Hid (∀ w', Below w.heap.size w w' → LMoved w g b F s l w') := fun w' hb => ⟨F, h.disk.still hb, h.blk.below hb h.blk.lt, h.not, .of_below hb _, fun _ h => .inl h⟩
  have H := Lib.hid h
  have hK4 := h.disk.ok.hi
  have hfin := h.fits.fin
  have hbl := h.fits.area
  have hsq := h.fits.seq
  have hg1 := h.fits.gen1
  have hg2 := h.fits.gen2
  obtain ⟨c0, c1, c2, c3, c4, c5, c6⟩ := lg_cells h.blk
  have f4 := h.blk.free 4
  have f5 := h.blk.free 5
  have f6 := h.blk.free 6
  have HA := Lib.hid ha
  have HN := Lib.hid hn
  have HF := Lib.hid hf
  clear h ha hn hf
  by_cases hd : l.down = true
  · have HE : Hid (l.err s d = 5 ∧ l.dsk s d = s ∧ l.next s d = l) := by
      unfold Lg.err Lg.dsk Lg.next
      rw [hd]
      exact ⟨rfl, rfl, rfl⟩
    rw [hd] at c6
    clear hd
    go_enter Try.func12, Try.ntmps12
    go_wp2
    go_ret
    rw [HE.out.1, HE.out.2.1, HE.out.2.2]
    exact ⟨rfl, HSTAY.out _ (Below.refl _ _)⟩
  have hd' : l.down = false := by cases h : l.down <;> simp_all
  have HD := Lib.hid hd'
  rw [hd'] at c6
  clear hd hd'
  have HENC := Lib.hid (encode_any l.gen (l.seq : Int) A d n c w.drew (HA.out.below (Below.refl _ _).drew) HN.out hl (by omega) (by omega) (by omega) (by omega))
  have HCODE : Hid (l.code d = encF l.gen (l.seq : Int) d) := rfl
  rw [← HCODE.out] at HENC
  have hcf := l.code_fits d
  go_enter Try.func12, Try.ntmps12
  go_wp2
  go_still_tail 10, (by kernel_rfl)
  go_wp2_with fail
  refine HENC.out.mono ?_
  rintro e w1 ⟨A1, n1, c1', rfl, hm1⟩
  have HM1 := Lib.hid hm1
  have HB1 : Hid (Below w.heap.size w w1) := undrew hm1.2.2
  have H1 := Lib.hid (H.out.still HB1.out)
  obtain ⟨c0, c1, c2, c3, c4, c5, c6⟩ := lg_cells H1.out.blk
  have f4 := H1.out.blk.free 4
  have f5 := H1.out.blk.free 5
  have f6 := H1.out.blk.free 6
  have hn1 : n1 ≤ 65560 := by rw [← hm1.1]; exact hcf
  have HL1 := Lib.hid hm1.1
  have HROOM : Hid (Calls Try.prog 33 #[.pointer (some ⟨b, 0, none⟩)] w1 fun e w' => e = .returned (.int .i64 (l.room : Int)) ∧ Below w1.heap.size w1 w') := (room_any (w := w1) H1.out.blk hfin (by omega)).mono fun e w' ⟨he, m, hm⟩ => ⟨he, by rw [hm]; exact below_drewN (Below.refl _ _) m⟩
  clear hm1 HENC
  by_cases hfull : l.full d = true
  · have HE : Hid (l.err s d = 4 ∧ l.dsk s d = s ∧ l.next s d = l) := by
      unfold Lg.err Lg.dsk Lg.next
      rw [HD.out, hfull]
      exact ⟨rfl, rfl, rfl⟩
    have hfl : n1 = 0 ∨ l.room < n1 := by
      unfold Lg.full at hfull
      rw [Bool.or_eq_true, decide_eq_true_iff, decide_eq_true_iff, HL1.out] at hfull
      exact hfull
    clear hfull
    by_cases h0 : n1 = 0
    · have hz : ((n1 : Int) == 0) = true := by rw [h0]; rfl
      have hz' : (n1 : Int) = 0 := by omega
      clear h0 hfl
      go_wp2
      go_ret
      rw [HE.out.1, HE.out.2.1, HE.out.2.2]
      exact ⟨rfl, HSTAY.out _ HB1.out⟩
    · have hz : ((n1 : Int) == 0) = false := by rw [beq_eq_false_iff_ne]; omega
      have hz' : ¬ (n1 : Int) = 0 := by omega
      have hr : (l.room : Int) < (n1 : Int) := by omega
      clear h0 hfl
      go_wp2_with (go_at_call 33; refine HROOM.out.mono ?_; rintro e w2 ⟨rfl, hb2⟩; have HB2 := Lib.hid hb2; clear hb2)
      go_ret
      rw [HE.out.1, HE.out.2.1, HE.out.2.2]
      exact ⟨rfl, HSTAY.out _ (hop HB1.out HB2.out)⟩
  have hfull' : l.full d = false := by simpa using hfull
  obtain ⟨p1, p2, p3, p4⟩ := Lg.full_false hfull'
  obtain ⟨m, r1, r2, r3⟩ := Lg.rows (s := s) H.out.fits H.out.disk.ok hfull'
  rw [HL1.out] at p1 p2 r3
  have hz : ((n1 : Int) == 0) = false := by rw [beq_eq_false_iff_ne]; omega
  have hz' : ¬ (n1 : Int) = 0 := by omega
  have hr : ¬ (l.room : Int) < (n1 : Int) := by omega
  have hroom : l.room = l.blocks * 64 - l.fin := rfl
  have HERR : Hid (l.err s d = s.layErr (l.laid s d) (l.f + l.fin / 64) ∧ l.dsk s d = s.lay (l.laid s d) (l.f + l.fin / 64)) := by
    unfold Lg.err Lg.dsk
    rw [HD.out, hfull']
    exact ⟨rfl, rfl⟩
  have HNX : Hid (l.next s d = if l.err s d = 0 then l.put d else { l with down := true }) := by
    show l.next s d = _
    unfold Lg.next
    rw [HD.out, hfull']
    rfl
  have haw : Away w1 F A1 (l.code d) := (Made.past HM1.out.2).mono (fun b hb => H.out.disk.lt b hb)
  have HWR := Lib.hid (fun w2 (hb2 : Below w1.heap.size w1 w2) => area_write w2.drew g F s l.f l.blocks l.fin A1 (l.code d) n1 c1' q (H1.out.disk.still hb2.drew) (haw.moved (.of_below hb2.drew F) (fun _ h => .inl h)) HL1.out p1 hbl (by omega) HF.out (by omega))
  have HLD : Hid (l.laid s d = laidL s.view l.f l.blocks l.fin (l.code d)) := rfl
  rw [← HLD.out, ← HERR.out.1, ← HERR.out.2] at HWR
  have hcs : l.err s d = 0 ∨ l.err s d = 5 := by rw [HERR.out.1]; exact layErr_cases _ _ _
  obtain ⟨E, hE⟩ : ∃ E, E = l.err s d := ⟨_, rfl⟩
  rw [← hE] at hcs HNX HWR
  have HE := Lib.hid hE
  have HFL := Lib.hid p2
  clear hfull hfull' p1 p2 p3 p4 r1 r2 r3 haw hE hcf hroom
  go_wp2_with (go_at_call 33; refine HROOM.out.mono ?_; rintro e w2 ⟨rfl, hb2⟩; have HB2 := Lib.hid hb2; clear hb2)
  obtain ⟨c0, c1, c2, c3, c4, c5, c6⟩ := lg_cells (H1.out.still HB2.out).blk
  go_still_tail 9, (by kernel_rfl)
  go_wp2_with fail
  refine (HWR.out _ HB2.out).mono ?_
  rintro e w3 ⟨rfl, hp3⟩
  have P3 : Hid (Moved w g F (l.dsk s d) w3) := hp3.before (hop HB1.out HB2.out).drew
  have HX3 := Lib.hid (P3.out.blk H.out.blk H.out.not)
  obtain ⟨_, _, _, _, d4, d5, _⟩ := lg_cells HX3.out
  have f4' := HX3.out.free 4
  have f5' := HX3.out.free 5
  have f6' := HX3.out.free 6
  clear hp3 HWR hz hz' hr c0 c1 c2 c3 c4 c5 c6 f4 f5 f6
  rcases hcs with h0 | h5
  · subst h0
    have hw1 : IntKind.i64.wrap ((l.fin : Int) + (n1 : Int)) = (l.fin : Int) + (n1 : Int) := by rw [IntKind.wrap_i64]; omega
    have hw2 : IntKind.i64.wrap ((l.seq : Int) + 1) = (l.seq : Int) + 1 := by rw [IntKind.wrap_i64]; omega
    have HB3 : Hid (Blk ((w3.setCell ⟨b, 5, none⟩ (.int .i64 ((l.fin : Int) + (n1 : Int)))).setCell ⟨b, 4, none⟩ (.int .i64 ((l.seq : Int) + 1))) b (lgCells g (l.put d)) 74) := by
      have := (HX3.out.set 5 (.int .i64 ((l.fin : Int) + (n1 : Int)))).set 4 (.int .i64 ((l.seq : Int) + 1))
      have e : lgCells g (l.put d) = ((lgCells g l).set 5 (.int .i64 ((l.fin : Int) + (n1 : Int)))).set 4 (.int .i64 ((l.seq : Int) + 1)) := by
        have e1 : (((l.fin + n1 : Nat)) : Int) = (l.fin : Int) + (n1 : Int) := by omega
        have e2 : (((l.seq + 1 : Nat)) : Int) = (l.seq : Int) + 1 := by omega
        simp only [lgCells, Lg.put, HL1.out, e1, e2, List.set_cons_succ, List.set_cons_zero]
      show Blk _ b (lgCells g (l.put d)) _
      rw [e]; exact this
    go_wp2
    go_ret
    obtain ⟨F3, h31, h32, h33⟩ := P3.out
    have hbw := H.out.blk.lt
    have hnF3 : ¬ F3 b := fun hf => (h33 b hf).elim H.out.not (fun h => by omega)
    have hs5 : Spared w3 ((w3.setCell ⟨b, 5, none⟩ (.int .i64 ((l.fin : Int) + (n1 : Int)))).setCell ⟨b, 4, none⟩ (.int .i64 ((l.seq : Int) + 1))) (· = b) := ((Spared.refl w3 (· = b)).setCell rfl 5 _).setCell rfl 4 _
    refine ⟨by rw [← HE.out]; rfl, F3, h31.apart hs5 (fun k hk e => hnF3 (by rw [← e]; exact hk)), ?_, hnF3, ?_, h33⟩
    · rw [HNX.out]; exact HB3.out
    · exact (h32.mono (fun _ h => .inl h)).trans (hs5.mono (G := fun k => F k ∨ k = b) (fun _ h => .inr h)) (fun _ h => .inl h)
  · subst h5
    have HB3 : Hid (Blk (w3.setCell ⟨b, 6, none⟩ (.bool true)) b (lgCells g { l with down := true }) 74) := HX3.out.set 6 (.bool true)
    go_wp2
    go_ret
    obtain ⟨F3, h31, h32, h33⟩ := P3.out
    have hbw := H.out.blk.lt
    have hnF3 : ¬ F3 b := fun hf => (h33 b hf).elim H.out.not (fun h => by omega)
    have hs5 : Spared w3 (w3.setCell ⟨b, 6, none⟩ (.bool true)) (· = b) := (Spared.refl w3 (· = b)).setCell rfl 6 _
    refine ⟨by rw [← HE.out]; rfl, F3, h31.apart hs5 (fun k hk e => hnF3 (by rw [← e]; exact hk)), ?_, hnF3, ?_, h33⟩
    · rw [HNX.out]; exact HB3.out
    · exact (h32.mono (fun _ h => .inl h)).trans (hs5.mono (G := fun k => F k ∨ k = b) (fun _ h => .inr h)) (fun _ h => .inl h)
end Go.Proofs.Ytkbjhnlihnakkaa

namespace Go.Proofs.Ytkbjhnlihnakkaa
open Go.RowKit

/-- the area lies on the disk -/
def OnDisk (s : Dsk) (f N : Int) : Prop := 0 ≤ f ∧ 1 ≤ N ∧ N ≤ (s.K.length : Int) - f
/-- a log that a call has made, and its disk -/
def LNew (w : World) (g b : Nat) (F : Nat → Prop) (s : Dsk) (l : Lg) (w' : World) : Prop :=
  w.heap.size ≤ b ∧ ∃ F', DiskAt w' g F' s ∧ Blk w' b (lgCells g l) 74 ∧ ¬ F' b ∧ Spared w w' F ∧ ∀ k, F' k → F k ∨ w.heap.size ≤ k
/-- what Begin answers -/
def BeginOut (w : World) (g : Nat) (F : Nat → Prop) (s : Dsk) (f N gen : Int) (d : List UInt8) (e : Ending) (w' : World) : Prop :=
  (¬ (OnDisk s f N ∧ 1 ≤ gen ∧ gen ≤ 1152921504606846976) ∧ e = .returned (.tuple #[.pointer none, .int .i64 1]) ∧ Below w.heap.size w w') ∨
  ((OnDisk s f N ∧ 1 ≤ gen ∧ gen ≤ 1152921504606846976) ∧ (Lg.new f.toNat N.toNat gen).err s d ≠ 0 ∧ e = .returned (.tuple #[.pointer none, .int .i64 ((Lg.new f.toNat N.toNat gen).err s d)]) ∧ Moved w g F ((Lg.new f.toNat N.toNat gen).dsk s d) w') ∨
  ((OnDisk s f N ∧ 1 ≤ gen ∧ gen ≤ 1152921504606846976) ∧ (Lg.new f.toNat N.toNat gen).err s d = 0 ∧ ∃ b, e = .returned (.tuple #[.pointer (some ⟨b, 0, none⟩), .int .i64 0]) ∧ LNew w g b F ((Lg.new f.toNat N.toNat gen).dsk s d) ((Lg.new f.toNat N.toNat gen).next s d) w')
theorem new_fits {s : Dsk} {f N gen : Int} (h : OnDisk s f N ∧ 1 ≤ gen ∧ gen ≤ 1152921504606846976) : (Lg.new f.toNat N.toNat gen).Fits s := by
  obtain ⟨⟨h1, h2, h3⟩, h4, h5⟩ := h
  exact ⟨by show 1 ≤ N.toNat; omega, by show f.toNat + N.toNat ≤ _; omega, Nat.zero_le _, Nat.le_refl _, h4, h5⟩

set_option maxRecDepth 100000 in
set_option maxHeartbeats 2000000 in
theorem begin_any (w : World) (g : Nat) (F : Nat → Prop) (s : Dsk) (f N gen : Int) (A : Option Addr) (d : List UInt8) (n c q : Nat) (h : DiskAt w g F s) (ha : Seen w A d) (hn : d.length = n) (hl : n ≤ 9223372036854775807) (hf : s.Few q) (hq : q ≤ 700000) (f0 : -9223372036854775808 ≤ f) (f1 : f ≤ 9223372036854775807) :
    Calls Try.prog 14 #[.pointer (some ⟨g, 0, none⟩), .int .i64 f, .int .i64 N, .int .i64 gen, .slice A n c] w (BeginOut w g F s f N gen d) := by
  have hK4 := h.ok.hi
  have HB := Lib.hid (boxA_below w g f N)
  have H1 := Lib.hid (h.still HB.out)
  have HV := Lib.hid (area_valid (boxA w g f N) g F s f N H1.out f0 f1)
  obtain ⟨c0, c1, c2⟩ := area_cells (boxA_blk w g f N)
  have HX1 := Lib.hid (boxA_blk w g f N)
  obtain ⟨v, hv⟩ : ∃ v, v = decide (0 ≤ f ∧ 1 ≤ N ∧ N ≤ (s.K.length : Int) - f) := ⟨_, rfl⟩
  rw [← hv] at HV
  have HVD := Lib.hid hv
  clear hv
  obtain ⟨w1, hw1⟩ : ∃ w1, w1 = boxA w g f N := ⟨_, rfl⟩
  have HW' : Hid (w.alloc (.cells #[.pointer (some ⟨g, 0, none⟩), .int .i64 f, .int .i64 N] 72) = w1) := hw1.symm
  rw [← hw1] at HB H1 HV HX1
  clear c0 c1 c2 hw1 h
  by_cases hgood : OnDisk s f N ∧ 1 ≤ gen ∧ gen ≤ 1152921504606846976
  · have hv' : v = true := by rw [HVD.out]; exact decide_eq_true hgood.1
    subst hv'
    have hg1 : ¬ gen < 1 := by omega
    have hg2 : ¬ 1152921504606846976 < gen := by omega
    have HG := Lib.hid hgood
    have hff : f = ((f.toNat : Nat) : Int) := by have := hgood.1.1; omega
    have hNN : N = ((N.toNat : Nat) : Int) := by have := hgood.1.2.1; omega
    have HFIT := Lib.hid (new_fits hgood)
    have HFF := Lib.hid hff
    have HNN := Lib.hid hNN
    clear hgood hff hNN HVD
    go_enter Try.func14, Try.ntmps14
    go_wp2_with fail
    rw [HW'.out]
    refine HV.out.mono ?_
    rintro e w2 ⟨rfl, hb2⟩
    have HB2 := Lib.hid (hop HB.out hb2)
    have H2 := Lib.hid (H1.out.still hb2)
    obtain ⟨c0, c1, c2⟩ := area_cells (HX1.out.below hb2 HX1.out.lt)
    have HLB := Lib.hid ((Below.refl w2.heap.size w2).alloc (Nat.le_refl _) (.cells #[.pointer (some ⟨g, 0, none⟩), .int .i64 f, .int .i64 N, .int .i64 gen, .int .i64 0, .int .i64 0, .bool false] 74))
    have HL : Hid (LogOn (w2.alloc (.cells #[.pointer (some ⟨g, 0, none⟩), .int .i64 f, .int .i64 N, .int .i64 gen, .int .i64 0, .int .i64 0, .bool false] 74)) g w2.heap.size F s (Lg.new f.toNat N.toNat gen)) := by
      refine ⟨H2.out.still HLB.out, ?_, fun hF => by have := H2.out.lt _ hF; omega, HFIT.out⟩
      have := Blk.new w2 (lgCells g (Lg.new f.toNat N.toNat gen)) 74
      have e : lgCells g (Lg.new f.toNat N.toNat gen) = [.pointer (some ⟨g, 0, none⟩), .int .i64 f, .int .i64 N, .int .i64 gen, .int .i64 0, .int .i64 0, .bool false] := by
        simp only [lgCells, Lg.new]
        rw [← HFF.out, ← HNN.out]
        rfl
      rw [e] at this ⊢
      exact this
    have HAP := Lib.hid (append_any _ g w2.heap.size F s (Lg.new f.toNat N.toNat gen) A d n c q HL.out (ha.below (hop HB2.out HLB.out)) hn hl hf hq)
    obtain ⟨w3, hw3⟩ : ∃ w3, w3 = w2.alloc (.cells #[.pointer (some ⟨g, 0, none⟩), .int .i64 f, .int .i64 N, .int .i64 gen, .int .i64 0, .int .i64 0, .bool false] 74) := ⟨_, rfl⟩
    have HSZ : Hid (w3.heap.size = w2.heap.size + 1) := by show _ = _; rw [hw3]; simp
    rw [← hw3] at HAP HLB HL
    have HW3 : Hid (w2.alloc (.cells #[.pointer (some ⟨g, 0, none⟩), .int .i64 f, .int .i64 N, .int .i64 gen, .int .i64 0, .int .i64 0, .bool false] 74) = w3) := hw3.symm
    clear hb2 hw3
    go_wp2_with fail
    rw [HW3.out]
    obtain ⟨E, hE⟩ : ∃ E, E = (Lg.new f.toNat N.toNat gen).err s d := ⟨_, rfl⟩
    rw [← hE] at HAP
    have HE := Lib.hid hE
    clear hE c0 c1 c2 ha hn hf hg1 hg2
    refine HAP.out.mono ?_
    rintro e w4 ⟨rfl, F4, h41, h42, h43, h44, h45⟩
    have HNF2 : ¬ F w2.heap.size := fun hF => by have := H2.out.lt _ hF; omega
    have HS4 : Hid (Spared w w4 F) := by
      have h1 : Spared w w3 F := .of_below (hop HB2.out HLB.out) F
      exact h1.trans h44 (fun k hk => hk.elim .inl (fun e => .inr (by rw [e]; exact HB2.out.size)))
    have HF4 : Hid (∀ k, F4 k → F k ∨ w.heap.size ≤ k) := fun k hk => (h45 k hk).elim .inl (fun h => .inr (by have := HB2.out.size; rw [HSZ.out] at h; omega))
    have H41 := Lib.hid h41
    have H42 := Lib.hid h42
    have H43 := Lib.hid h43
    clear h41 h42 h43 h44 h45 HNF2 HAP
    by_cases he : E = 0
    · have HE0 : Hid ((Lg.new f.toNat N.toNat gen).err s d = 0) := by show _ = _; rw [← HE.out]; exact he
      subst he
      go_wp2
      go_ret2
      exact .inr (.inr ⟨HG.out, HE0.out, _, rfl, HB2.out.size, F4, H41.out, H42.out, H43.out, HS4.out, HF4.out⟩)
    · have hne : (E == 0) = false := by rw [beq_eq_false_iff_ne]; exact he
      have HE0 : Hid ((Lg.new f.toNat N.toNat gen).err s d ≠ 0) := by show _ ≠ _; rw [← HE.out]; exact he
      go_wp2
      go_ret2
      exact .inr (.inl ⟨HG.out, HE0.out, by rw [← HE.out]; rfl, F4, H41.out, HS4.out, HF4.out⟩)
  · have HG := Lib.hid hgood
    by_cases hv' : v = true
    · subst hv'
      have hod : 0 ≤ f ∧ 1 ≤ N ∧ N ≤ (s.K.length : Int) - f := of_decide_eq_true HVD.out.symm
      by_cases hg1 : gen < 1
      · have d1 : decide (gen < 1) = true := decide_eq_true hg1
        clear hgood hod
        go_enter Try.func14, Try.ntmps14
        go_wp2_with fail
        rw [HW'.out]
        refine HV.out.mono ?_
        rintro e w2 ⟨rfl, hb2⟩
        have HB2 := Lib.hid (hop HB.out hb2)
        clear hb2
        go_wp2
        go_ret2
        exact .inl ⟨HG.out, rfl, HB2.out⟩
      · have hg2 : 1152921504606846976 < gen := by
          rcases Int.lt_or_le 1152921504606846976 gen with h | h
          · exact h
          · exact absurd ⟨hod, by omega, h⟩ hgood
        have d1 : decide (gen < 1) = false := decide_eq_false hg1
        have d2 : decide (1152921504606846976 < gen) = true := decide_eq_true hg2
        clear hgood hod
        go_enter Try.func14, Try.ntmps14
        go_wp2_with fail
        rw [HW'.out]
        refine HV.out.mono ?_
        rintro e w2 ⟨rfl, hb2⟩
        have HB2 := Lib.hid (hop HB.out hb2)
        clear hb2
        go_wp2
        go_ret2
        exact .inl ⟨HG.out, rfl, HB2.out⟩
    · have hv' : v = false := by simpa using hv'
      subst hv'
      clear hgood
      go_enter Try.func14, Try.ntmps14
      go_wp2_with fail
      rw [HW'.out]
      refine HV.out.mono ?_
      rintro e w2 ⟨rfl, hb2⟩
      have HB2 := Lib.hid (hop HB.out hb2)
      clear hb2
      go_wp2
      go_ret2
      exact .inl ⟨HG.out, rfl, HB2.out⟩
end Go.Proofs.Ytkbjhnlihnakkaa
