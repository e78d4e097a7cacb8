/-
  An area's small methods: valid, before, filled; put: whole blocks are written and synced. Conditions: as each says.
-/
import Derived.Test.YtkbjhnlihnakkaaLgB
import Derived.Test.YtkbjhnlihnakkaaMadeN
import Derived.Test.YtkbjhnlihnakkaaExtend
import Derived.Deep.QuietTactic
import Derived.BigQuiet
import Derived.StillTailTactics
namespace Go.Proofs.Ytkbjhnlihnakkaa
open Go.RowKit

def areaCells (g : Nat) (f N : Int) : List Value := [.pointer (some ⟨g, 0, none⟩), .int .i64 f, .int .i64 N]
theorem area_cells {w : World} {b g : Nat} {f N : Int} {t : TypeId} (h : Blk w b (areaCells g f N) t) : w.cell? ⟨b, 0, none⟩ = some (.pointer (some ⟨g, 0, none⟩)) ∧ w.cell? ⟨b, 1, none⟩ = some (.int .i64 f) ∧ w.cell? ⟨b, 2, none⟩ = some (.int .i64 N) :=
  ⟨h.cell (i := 0) (by simp [areaCells]), h.cell (i := 1) (by simp [areaCells]), h.cell (i := 2) (by simp [areaCells])⟩
/-- the area's own block -/
def boxA (w : World) (g : Nat) (f N : Int) : World := w.alloc (.cells #[.pointer (some ⟨g, 0, none⟩), .int .i64 f, .int .i64 N] 72)
theorem boxA_blk (w : World) (g : Nat) (f N : Int) : Blk (boxA w g f N) w.heap.size (areaCells g f N) 72 := Blk.new w (areaCells g f N) _
theorem boxA_below (w : World) (g : Nat) (f N : Int) : Below w.heap.size w (boxA w g f N) := (Below.refl _ _).alloc (Nat.le_refl _) _
theorem boxA_size (w : World) (g : Nat) (f N : Int) : (boxA w g f N).heap.size = w.heap.size + 1 := by simp [boxA]
theorem Moved.blk {w w' : World} {g b : Nat} {F : Nat → Prop} {s : Dsk} {L : List Value} {t : TypeId} (h : Moved w g F s w') (hb : Blk w b L t) (hF : ¬ F b) : Blk w' b L t := by
  obtain ⟨_, _, hs, _⟩ := h
  exact hs.blk hb hF
theorem Moved.before {w w1 w' : World} {g : Nat} {F : Nat → Prop} {s : Dsk} (h : Moved w1 g F s w') (hb : Below w.heap.size w w1) : Moved w g F s w' := by
  obtain ⟨F', h1, h2, h3⟩ := h
  exact ⟨F', h1, (Spared.of_below hb F).trans h2 (fun _ h => .inl h), fun k hk => (h3 k hk).elim .inl (fun h => .inr (Nat.le_trans hb.size h))⟩
theorem Moved.size {w w' : World} {g : Nat} {F : Nat → Prop} {s : Dsk} (h : Moved w g F s w') : w.heap.size ≤ w'.heap.size := by obtain ⟨_, _, h, _⟩ := h; exact h.size
theorem Moved.away {w w' : World} {g : Nat} {F : Nat → Prop} {s : Dsk} {A : Option Addr} {l : List UInt8} (h : Moved w g F s w') (ha : Away w F A l) : Seen w' A l := by
  obtain ⟨F', _, h2, h3⟩ := h
  exact (ha.moved h2 h3).seen
theorem Moved.then {w w1 w' : World} {g : Nat} {F : Nat → Prop} {s s' : Dsk} (h : Moved w g F s w1) (k : ∀ F', DiskAt w1 g F' s → Moved w1 g F' s' w') : Moved w g F s' w' := by
  obtain ⟨F1, h1, h2, h3⟩ := h
  exact .trans h2 h3 (k F1 h1)

set_option maxRecDepth 100000 in
set_option maxHeartbeats 1000000 in
theorem area_put (w : World) (g : Nat) (F : Nat → Prop) (s : Dsk) (f i N : Nat) (B : Option Addr) (b : List UInt8) (c m q : Nat) (h : DiskAt w g F s) (hb : Away w F B b) (hn : b.length = m * 64) (hc : m * 64 ≤ c) (hi : f + i + m ≤ s.K.length) (hf : s.Few q) (hq : q + m ≤ 900000) :
    Calls Try.prog 53 #[.agg #[.pointer (some ⟨g, 0, none⟩), .int .i64 (f : Int), .int .i64 (N : Int)], .int .i64 (i : Int), .slice B (m * 64) c] w fun e w' => e = .returned (.int .i64 (s.putErr (f + i) (rowsOf b))) ∧ Moved w g F (s.putAll (f + i) (rowsOf b)) w' := by
  have hK4 := h.ok.hi
  have OK := Lib.hid h.ok
  have HR : Hid ((rowsOf b).length = m) := by show _ = _; rw [rowsOf_length, hn]; omega
  have HRL := Lib.hid (rowsOf_len b)
  have HRG : Hid (∀ k (h : k < (rowsOf b).length), (rowsOf b)[k] = (b.drop (k * 64)).take 64) := fun k h => rowsOf_get h
  generalize rowsOf b = R at HR HRL HRG ⊢
  have H := Lib.hid h
  have HA := Lib.hid hb
  have HN := Lib.hid hn
  have HF := Lib.hid hf
  clear h hb hn hf
  by_cases hm : m = 0
  · subst hm
    have hR : R = [] := List.eq_nil_of_length_eq_zero HR.out
    have h1 : s.putErr (f + i) R = 0 := by unfold Dsk.putErr; rw [if_pos hR]
    have h2 : s.putAll (f + i) R = s := by unfold Dsk.putAll; rw [if_pos hR]
    rw [h1, h2]
    have HB := Lib.hid (boxA_below w g f N)
    clear h1 h2 hR
    have e0 : (0 : Nat) * 64 = 0 := rfl
    rw [e0]
    go_enter Try.func53, Try.ntmps53
    go_wp2
    go_ret
    exact ⟨rfl, .still H.out HB.out⟩
  have hm0 : 0 < m := by omega
  have HNE : Hid (¬ R = []) := fun e => by have := HR.out; rw [e] at this; simp at this; omega
  have HBX := Lib.hid (boxA_blk w g f N)
  have HB := Lib.hid (boxA_below w g f N)
  have HNF : Hid (¬ F w.heap.size) := fun hF => by have := H.out.lt _ hF; omega
  have HA1 : Hid (Away (boxA w g f N) F B b) := HA.out.moved (.of_below HB.out F) (fun _ h => .inl h)
  have HM1 : Hid (Moved (boxA w g f N) g F s (boxA w g f N)) := .still (H.out.still HB.out) (Below.refl _ _)
  obtain ⟨w1, hw1⟩ : ∃ w1, w1 = boxA w g f N := ⟨_, rfl⟩
  have HW1 := Lib.hid hw1
  rw [← hw1] at HBX HB HA1 HM1
  clear hw1 HA
  have hm64 : ¬ (m : Int) * 64 = 0 := by omega
  have hm64' : ((m : Int) * 64 == 0) = false := by rw [beq_eq_false_iff_ne]; exact hm64
  have hd64 : Int.tdiv ((m : Int) * 64) 64 = (m : Int) := by rw [Int.tdiv_eq_ediv_of_nonneg (by omega)]; omega
  go_enter Try.func53, Try.ntmps53
  go_wp2
  go_loopw [16] (fun a wr => ∃ k : Nat, k ≤ m ∧ a = .int .i64 k ∧ Moved w1 g F (s.puts (f + i) (R.take k)) wr ∧ (s.puts (f + i) (R.take k)).Few (q + k)) (fun a _ => m - (intOf a).toNat)
  case atStart =>
    refine ⟨0, Nat.zero_le _, rfl, ?_, HF.out⟩
    have := HM1.out
    rw [HW1.out] at this ⊢
    exact this
  case round =>
    clear HM1 hm64 hm64' hd64
    obtain ⟨k, hk, rfl, hmv, hfew⟩ := hrel
    have HM := Lib.hid hmv
    have HFW := Lib.hid hfew
    obtain ⟨c0, c1, c2⟩ := area_cells (hmv.blk HBX.out HNF.out)
    clear hmv hfew
    by_cases hlt : k < m
    · have hkl : (k : Int) < (m : Int) := by omega
      have hkR : k < R.length := by rw [HR.out]; exact hlt
      obtain ⟨A', c', hcut, hs', hl'⟩ := (HM.out.away HA1.out).mid_cut (m * 64) c (k * 64) ((k + 1) * 64) 64 ((k : Int) * 64) (((k : Int) + 1) * 64) (by omega) (by omega) (by omega) HN.out (by omega) (by omega) hc
      have e64 : ((m * 64 : Nat) : Int) = (m : Int) * 64 := by omega
      have HPW := Lib.hid (Dsk.wput_pw (s := s.puts (f + i) (R.take k)) (i := f + i + k) (l := (b.drop (k * 64)).take 64) (by rw [Dsk.puts_K]; omega) hl')
      have HST := Lib.hid (Dsk.puts_step (s := s) (i := f + i) hkR)
      rw [HRG.out k hkR] at HST
      have HSTOP := Lib.hid (fun h => Dsk.puts_stop (s := s) (i := f + i) (R := R) (k := k) h)
      have HFP := Lib.hid (HFW.out.pw (f + i + k) ((b.drop (k * 64)).take 64))
      generalize hst : s.puts (f + i) (R.take k) = st at *
      have HL' := Lib.hid hl'
      have HS' := Lib.hid hs'
      generalize (b.drop (k * 64)).take 64 = x at *
      have HW : Hid (Calls Try.prog 67 #[.pointer (some ⟨g, 0, none⟩), .int .i64 ((f : Int) + (i : Int) + (k : Int)), .slice A' 64 c'] wr fun e w' => e = .returned (.int .i64 (if st.off then 5 else 0)) ∧ Moved w1 g F (st.pw (f + i + k) x) w') := by
        obtain ⟨F', hd, hs2, hf2⟩ := HM.out
        have := write_all wr g F' st ((f + i + k : Nat) : Int) A' x 64 c' hd HL'.out (by decide) HS'.out (HFW.out.mono (by omega))
        rw [HPW.out.1, HPW.out.2, show ((f + i + k : Nat) : Int) = (f : Int) + (i : Int) + (k : Int) by omega] at this
        exact this.mono fun e w' ⟨he, hmv⟩ => ⟨he, .trans hs2 hf2 hmv⟩
      clear hst hl' hs' HPW HL' HS' hkR
      by_cases ho : st.off = true
      · have HE : Hid (s.putErr (f + i) R = 5 ∧ s.putAll (f + i) R = st) := by
          have e := HSTOP.out ho
          unfold Dsk.putErr Dsk.putAll
          rw [if_neg HNE.out, if_neg HNE.out, e, if_pos ho]
          exact ⟨rfl, by unfold Dsk.sput; rw [if_pos ho]⟩
        have HPO : Hid (st.pw (f + i + k) x = st) := Dsk.pw_off ho _ _
        rw [HPO.out, if_pos ho] at HW
        clear ho HSTOP HST HFP HPO
        go_wp2_with (go_at_call 67; refine HW.out.mono ?_; rintro e w6 ⟨rfl, hp6⟩; have P6 := Lib.hid hp6; clear hp6)
        go_ret
        rw [HE.out.1, HE.out.2]
        exact ⟨rfl, P6.out.before HB.out⟩
      · have ho' : st.off = false := by cases hs : st.off <;> simp_all
        rw [ho'] at HW
        have HW' : Hid (Calls Try.prog 67 #[.pointer (some ⟨g, 0, none⟩), .int .i64 ((f : Int) + (i : Int) + (k : Int)), .slice A' 64 c'] wr fun e w' => e = .returned (.int .i64 0) ∧ Moved w1 g F (st.pw (f + i + k) x) w') := HW.out
        clear ho ho' HSTOP HW
        go_wp2_with (go_at_call 67; refine HW'.out.mono ?_; rintro e w6 ⟨rfl, hp6⟩; have P6 := Lib.hid hp6; clear hp6)
        go_roundw
        case rel => exact ⟨k + 1, by omega, by go_num, by rw [HST.out]; exact P6.out, by rw [HST.out]; exact HFP.out⟩
        case measure => simp [intOf]; omega
    · obtain rfl : k = m := by omega
      have ht : R.take k = R := List.take_of_length_le (by rw [HR.out]; exact Nat.le_refl _)
      rw [ht] at HM HFW
      have HE : Hid (s.putErr (f + i) R = (if (s.puts (f + i) R).off then 5 else 0) ∧ s.putAll (f + i) R = (s.puts (f + i) R).sput) := by
        unfold Dsk.putErr Dsk.putAll
        rw [if_neg HNE.out, if_neg HNE.out]
        exact ⟨rfl, rfl⟩
      generalize s.puts (f + i) R = st at *
      have HS : Hid (Calls Try.prog 68 #[.pointer (some ⟨g, 0, none⟩)] wr fun e w' => e = .returned (.int .i64 (if st.off then 5 else 0)) ∧ Moved w1 g F st.sput w') := by
        obtain ⟨F', hd, hs2, hf2⟩ := HM.out
        exact (sync_all wr g F' st hd (HFW.out.mono (by omega))).mono fun e w' ⟨he, hmv⟩ => ⟨he, .trans hs2 hf2 hmv⟩
      obtain ⟨E, hE⟩ : ∃ E : Int, E = if st.off then 5 else 0 := ⟨_, rfl⟩
      rw [← hE] at HE HS
      clear ht hE
      go_wp2_with (go_at_call 68; refine HS.out.mono ?_; rintro e w6 ⟨rfl, hp6⟩; have P6 := Lib.hid hp6; clear hp6)
      go_ret
      rw [HE.out.1, HE.out.2]
      exact ⟨rfl, P6.out.before HB.out⟩
end Go.Proofs.Ytkbjhnlihnakkaa
