/-
  The statement DiskDoes, the stage's theorem: a disk answers any calls as the document says; what it keeps, whether the power is there and how much was done as well. Condition: the row's own.
-/
import Derived.Test.YtfcbkefpjfmgjaaPair
import Derived.Test.YtfcbkefpjfmgjaaOps
import Derived.Deep.RegionHeldLaw
import Derived.Deep.DrawnRows
namespace Go.Proofs.Ytfcbkefpjfmgjaa
open Go.RowKit

theorem pair_start {w w2 w3 : World} {g r : Nat} {n : Nat} {F G : Nat → Prop} (hb : Below w.heap.size w w2) (hd : DiskAt w2 g F (Dsk.new n)) (hF : ∀ k, F k → w.heap.size ≤ k) (hr : RefAt w3 r G (Dsk.new n)) (hG : ∀ k, G k → w2.heap.size ≤ k) (hb3 : Below w2.heap.size w2 w3) : Pair w g r (Dsk.new n) (Dsk.new n) none w3 :=
  ⟨F, G, hd.still hb3, hr, hF, fun q hq => Nat.le_trans hb.size (hG q hq), fun q hf hg => by have := hd.lt q hf; have := hG q hg; omega, hop hb hb3, fun p hp => by cases hp⟩

set_option maxRecDepth 100000 in
set_option maxHeartbeats 20000000 in
theorem diskDoes_walk (y : Int) (A : Option Addr) (l : List POp) (c : Nat) (w : World) (h0 : -9223372036854775808 ≤ y) (h1 : y ≤ 9223372036854775807) (hl : l.length ≤ 9223372036854775807) (hs : OpsSeen w A l) :
    Calls Try.prog 4 #[.int .i64 y, .slice A l.length c] w fun e w' => e = .returned (.bool true) ∧ Below w.heap.size w w' := by
  have HS := Lib.hid hs
  obtain ⟨n, hn⟩ : ∃ n, n = l.length := ⟨_, rfl⟩
  have HN := Lib.hid hn
  rw [← hn] at hl ⊢
  clear hn hs
  by_cases hbad : 100 < (n : Int) ∨ y < 1 ∨ 20 < y
  · rcases hbad with hb | hb | hb
    all_goals
      go_enter Try.func4, Try.ntmps4
      go_wp2_with fail
      refine (awake_any _).mono ?_
      rintro e w1 ⟨rfl, hb1⟩
      have B1 := Lib.hid hb1
      clear hb1
      go_wp2_with fail
      all_goals go_ret
      all_goals exact ⟨rfl, B1.out⟩
  obtain ⟨m, rfl⟩ : ∃ m : Nat, y = (m : Int) := ⟨y.toNat, by omega⟩
  have hm1 : 1 ≤ m := by omega
  have hm2 : m ≤ 20 := by omega
  have hn100 : ¬ 100 < (n : Int) := by omega
  have HNEW := Lib.hid (fun w => new_any w m hm1 (Nat.le_trans hm2 (by decide)))
  have HREF := Lib.hid (fun w => refNew_any w m (Nat.le_trans hm2 (by decide)))
  clear hbad h0 h1
  go_enter Try.func4, Try.ntmps4
  go_wp2_with fail
  refine (awake_any _).mono ?_
  rintro e w1 ⟨rfl, hb⟩
  have B1 := Lib.hid hb
  clear hb
  go_wp2_with fail
  refine (HNEW.out _).mono ?_
  rintro e w2 ⟨g, F, rfl, hd, hF, hb⟩
  have D2 := Lib.hid hd
  have HF : Hid (∀ k, F k → w.heap.size ≤ k) := fun k hk => Nat.le_trans B1.out.size (hF k hk)
  have B2 := Lib.hid (hop B1.out hb)
  clear hd hF hb B1 HNEW
  go_wp2_with fail
  refine (HREF.out _).mono ?_
  rintro e w3 ⟨r, G, rfl, hd, hG, hb⟩
  have P3 := Lib.hid (pair_start B2.out D2.out HF.out hd hG hb)
  clear hd hG hb HREF D2 HF B2
  go_wp2_with fail
  go_loopw [9] (fun a wr => ∃ k : Nat, k ≤ n ∧ a = .int .i64 k ∧ ∃ s, Pair w g r s s none wr ∧ s.Few k) (fun a _ => n - (intOf a).toNat)
  case atStart => exact ⟨0, Nat.zero_le _, rfl, _, P3.out, Dsk.Few.new m⟩
  case round =>
    clear P3
    obtain ⟨k, hk, rfl, s, hp, hf⟩ := hrel
    have PP := Lib.hid hp
    have FF := Lib.hid hf
    clear hp hf
    by_cases hlt : k < n
    · have hkl : (k : Int) < (n : Int) := by omega
      have hkn : k < l.length := by have := HN.out; omega
      obtain ⟨ba, oa, rfl, hok, hc⟩ := HS.out.at_ k hkn
      obtain ⟨o0, o1, o2, o3⟩ := hc wr PP.out.below
      have HOK := Lib.hid hok
      clear hc hok
      generalize l[k] = o at *
      clear hkn
      obtain ⟨z, i, ⟨A1, l1, c1⟩, A2, l2, c2⟩ := o
      change wr.cell? ⟨ba, oa + k * 4 + 2, none⟩ = some (.slice A1 l1.length c1) at o2
      change wr.cell? ⟨ba, oa + k * 4 + 3, none⟩ = some (.slice A2 l2.length c2) at o3
      change wr.cell? ⟨ba, oa + k * 4, none⟩ = some (.int .i64 z) at o0
      change wr.cell? ⟨ba, oa + k * 4 + 1, none⟩ = some (.int .i64 i) at o1
      obtain ⟨n1, hn1⟩ : ∃ n1, n1 = l1.length := ⟨_, rfl⟩
      obtain ⟨n2, hn2⟩ : ∃ n2, n2 = l2.length := ⟨_, rfl⟩
      rw [← hn1] at o2
      rw [← hn2] at o3
      have HN1 := Lib.hid hn1
      have HN2 := Lib.hid hn2
      clear hn1 hn2
      have P5 : Hid (Pair w g r s s (some (wr.heap.size, [.int .i64 z, .int .i64 i, .slice A1 n1 c1, .slice A2 n2 c2])) (wr.alloc (.cells #[.int .i64 z, .int .i64 i, .slice A1 n1 c1, .slice A2 n2 c2] 37))) := PP.out.holds _
      go_wp2_with fail
      · obtain ⟨w5, hw5⟩ : ∃ w5, w5 = wr.alloc (.cells #[.int .i64 z, .int .i64 i, .slice A1 n1 c1, .slice A2 n2 c2] 37) := ⟨_, rfl⟩
        have P5 : Hid (Pair w g r s s (some (wr.heap.size, [.int .i64 z, .int .i64 i, .slice A1 n1 c1, .slice A2 n2 c2])) w5) := by rw [hw5]; exact P5.out
        rw [← hw5]
        clear hw5
        have hS5 : w5.drew.cell? ⟨wr.heap.size, 1, none⟩ = some (.int .i64 i) ∧ w5.drew.cell? ⟨wr.heap.size, 2, none⟩ = some (.slice A1 n1 c1) := ⟨P5.out.opcells.1, P5.out.opcells.2.1⟩
        have P5d := Lib.hid (P5.out.still (Below.refl _ _).drew)
        obtain ⟨E, hE⟩ : ∃ E : Int, E = s.werr i n1 := ⟨_, rfl⟩
        have HW : Hid (Calls Try.prog 17 #[.pointer (some ⟨g, 0, none⟩), .int .i64 i, .slice A1 n1 c1] w5.drew fun e w' => e = .returned (.int .i64 E) ∧ Pair w g r (s.wput i l1) s (some (wr.heap.size, [.int .i64 z, .int .i64 i, .slice A1 n1 c1, .slice A2 n2 c2])) w') := by rw [hE]; exact pair_write P5d.out HN1.out.symm (by rw [HN1.out]; exact HOK.out.2.2.1.2) HOK.out.2.2.1.1 (FF.out.mono (by omega))
        have HRW : Hid (∀ w6, Pair w g r (s.wput i l1) s (some (wr.heap.size, [.int .i64 z, .int .i64 i, .slice A1 n1 c1, .slice A2 n2 c2])) w6 → Calls Try.prog 18 #[.pointer (some ⟨r, 0, none⟩), .int .i64 i, .slice A1 n1 c1] w6 fun e w' => e = .returned (.int .i64 E) ∧ Pair w g r (s.wput i l1) (s.wput i l1) (some (wr.heap.size, [.int .i64 z, .int .i64 i, .slice A1 n1 c1, .slice A2 n2 c2])) w') := fun w6 h => by rw [hE]; exact pair_refWrite h HN1.out.symm (by rw [HN1.out]; exact HOK.out.2.2.1.2) HOK.out.2.2.1.1 (FF.out.mono (by omega))
        have FW := Lib.hid (FF.out.wput i l1)
        clear hE P5 P5d o0 o1 o2 o3
        go_region_held_law (fun w' => w'.cell? ⟨wr.heap.size, 1, none⟩ = some (.int .i64 i) ∧ w'.cell? ⟨wr.heap.size, 2, none⟩ = some (.slice A1 n1 c1)) (first | exact hS5 | assumption)
          (first
            | (go_at_call 17; refine HW.out.mono ?_; rintro e w6 ⟨rfl, hp6⟩; have P6 := Lib.hid hp6; have hS6 : w6.cell? ⟨wr.heap.size, 1, none⟩ = some (.int .i64 i) ∧ w6.cell? ⟨wr.heap.size, 2, none⟩ = some (.slice A1 n1 c1) := ⟨hp6.opcells.1, hp6.opcells.2.1⟩; clear hp6)
            | (go_at_call 18; refine (HRW.out _ P6.out).mono ?_; rintro e w7 ⟨rfl, hp7⟩; have P7 := Lib.hid hp7; have hS7 : w7.cell? ⟨wr.heap.size, 1, none⟩ = some (.int .i64 i) ∧ w7.cell? ⟨wr.heap.size, 2, none⟩ = some (.slice A1 n1 c1) := ⟨hp7.opcells.1, hp7.opcells.2.1⟩; clear hp7))
        have o0 := trivial
        have o1 := trivial
        have o2 := trivial
        have o3 := trivial
        clear HW HRW hS5 P6
        have hoo : ((!(s.wput i l1).off) == (s.wput i l1).off) = false := by cases (s.wput i l1).off <;> rfl
        have hc7 := pair_cells P7.out
        have hc2 : ∀ w', Below w7.heap.size w7 w' → w'.cell? ⟨r, 2, none⟩ = some (.bool (s.wput i l1).off) := fun w' h => (hc7 w' h).1
        have hc5 : ∀ w', Below w7.heap.size w7 w' → w'.cell? ⟨r, 5, none⟩ = some (.int .i64 ((s.wput i l1).calls : Int)) := fun w' h => (hc7 w' h).2
        have HON : Hid (∀ w', Below w7.heap.size w7 w' → Calls Try.prog 12 #[.pointer (some ⟨g, 0, none⟩)] w' fun e w'' => e = .returned (.bool (!(s.wput i l1).off)) ∧ w'' = w') := fun w' h => pair_on (P7.out.still h)
        have HCA : Hid (∀ w', Below w7.heap.size w7 w' → Calls Try.prog 13 #[.pointer (some ⟨g, 0, none⟩)] w' fun e w'' => e = .returned (.int .i64 ((s.wput i l1).calls : Int)) ∧ w'' = w') := fun w' h => pair_calls (P7.out.still h)
        obtain ⟨TI, NI, hti⟩ : ∃ T N, T = (⟨(s.wput i l1).K.flatten.toArray⟩ : ByteArray) ∧ N = (s.wput i l1).K.flatten.length := ⟨_, _, rfl, rfl⟩
        have HIM : Hid (∀ w', Below w7.heap.size w7 w' → Calls Try.prog 15 #[.pointer (some ⟨g, 0, none⟩)] w' fun e w'' => ImageTo TI NI w' w'' e) := fun w' h => by rw [hti.1, hti.2]; exact pair_image (P7.out.still h)
        have HRI : Hid (∀ w', Below w7.heap.size w7 w' → Calls Try.prog 27 #[.pointer (some ⟨r, 0, none⟩)] w' fun e w'' => ImageTo TI NI w' w'' e) := fun w' h => by rw [hti.1, hti.2]; exact pair_refImage (P7.out.still h)
        generalize (s.wput i l1).off = bo at hoo hc2 HON
        generalize ((s.wput i l1).calls : Int) = ca at hc5 HCA
        have bd : Below w7.heap.size w7 w7.drew := (Below.refl _ _).drew
        clear hc7 hti o0 o1 o2 o3
        go_wp2_with fail
        go_region_held_law (fun w' => Below w7.heap.size w7 w') (first | exact bd | assumption | (exact hop ‹Below w7.heap.size w7 _› (by assumption)))
          (first
            | (go_at_call 12; refine (HON.out _ ?_).mono ?_; (assumption); rintro e w' ⟨rfl, hw'⟩; obtain rfl := hw'.symm)
            | (go_at_call 13; refine (HCA.out _ ?_).mono ?_; (assumption); rintro e w' ⟨rfl, hw'⟩; obtain rfl := hw'.symm)
            | (go_at_call 15; refine (HIM.out _ ?_).mono ?_; (assumption); rintro e w8 ⟨A8, c8, rfl, hu8, hb8⟩; have HU8 := Lib.hid hu8; have hv8 := hu8 _ (Below.refl _ _); (try have hv89 := HU9.out _ hb8); clear hu8)
            | (go_at_call 27; refine (HRI.out _ ?_).mono ?_; (assumption); rintro e w9 ⟨A9, c9, rfl, hu9, hb9⟩; have HU9 := Lib.hid hu9; have hv9 := hu9 _ (Below.refl _ _); (try have hv98 := HU8.out _ hb9); clear hu9))
        all_goals go_wp2_with fail
        all_goals go_roundw
        all_goals first
          | exact ⟨k + 1, by omega, by go_num, _, P7.out.drop.still (by assumption), FW.out⟩
          | (simp [intOf]; omega)
      · obtain ⟨T, E, hR, hRR⟩ := pair_reads s i P5.out.ok
        have HR := Lib.hid hR
        have HRR := Lib.hid hRR
        clear hR hRR
        refine (pair_read P5.out HR.out).mono ?_
        rintro e w6 ⟨hb6, Aa, na, ca, rfl, ua⟩
        have P6 := Lib.hid (P5.out.still hb6)
        obtain ⟨o1, o2, o3⟩ := P6.out.opcells
        have UA := Lib.hid ua
        clear ua hb6 HR
        go_wp2_with fail
        refine (pair_refRead P6.out HRR.out).mono ?_
        rintro e w7 ⟨hb7, Ab, nb, cb, rfl, ub⟩
        have P7 := Lib.hid (P6.out.still hb7)
        have ua := UA.out _ hb7
        have ub := ub _ (Below.refl _ _)
        obtain ⟨o1, o2, o3⟩ := P7.out.opcells
        have FW := Lib.hid (FF.out.mono (Nat.le_succ k))
        have o0 := trivial
        clear hb7 HRR P6
        have hoo : ((!s.off) == s.off) = false := by cases s.off <;> rfl
        have hc7 := pair_cells P7.out
        have hc2 : ∀ w', Below w7.heap.size w7 w' → w'.cell? ⟨r, 2, none⟩ = some (.bool s.off) := fun w' h => (hc7 w' h).1
        have hc5 : ∀ w', Below w7.heap.size w7 w' → w'.cell? ⟨r, 5, none⟩ = some (.int .i64 (s.calls : Int)) := fun w' h => (hc7 w' h).2
        have HON : Hid (∀ w', Below w7.heap.size w7 w' → Calls Try.prog 12 #[.pointer (some ⟨g, 0, none⟩)] w' fun e w'' => e = .returned (.bool (!s.off)) ∧ w'' = w') := fun w' h => pair_on (P7.out.still h)
        have HCA : Hid (∀ w', Below w7.heap.size w7 w' → Calls Try.prog 13 #[.pointer (some ⟨g, 0, none⟩)] w' fun e w'' => e = .returned (.int .i64 (s.calls : Int)) ∧ w'' = w') := fun w' h => pair_calls (P7.out.still h)
        obtain ⟨TI, NI, hti⟩ : ∃ T N, T = (⟨s.K.flatten.toArray⟩ : ByteArray) ∧ N = s.K.flatten.length := ⟨_, _, rfl, rfl⟩
        have HIM : Hid (∀ w', Below w7.heap.size w7 w' → Calls Try.prog 15 #[.pointer (some ⟨g, 0, none⟩)] w' fun e w'' => ImageTo TI NI w' w'' e) := fun w' h => by rw [hti.1, hti.2]; exact pair_image (P7.out.still h)
        have HRI : Hid (∀ w', Below w7.heap.size w7 w' → Calls Try.prog 27 #[.pointer (some ⟨r, 0, none⟩)] w' fun e w'' => ImageTo TI NI w' w'' e) := fun w' h => by rw [hti.1, hti.2]; exact pair_refImage (P7.out.still h)
        generalize s.off = bo at hoo hc2 HON
        generalize (s.calls : Int) = ca at hc5 HCA
        have bd : Below w7.heap.size w7 w7.drew := (Below.refl _ _).drew
        clear hc7 hti o0 o1 o2 o3
        go_wp2_with fail
        go_region_held_law (fun w' => Below w7.heap.size w7 w') (first | exact bd | assumption | (exact hop ‹Below w7.heap.size w7 _› (by assumption)))
          (first
            | (go_at_call 12; refine (HON.out _ ?_).mono ?_; (assumption); rintro e w' ⟨rfl, hw'⟩; obtain rfl := hw'.symm)
            | (go_at_call 13; refine (HCA.out _ ?_).mono ?_; (assumption); rintro e w' ⟨rfl, hw'⟩; obtain rfl := hw'.symm)
            | (go_at_call 15; refine (HIM.out _ ?_).mono ?_; (assumption); rintro e w8 ⟨A8, c8, rfl, hu8, hb8⟩; have HU8 := Lib.hid hu8; have hv8 := hu8 _ (Below.refl _ _); (try have hv89 := HU9.out _ hb8); clear hu8)
            | (go_at_call 27; refine (HRI.out _ ?_).mono ?_; (assumption); rintro e w9 ⟨A9, c9, rfl, hu9, hb9⟩; have HU9 := Lib.hid hu9; have hv9 := hu9 _ (Below.refl _ _); (try have hv98 := HU8.out _ hb9); clear hu9))
        all_goals go_wp2_with fail
        all_goals go_roundw
        all_goals first
          | exact ⟨k + 1, by omega, by go_num, _, P7.out.drop.still (by assumption), FW.out⟩
          | (simp [intOf]; omega)
      · refine (pair_sync P5.out (FF.out.mono (by omega))).mono ?_
        rintro e w6 ⟨rfl, hp6⟩
        have P6 := Lib.hid hp6
        obtain ⟨E, hE⟩ : ∃ E : Int, E = if s.off then 5 else 0 := ⟨_, rfl⟩
        rw [← hE]
        have HE := Lib.hid hE
        clear hp6 hE
        go_wp2_with fail
        refine (pair_refSync P6.out (FF.out.mono (by omega))).mono ?_
        rintro e w7 ⟨rfl, hp7⟩
        rw [← HE.out]
        have P7 := Lib.hid hp7
        have FW := Lib.hid FF.out.sput
        have o0 := trivial
        have o1 := trivial
        have o2 := trivial
        have o3 := trivial
        clear hp7 P6
        have hoo : ((!s.sput.off) == s.sput.off) = false := by cases s.sput.off <;> rfl
        have hc7 := pair_cells P7.out
        have hc2 : ∀ w', Below w7.heap.size w7 w' → w'.cell? ⟨r, 2, none⟩ = some (.bool s.sput.off) := fun w' h => (hc7 w' h).1
        have hc5 : ∀ w', Below w7.heap.size w7 w' → w'.cell? ⟨r, 5, none⟩ = some (.int .i64 (s.sput.calls : Int)) := fun w' h => (hc7 w' h).2
        have HON : Hid (∀ w', Below w7.heap.size w7 w' → Calls Try.prog 12 #[.pointer (some ⟨g, 0, none⟩)] w' fun e w'' => e = .returned (.bool (!s.sput.off)) ∧ w'' = w') := fun w' h => pair_on (P7.out.still h)
        have HCA : Hid (∀ w', Below w7.heap.size w7 w' → Calls Try.prog 13 #[.pointer (some ⟨g, 0, none⟩)] w' fun e w'' => e = .returned (.int .i64 (s.sput.calls : Int)) ∧ w'' = w') := fun w' h => pair_calls (P7.out.still h)
        obtain ⟨TI, NI, hti⟩ : ∃ T N, T = (⟨s.sput.K.flatten.toArray⟩ : ByteArray) ∧ N = s.sput.K.flatten.length := ⟨_, _, rfl, rfl⟩
        have HIM : Hid (∀ w', Below w7.heap.size w7 w' → Calls Try.prog 15 #[.pointer (some ⟨g, 0, none⟩)] w' fun e w'' => ImageTo TI NI w' w'' e) := fun w' h => by rw [hti.1, hti.2]; exact pair_image (P7.out.still h)
        have HRI : Hid (∀ w', Below w7.heap.size w7 w' → Calls Try.prog 27 #[.pointer (some ⟨r, 0, none⟩)] w' fun e w'' => ImageTo TI NI w' w'' e) := fun w' h => by rw [hti.1, hti.2]; exact pair_refImage (P7.out.still h)
        generalize s.sput.off = bo at hoo hc2 HON
        generalize (s.sput.calls : Int) = ca at hc5 HCA
        have bd : Below w7.heap.size w7 w7.drew := (Below.refl _ _).drew
        clear hc7 hti o0 o1 o2 o3
        go_wp2_with fail
        go_region_held_law (fun w' => Below w7.heap.size w7 w') (first | exact bd | assumption | (exact hop ‹Below w7.heap.size w7 _› (by assumption)))
          (first
            | (go_at_call 12; refine (HON.out _ ?_).mono ?_; (assumption); rintro e w' ⟨rfl, hw'⟩; obtain rfl := hw'.symm)
            | (go_at_call 13; refine (HCA.out _ ?_).mono ?_; (assumption); rintro e w' ⟨rfl, hw'⟩; obtain rfl := hw'.symm)
            | (go_at_call 15; refine (HIM.out _ ?_).mono ?_; (assumption); rintro e w8 ⟨A8, c8, rfl, hu8, hb8⟩; have HU8 := Lib.hid hu8; have hv8 := hu8 _ (Below.refl _ _); (try have hv89 := HU9.out _ hb8); clear hu8)
            | (go_at_call 27; refine (HRI.out _ ?_).mono ?_; (assumption); rintro e w9 ⟨A9, c9, rfl, hu9, hb9⟩; have HU9 := Lib.hid hu9; have hv9 := hu9 _ (Below.refl _ _); (try have hv98 := HU8.out _ hb9); clear hu9))
        all_goals go_wp2_with fail
        all_goals go_roundw
        all_goals first
          | exact ⟨k + 1, by omega, by go_num, _, P7.out.drop.still (by assumption), FW.out⟩
          | (simp [intOf]; omega)
      · refine (pair_arm P5.out).mono ?_
        rintro e w6 ⟨rfl, hp6⟩
        have P6 := Lib.hid hp6
        obtain ⟨o1, o2, o3⟩ := P6.out.opcells
        clear hp6
        go_wp2_with fail
        refine (pair_refArm P6.out).mono ?_
        rintro e w7 ⟨rfl, hp7⟩
        have P7 := Lib.hid hp7
        have FW := Lib.hid ((FF.out.arm i HOK.out.2.1.2).mono (Nat.le_succ k))
        have o0 := trivial
        clear hp7 P6
        have hoo : ((!(s.arm i).off) == (s.arm i).off) = false := by cases (s.arm i).off <;> rfl
        have hc7 := pair_cells P7.out
        have hc2 : ∀ w', Below w7.heap.size w7 w' → w'.cell? ⟨r, 2, none⟩ = some (.bool (s.arm i).off) := fun w' h => (hc7 w' h).1
        have hc5 : ∀ w', Below w7.heap.size w7 w' → w'.cell? ⟨r, 5, none⟩ = some (.int .i64 ((s.arm i).calls : Int)) := fun w' h => (hc7 w' h).2
        have HON : Hid (∀ w', Below w7.heap.size w7 w' → Calls Try.prog 12 #[.pointer (some ⟨g, 0, none⟩)] w' fun e w'' => e = .returned (.bool (!(s.arm i).off)) ∧ w'' = w') := fun w' h => pair_on (P7.out.still h)
        have HCA : Hid (∀ w', Below w7.heap.size w7 w' → Calls Try.prog 13 #[.pointer (some ⟨g, 0, none⟩)] w' fun e w'' => e = .returned (.int .i64 ((s.arm i).calls : Int)) ∧ w'' = w') := fun w' h => pair_calls (P7.out.still h)
        obtain ⟨TI, NI, hti⟩ : ∃ T N, T = (⟨(s.arm i).K.flatten.toArray⟩ : ByteArray) ∧ N = (s.arm i).K.flatten.length := ⟨_, _, rfl, rfl⟩
        have HIM : Hid (∀ w', Below w7.heap.size w7 w' → Calls Try.prog 15 #[.pointer (some ⟨g, 0, none⟩)] w' fun e w'' => ImageTo TI NI w' w'' e) := fun w' h => by rw [hti.1, hti.2]; exact pair_image (P7.out.still h)
        have HRI : Hid (∀ w', Below w7.heap.size w7 w' → Calls Try.prog 27 #[.pointer (some ⟨r, 0, none⟩)] w' fun e w'' => ImageTo TI NI w' w'' e) := fun w' h => by rw [hti.1, hti.2]; exact pair_refImage (P7.out.still h)
        generalize (s.arm i).off = bo at hoo hc2 HON
        generalize ((s.arm i).calls : Int) = ca at hc5 HCA
        have bd : Below w7.heap.size w7 w7.drew := (Below.refl _ _).drew
        clear hc7 hti o0 o1 o2 o3
        go_wp2_with fail
        go_region_held_law (fun w' => Below w7.heap.size w7 w') (first | exact bd | assumption | (exact hop ‹Below w7.heap.size w7 _› (by assumption)))
          (first
            | (go_at_call 12; refine (HON.out _ ?_).mono ?_; (assumption); rintro e w' ⟨rfl, hw'⟩; obtain rfl := hw'.symm)
            | (go_at_call 13; refine (HCA.out _ ?_).mono ?_; (assumption); rintro e w' ⟨rfl, hw'⟩; obtain rfl := hw'.symm)
            | (go_at_call 15; refine (HIM.out _ ?_).mono ?_; (assumption); rintro e w8 ⟨A8, c8, rfl, hu8, hb8⟩; have HU8 := Lib.hid hu8; have hv8 := hu8 _ (Below.refl _ _); (try have hv89 := HU9.out _ hb8); clear hu8)
            | (go_at_call 27; refine (HRI.out _ ?_).mono ?_; (assumption); rintro e w9 ⟨A9, c9, rfl, hu9, hb9⟩; have HU9 := Lib.hid hu9; have hv9 := hu9 _ (Below.refl _ _); (try have hv98 := HU8.out _ hb9); clear hu9))
        all_goals go_wp2_with fail
        all_goals go_roundw
        all_goals first
          | exact ⟨k + 1, by omega, by go_num, _, P7.out.drop.still (by assumption), FW.out⟩
          | (simp [intOf]; omega)
      · refine (pair_crash P5.out HOK.out.2.2.2.1 HN2.out.symm (by rw [HN2.out]; exact HOK.out.2.2.2.2.1) HOK.out.2.2.2.2.2).mono ?_
        rintro e w6 ⟨rfl, hp6⟩
        have P6 := Lib.hid hp6
        obtain ⟨o1, o2, o3⟩ := P6.out.opcells
        clear hp6
        go_wp2_with fail
        refine (pair_refCrash P6.out HOK.out.2.2.2.1 HN2.out.symm (by rw [HN2.out]; exact HOK.out.2.2.2.2.1) HOK.out.2.2.2.2.2).mono ?_
        rintro e w7 ⟨rfl, hp7⟩
        have P7 := Lib.hid hp7
        have FW := Lib.hid ((FF.out.crash (pickOf l2)).mono (Nat.le_succ k))
        have o0 := trivial
        clear hp7 P6
        have hoo : ((!(s.crash (pickOf l2)).off) == (s.crash (pickOf l2)).off) = false := by cases (s.crash (pickOf l2)).off <;> rfl
        have hc7 := pair_cells P7.out
        have hc2 : ∀ w', Below w7.heap.size w7 w' → w'.cell? ⟨r, 2, none⟩ = some (.bool (s.crash (pickOf l2)).off) := fun w' h => (hc7 w' h).1
        have hc5 : ∀ w', Below w7.heap.size w7 w' → w'.cell? ⟨r, 5, none⟩ = some (.int .i64 ((s.crash (pickOf l2)).calls : Int)) := fun w' h => (hc7 w' h).2
        have HON : Hid (∀ w', Below w7.heap.size w7 w' → Calls Try.prog 12 #[.pointer (some ⟨g, 0, none⟩)] w' fun e w'' => e = .returned (.bool (!(s.crash (pickOf l2)).off)) ∧ w'' = w') := fun w' h => pair_on (P7.out.still h)
        have HCA : Hid (∀ w', Below w7.heap.size w7 w' → Calls Try.prog 13 #[.pointer (some ⟨g, 0, none⟩)] w' fun e w'' => e = .returned (.int .i64 ((s.crash (pickOf l2)).calls : Int)) ∧ w'' = w') := fun w' h => pair_calls (P7.out.still h)
        obtain ⟨TI, NI, hti⟩ : ∃ T N, T = (⟨(s.crash (pickOf l2)).K.flatten.toArray⟩ : ByteArray) ∧ N = (s.crash (pickOf l2)).K.flatten.length := ⟨_, _, rfl, rfl⟩
        have HIM : Hid (∀ w', Below w7.heap.size w7 w' → Calls Try.prog 15 #[.pointer (some ⟨g, 0, none⟩)] w' fun e w'' => ImageTo TI NI w' w'' e) := fun w' h => by rw [hti.1, hti.2]; exact pair_image (P7.out.still h)
        have HRI : Hid (∀ w', Below w7.heap.size w7 w' → Calls Try.prog 27 #[.pointer (some ⟨r, 0, none⟩)] w' fun e w'' => ImageTo TI NI w' w'' e) := fun w' h => by rw [hti.1, hti.2]; exact pair_refImage (P7.out.still h)
        generalize (s.crash (pickOf l2)).off = bo at hoo hc2 HON
        generalize ((s.crash (pickOf l2)).calls : Int) = ca at hc5 HCA
        have bd : Below w7.heap.size w7 w7.drew := (Below.refl _ _).drew
        clear hc7 hti o0 o1 o2 o3
        go_wp2_with fail
        go_region_held_law (fun w' => Below w7.heap.size w7 w') (first | exact bd | assumption | (exact hop ‹Below w7.heap.size w7 _› (by assumption)))
          (first
            | (go_at_call 12; refine (HON.out _ ?_).mono ?_; (assumption); rintro e w' ⟨rfl, hw'⟩; obtain rfl := hw'.symm)
            | (go_at_call 13; refine (HCA.out _ ?_).mono ?_; (assumption); rintro e w' ⟨rfl, hw'⟩; obtain rfl := hw'.symm)
            | (go_at_call 15; refine (HIM.out _ ?_).mono ?_; (assumption); rintro e w8 ⟨A8, c8, rfl, hu8, hb8⟩; have HU8 := Lib.hid hu8; have hv8 := hu8 _ (Below.refl _ _); (try have hv89 := HU9.out _ hb8); clear hu8)
            | (go_at_call 27; refine (HRI.out _ ?_).mono ?_; (assumption); rintro e w9 ⟨A9, c9, rfl, hu9, hb9⟩; have HU9 := Lib.hid hu9; have hv9 := hu9 _ (Below.refl _ _); (try have hv98 := HU8.out _ hb9); clear hu9))
        all_goals go_wp2_with fail
        all_goals go_roundw
        all_goals first
          | exact ⟨k + 1, by omega, by go_num, _, P7.out.drop.still (by assumption), FW.out⟩
          | (simp [intOf]; omega)
      · have P7 := P5
        obtain ⟨w7, hw7⟩ : ∃ w7, w7 = wr.alloc (.cells #[.int .i64 z, .int .i64 i, .slice A1 n1 c1, .slice A2 n2 c2] 37) := ⟨_, rfl⟩
        have P7 : Hid (Pair w g r s s (some (wr.heap.size, [.int .i64 z, .int .i64 i, .slice A1 n1 c1, .slice A2 n2 c2])) w7) := by rw [hw7]; exact P5.out
        rw [← hw7]
        have FW := Lib.hid (FF.out.mono (Nat.le_succ k))
        clear hw7 P5
        have hoo : ((!s.off) == s.off) = false := by cases s.off <;> rfl
        have hc7 := pair_cells P7.out
        have hc2 : ∀ w', Below w7.heap.size w7 w' → w'.cell? ⟨r, 2, none⟩ = some (.bool s.off) := fun w' h => (hc7 w' h).1
        have hc5 : ∀ w', Below w7.heap.size w7 w' → w'.cell? ⟨r, 5, none⟩ = some (.int .i64 (s.calls : Int)) := fun w' h => (hc7 w' h).2
        have HON : Hid (∀ w', Below w7.heap.size w7 w' → Calls Try.prog 12 #[.pointer (some ⟨g, 0, none⟩)] w' fun e w'' => e = .returned (.bool (!s.off)) ∧ w'' = w') := fun w' h => pair_on (P7.out.still h)
        have HCA : Hid (∀ w', Below w7.heap.size w7 w' → Calls Try.prog 13 #[.pointer (some ⟨g, 0, none⟩)] w' fun e w'' => e = .returned (.int .i64 (s.calls : Int)) ∧ w'' = w') := fun w' h => pair_calls (P7.out.still h)
        obtain ⟨TI, NI, hti⟩ : ∃ T N, T = (⟨s.K.flatten.toArray⟩ : ByteArray) ∧ N = s.K.flatten.length := ⟨_, _, rfl, rfl⟩
        have HIM : Hid (∀ w', Below w7.heap.size w7 w' → Calls Try.prog 15 #[.pointer (some ⟨g, 0, none⟩)] w' fun e w'' => ImageTo TI NI w' w'' e) := fun w' h => by rw [hti.1, hti.2]; exact pair_image (P7.out.still h)
        have HRI : Hid (∀ w', Below w7.heap.size w7 w' → Calls Try.prog 27 #[.pointer (some ⟨r, 0, none⟩)] w' fun e w'' => ImageTo TI NI w' w'' e) := fun w' h => by rw [hti.1, hti.2]; exact pair_refImage (P7.out.still h)
        generalize s.off = bo at hoo hc2 HON
        generalize (s.calls : Int) = ca at hc5 HCA
        have bd : Below w7.heap.size w7 w7.drew := (Below.refl _ _).drew
        clear hc7 hti o0 o1 o2 o3
        go_region_held_law (fun w' => Below w7.heap.size w7 w') (first | exact bd | assumption | (exact hop ‹Below w7.heap.size w7 _› (by assumption)))
          (first
            | (go_at_call 12; refine (HON.out _ ?_).mono ?_; (assumption); rintro e w' ⟨rfl, hw'⟩; obtain rfl := hw'.symm)
            | (go_at_call 13; refine (HCA.out _ ?_).mono ?_; (assumption); rintro e w' ⟨rfl, hw'⟩; obtain rfl := hw'.symm)
            | (go_at_call 15; refine (HIM.out _ ?_).mono ?_; (assumption); rintro e w8 ⟨A8, c8, rfl, hu8, hb8⟩; have HU8 := Lib.hid hu8; have hv8 := hu8 _ (Below.refl _ _); (try have hv89 := HU9.out _ hb8); clear hu8)
            | (go_at_call 27; refine (HRI.out _ ?_).mono ?_; (assumption); rintro e w9 ⟨A9, c9, rfl, hu9, hb9⟩; have HU9 := Lib.hid hu9; have hv9 := hu9 _ (Below.refl _ _); (try have hv98 := HU8.out _ hb9); clear hu9))
        all_goals go_wp2_with fail
        all_goals go_roundw
        all_goals first
          | exact ⟨k + 1, by omega, by go_num, _, P7.out.drop.still (by assumption), FW.out⟩
          | (simp [intOf]; omega)
    · obtain rfl : k = n := by omega
      go_wp2_with fail
      go_ret
      exact ⟨rfl, PP.out.below⟩
end Go.Proofs.Ytfcbkefpjfmgjaa
