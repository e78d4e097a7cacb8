/-
  What sort.partialInsertionSort_func comes to, whatever program holds it, where 'less' may lay blocks. Conditions: the places asked for lie within the row.
-/
import Derived.Test.YtehabjiacgibpaaGreatCSoW
import Derived.Deep.LoopGhost
namespace Go.Proofs.YtehabjiacgibpaaGreat
open Go.Shelf Go.RowKit Go.Lib
section
variable {P : Program} {ρ : Ren} {α : Type} [Inhabited α] {enc : α → List Value} {k : Nat} {w0 : World} {blk off : Nat} {lt : α → α → Bool} {g : Nat} {lb : Array Value} {sf : Nat} {sb : Array Value} {size : Nat}
set_option maxHeartbeats 6400000 in
set_option maxRecDepth 1000000 in
theorem partial_at (L : LaysGg.n31 P ρ) (H : SoHyp P enc k lt g lb sf sb blk off size w0) (a b : Nat) (d : Array α) (W : World) (hS : SoAt enc k w0 blk off d W) (hd : d.size = size) (hab : a < b) (hb : b ≤ size) :
    Calls P (ρ.f 31) #[.agg #[.func (.func g) #[] lb, .func (.func sf) #[] sb], .int .i64 a, .int .i64 b] W fun e w' =>
      e = .returned (.bool (Sort.partialInsertionSort lt d a b).2) ∧ So enc k g lb sf sb blk off size w0 W (Sort.partialInsertionSort lt d a b).1 w' := by
  have mixed := L.mixed; have t0 := L.t0; have a0 := L.a0; have z0 := L.z0; have v0 := L.v0; have t3 := L.t3; have a3 := L.a3; have z3 := L.z3; have v3 := L.v3; have t4 := L.t4; have a4 := L.a4; have z4 := L.z4; have v4 := L.v4; have t26 := L.t26; have a26 := L.a26; have z26 := L.z26; have v26 := L.v26; have t37 := L.t37; have a37 := L.a37; have z37 := L.z37; have v37 := L.v37; have t44 := L.t44; have a44 := L.a44; have z44 := L.z44; have v44 := L.v44
  have u44 := run_underlying L.t44
  have eg := H.eg
  have hsz := H.sz
  have S0 := So.start (g := g) (lb := lb) (sf := sf) (sb := sb) hS hd (ρ.t 44)
  clear hS
  go_enter L.f31, BodyGg.n31_ntmps ρ
  go_wp2
  go_loopg [7, 8] 5 (fun g1 vi vs wr => ∃ (i s : Nat) (dk : Array α), vi = .int .i64 i ∧ vs = .int .i64 s ∧ s ≤ 5 ∧ 5 - s ≤ g1 ∧ a < i ∧ i ≤ b ∧ So enc k g lb sf sb blk off size w0 W dk wr ∧ Hid (Sort.partialIns lt a b (5 - s) i dk = Sort.partialIns lt a b 5 (a + 1) d))
  case atStart => exact ⟨a + 1, 0, d, by go_num, rfl, by omega, by omega, by omega, by omega, S0, rfl⟩
  case round =>
    clear S0
    obtain ⟨i, s, dk, rfl, rfl, hs5, hg1, hai, hib, S, HO⟩ := hrel
    have c0 := S.c0
    have c1 := S.c1
    by_cases hs : s < 5
    · have hsz5 : (s : Int) < 5 := by omega
      go_wp2
      go_loopg [7] (b - i) (fun g2 vi wr2 => ∃ (kx : Nat), vi = .int .i64 kx ∧ i ≤ kx ∧ kx ≤ b ∧ b - kx ≤ g2 ∧ So enc k g lb sf sb blk off size w0 W dk wr2 ∧ Hid (Sort.scanSorted lt dk b kx = Sort.scanSorted lt dk b i))
      case atStart => exact ⟨i, rfl, Nat.le_refl _, hib, Nat.le_refl _, S, rfl⟩
      case round =>
        clear S c0 c1
        obtain ⟨kx, rfl, hik, hkb, hg2, S, HSc⟩ := hrel
        have c0 := S.c0
        have c1 := S.c1
        by_cases hkb' : kx < b
        · have hkz : (kx : Int) < (b : Int) := by omega
          cases hlv : lt dk[kx]! dk[kx - 1]! with
          | false =>
            have hl := S.lessI H (x := (kx : Int)) (y := (kx : Int) - 1) kx (kx - 1) rfl (by omega) (by omega) (by omega) hlv
            go_wp2_with (go_at_fn g; refine hl.mono ?_; rintro e w2 ⟨rfl, S2⟩; have y0 := S2.c0)
            go_roundg (b - (kx + 1))
            case measure => omega
            case rel => exact ⟨kx + 1, by go_num, by omega, by omega, Nat.le_refl _, S2, (show Hid _ from by rw [← HSc.out, scanSorted_go lt dk b kx hkb' hlv]; exact rfl)⟩
          | true =>
            have HK : Hid (Sort.scanSorted lt dk b i = kx) := by show _ = _; rw [← HSc.out, scanSorted_stop lt dk b kx (Or.inr hlv)]
            have hkne : ((kx : Int) == (b : Int)) = false := beq_eq_false_iff_ne.2 (by omega)
            by_cases h50 : b - a < 50
            · have h50z : (b : Int) - (a : Int) < 50 := by omega
              have hl := S.lessI H (x := (kx : Int)) (y := (kx : Int) - 1) kx (kx - 1) rfl (by omega) (by omega) (by omega) hlv
              go_wp2_with (go_at_fn g; refine hl.mono ?_; rintro e w2 ⟨rfl, S2⟩; have y0 := S2.c0)
              have hv : Sort.partialInsertionSort lt d a b = (dk, false) := by
                unfold Sort.partialInsertionSort
                rw [← HO.out, pi_short lt a b s i dk hs (by rw [HK.out]; omega) h50]
              rw [hv]
              go_ret
              exact ⟨rfl, S2⟩
            have h50z : ¬ ((b : Int) - (a : Int) < 50) := by omega
            by_cases hka : kx - a ≥ 2
            · have hkaz : (2 : Int) ≤ (kx : Int) - (a : Int) := by omega
              have hl := S.lessI H (x := (kx : Int)) (y := (kx : Int) - 1) kx (kx - 1) rfl (by omega) (by omega) (by omega) hlv
              go_wp2_with (go_at_fn g; refine hl.mono ?_; rintro e w2 ⟨rfl, S2⟩; have y1 := S2.c1; obtain ⟨w3, hsw, S3⟩ := S2.swapsI H (x := (kx : Int)) (y := (kx : Int) - 1) kx (kx - 1) rfl (by omega) (by omega) (by omega); have x0 := S3.c0; have x1 := S3.c1)
              go_loopg [9] (kx - 1) (fun g3 vj wr3 => ∃ (j : Nat) (dj : Array α), vj = .int .i64 j ∧ j ≤ kx - 1 ∧ j ≤ g3 ∧ So enc k g lb sf sb blk off size w0 W dj wr3 ∧ Hid (Sort.shiftDown lt j dj = Sort.shiftDown lt (kx - 1) (Sort.swp dk kx (kx - 1))))
              case atStart => exact ⟨kx - 1, Sort.swp dk kx (kx - 1), by congr 1; omega, Nat.le_refl _, Nat.le_refl _, S3, rfl⟩
              case round =>
                clear S2 S3 y1 x0 x1 S c0 c1 hl
                obtain ⟨j, dj, rfl, hjk, hg3, S, HDn⟩ := hrel
                have c0 := S.c0
                have c1 := S.c1
                by_cases hj1 : 1 ≤ j
                · have hj1z : (1 : Int) ≤ (j : Int) := by omega
                  cases hlv2 : lt dj[j]! dj[j - 1]! with
                  | true =>
                    have hl := S.lessI H (x := (j : Int)) (y := (j : Int) - 1) j (j - 1) rfl (by omega) (by omega) (by omega) hlv2
                    go_wp2_with (go_at_fn g; refine hl.mono ?_; rintro e w2 ⟨rfl, S2⟩; have y1 := S2.c1; obtain ⟨w3, hsw, S3⟩ := S2.swapsI H (x := (j : Int)) (y := (j : Int) - 1) j (j - 1) rfl (by omega) (by omega) (by omega); have x0 := S3.c0; have x1 := S3.c1)
                    go_roundg (j - 1)
                    case measure => omega
                    case rel => exact ⟨j - 1, Sort.swp dj j (j - 1), by congr 1; omega, by omega, Nat.le_refl _, S3, (show Hid _ from by rw [← HDn.out, shiftDown_go lt j dj hj1 hlv2]; exact rfl)⟩
                  | false =>
                    have HD : Hid (Sort.fixDown lt a kx (Sort.swp dk kx (kx - 1)) = dj) := by show _ = _; unfold Sort.fixDown; rw [if_pos hka, ← HDn.out, shiftDown_stop lt j dj (Or.inr hlv2)]
                    by_cases hbk : b - kx ≥ 2
                    · have hbkz : (2 : Int) ≤ (b : Int) - (kx : Int) := by omega
                      have hl := S.lessI H (x := (j : Int)) (y := (j : Int) - 1) j (j - 1) rfl (by omega) (by omega) (by omega) hlv2
                      go_wp2_with (go_at_fn g; refine hl.mono ?_; rintro e w2 ⟨rfl, S2⟩; have y0 := S2.c0)
                      go_loopg [10] (b - (kx + 1)) (fun g4 vj wr4 => ∃ (ju : Nat) (du : Array α), vj = .int .i64 ju ∧ kx + 1 ≤ ju ∧ ju ≤ b ∧ b - ju ≤ g4 ∧ So enc k g lb sf sb blk off size w0 W du wr4 ∧ Hid (Sort.shiftUp lt b ju du = Sort.shiftUp lt b (kx + 1) dj))
                      case atStart => exact ⟨kx + 1, dj, by go_num, Nat.le_refl _, by omega, Nat.le_refl _, S2, rfl⟩
                      case round =>
                        obtain ⟨ju, du, rfl, hkj, hjb, hg4, SU, HU⟩ := hrel
                        have p0 := SU.c0
                        have p1 := SU.c1
                        by_cases hjb' : ju < b
                        · have hjz : (ju : Int) < (b : Int) := by omega
                          cases hlv3 : lt du[ju]! du[ju - 1]! with
                          | true =>
                            have hl := SU.lessI H (x := (ju : Int)) (y := (ju : Int) - 1) ju (ju - 1) rfl (by omega) (by omega) (by omega) hlv3
                            go_wp2_with (go_at_fn g; refine hl.mono ?_; rintro e w2 ⟨rfl, SV⟩; have y1 := SV.c1; obtain ⟨w3, hsw, S3⟩ := SV.swapsI H (x := (ju : Int)) (y := (ju : Int) - 1) ju (ju - 1) rfl (by omega) (by omega) (by omega); have x0 := S3.c0; have x1 := S3.c1)
                            go_roundg (b - (ju + 1))
                            case measure => omega
                            case rel => exact ⟨ju + 1, Sort.swp du ju (ju - 1), by go_num, by omega, by omega, Nat.le_refl _, S3, (show Hid _ from by rw [← HU.out, shiftUp_go lt b ju du hjb' hlv3]; exact rfl)⟩
                          | false =>
                            have hl := SU.lessI H (x := (ju : Int)) (y := (ju : Int) - 1) ju (ju - 1) rfl (by omega) (by omega) (by omega) hlv3
                            go_wp2_with (go_at_fn g; refine hl.mono ?_; rintro e w2 ⟨rfl, SV⟩; have y0 := SV.c0)
                            go_roundg (5 - (s + 1))
                            case measure => omega
                            case rel => exact ⟨kx, s + 1, du, rfl, by go_num, by omega, Nat.le_refl _, by omega, by omega, SV, (show Hid _ from by rw [← HO.out, pi_go lt a b s i kx dk hs HK.out (by omega) h50, HD.out, show Sort.fixUp lt b kx dj = du from by unfold Sort.fixUp; rw [if_pos hbk, ← HU.out, shiftUp_stop lt b ju du (Or.inr hlv3)]]; exact rfl)⟩
                        · have hjz : ¬ (ju : Int) < (b : Int) := by omega
                          go_wp2
                          go_roundg (5 - (s + 1))
                          case measure => omega
                          case rel => exact ⟨kx, s + 1, du, rfl, by go_num, by omega, Nat.le_refl _, by omega, by omega, SU, (show Hid _ from by rw [← HO.out, pi_go lt a b s i kx dk hs HK.out (by omega) h50, HD.out, show Sort.fixUp lt b kx dj = du from by unfold Sort.fixUp; rw [if_pos hbk, ← HU.out, shiftUp_stop lt b ju du (Or.inl hjb')]]; exact rfl)⟩
                    · have hbkz : ¬ (2 : Int) ≤ (b : Int) - (kx : Int) := by omega
                      have hl := S.lessI H (x := (j : Int)) (y := (j : Int) - 1) j (j - 1) rfl (by omega) (by omega) (by omega) hlv2
                      go_wp2_with (go_at_fn g; refine hl.mono ?_; rintro e w2 ⟨rfl, S2⟩; have y0 := S2.c0)
                      go_roundg (5 - (s + 1))
                      case measure => omega
                      case rel => exact ⟨kx, s + 1, dj, rfl, by go_num, by omega, Nat.le_refl _, by omega, by omega, S2, (show Hid _ from by rw [← HO.out, pi_go lt a b s i kx dk hs HK.out (by omega) h50, HD.out, show Sort.fixUp lt b kx dj = dj from by unfold Sort.fixUp; rw [if_neg hbk]]; exact rfl)⟩
                · have hj1z : ¬ (1 : Int) ≤ (j : Int) := by omega
                  have HD : Hid (Sort.fixDown lt a kx (Sort.swp dk kx (kx - 1)) = dj) := by show _ = _; unfold Sort.fixDown; rw [if_pos hka, ← HDn.out, shiftDown_stop lt j dj (Or.inl (by omega))]
                  by_cases hbk : b - kx ≥ 2
                  · have hbkz : (2 : Int) ≤ (b : Int) - (kx : Int) := by omega
                    go_wp2
                    go_loopg [10] (b - (kx + 1)) (fun g4 vj wr4 => ∃ (ju : Nat) (du : Array α), vj = .int .i64 ju ∧ kx + 1 ≤ ju ∧ ju ≤ b ∧ b - ju ≤ g4 ∧ So enc k g lb sf sb blk off size w0 W du wr4 ∧ Hid (Sort.shiftUp lt b ju du = Sort.shiftUp lt b (kx + 1) dj))
                    case atStart => exact ⟨kx + 1, dj, by go_num, Nat.le_refl _, by omega, Nat.le_refl _, S, rfl⟩
                    case round =>
                      obtain ⟨ju, du, rfl, hkj, hjb, hg4, SU, HU⟩ := hrel
                      have p0 := SU.c0
                      have p1 := SU.c1
                      by_cases hjb' : ju < b
                      · have hjz : (ju : Int) < (b : Int) := by omega
                        cases hlv3 : lt du[ju]! du[ju - 1]! with
                        | true =>
                          have hl := SU.lessI H (x := (ju : Int)) (y := (ju : Int) - 1) ju (ju - 1) rfl (by omega) (by omega) (by omega) hlv3
                          go_wp2_with (go_at_fn g; refine hl.mono ?_; rintro e w2 ⟨rfl, SV⟩; have y1 := SV.c1; obtain ⟨w3, hsw, S3⟩ := SV.swapsI H (x := (ju : Int)) (y := (ju : Int) - 1) ju (ju - 1) rfl (by omega) (by omega) (by omega); have x0 := S3.c0; have x1 := S3.c1)
                          go_roundg (b - (ju + 1))
                          case measure => omega
                          case rel => exact ⟨ju + 1, Sort.swp du ju (ju - 1), by go_num, by omega, by omega, Nat.le_refl _, S3, (show Hid _ from by rw [← HU.out, shiftUp_go lt b ju du hjb' hlv3]; exact rfl)⟩
                        | false =>
                          have hl := SU.lessI H (x := (ju : Int)) (y := (ju : Int) - 1) ju (ju - 1) rfl (by omega) (by omega) (by omega) hlv3
                          go_wp2_with (go_at_fn g; refine hl.mono ?_; rintro e w2 ⟨rfl, SV⟩; have y0 := SV.c0)
                          go_roundg (5 - (s + 1))
                          case measure => omega
                          case rel => exact ⟨kx, s + 1, du, rfl, by go_num, by omega, Nat.le_refl _, by omega, by omega, SV, (show Hid _ from by rw [← HO.out, pi_go lt a b s i kx dk hs HK.out (by omega) h50, HD.out, show Sort.fixUp lt b kx dj = du from by unfold Sort.fixUp; rw [if_pos hbk, ← HU.out, shiftUp_stop lt b ju du (Or.inr hlv3)]]; exact rfl)⟩
                      · have hjz : ¬ (ju : Int) < (b : Int) := by omega
                        go_wp2
                        go_roundg (5 - (s + 1))
                        case measure => omega
                        case rel => exact ⟨kx, s + 1, du, rfl, by go_num, by omega, Nat.le_refl _, by omega, by omega, SU, (show Hid _ from by rw [← HO.out, pi_go lt a b s i kx dk hs HK.out (by omega) h50, HD.out, show Sort.fixUp lt b kx dj = du from by unfold Sort.fixUp; rw [if_pos hbk, ← HU.out, shiftUp_stop lt b ju du (Or.inl hjb')]]; exact rfl)⟩
                  · have hbkz : ¬ (2 : Int) ≤ (b : Int) - (kx : Int) := by omega
                    go_wp2
                    go_roundg (5 - (s + 1))
                    case measure => omega
                    case rel => exact ⟨kx, s + 1, dj, rfl, by go_num, by omega, Nat.le_refl _, by omega, by omega, S, (show Hid _ from by rw [← HO.out, pi_go lt a b s i kx dk hs HK.out (by omega) h50, HD.out, show Sort.fixUp lt b kx dj = dj from by unfold Sort.fixUp; rw [if_neg hbk]]; exact rfl)⟩
            · have hkaz : ¬ (2 : Int) ≤ (kx : Int) - (a : Int) := by omega
              have HD : Hid (Sort.fixDown lt a kx (Sort.swp dk kx (kx - 1)) = (Sort.swp dk kx (kx - 1))) := by show _ = _; unfold Sort.fixDown; rw [if_neg hka]
              by_cases hbk : b - kx ≥ 2
              · have hbkz : (2 : Int) ≤ (b : Int) - (kx : Int) := by omega
                have hl := S.lessI H (x := (kx : Int)) (y := (kx : Int) - 1) kx (kx - 1) rfl (by omega) (by omega) (by omega) hlv
                go_wp2_with (go_at_fn g; refine hl.mono ?_; rintro e w2 ⟨rfl, S2⟩; have y1 := S2.c1; obtain ⟨w3, hsw, S3⟩ := S2.swapsI H (x := (kx : Int)) (y := (kx : Int) - 1) kx (kx - 1) rfl (by omega) (by omega) (by omega); have x0 := S3.c0; have x1 := S3.c1)
                go_loopg [10] (b - (kx + 1)) (fun g4 vj wr4 => ∃ (ju : Nat) (du : Array α), vj = .int .i64 ju ∧ kx + 1 ≤ ju ∧ ju ≤ b ∧ b - ju ≤ g4 ∧ So enc k g lb sf sb blk off size w0 W du wr4 ∧ Hid (Sort.shiftUp lt b ju du = Sort.shiftUp lt b (kx + 1) (Sort.swp dk kx (kx - 1))))
                case atStart => exact ⟨kx + 1, (Sort.swp dk kx (kx - 1)), by go_num, Nat.le_refl _, by omega, Nat.le_refl _, S3, rfl⟩
                case round =>
                  obtain ⟨ju, du, rfl, hkj, hjb, hg4, SU, HU⟩ := hrel
                  have p0 := SU.c0
                  have p1 := SU.c1
                  by_cases hjb' : ju < b
                  · have hjz : (ju : Int) < (b : Int) := by omega
                    cases hlv3 : lt du[ju]! du[ju - 1]! with
                    | true =>
                      have hl := SU.lessI H (x := (ju : Int)) (y := (ju : Int) - 1) ju (ju - 1) rfl (by omega) (by omega) (by omega) hlv3
                      go_wp2_with (go_at_fn g; refine hl.mono ?_; rintro e w2 ⟨rfl, SV⟩; have y1 := SV.c1; obtain ⟨w3, hsw, S3⟩ := SV.swapsI H (x := (ju : Int)) (y := (ju : Int) - 1) ju (ju - 1) rfl (by omega) (by omega) (by omega); have x0 := S3.c0; have x1 := S3.c1)
                      go_roundg (b - (ju + 1))
                      case measure => omega
                      case rel => exact ⟨ju + 1, Sort.swp du ju (ju - 1), by go_num, by omega, by omega, Nat.le_refl _, S3, (show Hid _ from by rw [← HU.out, shiftUp_go lt b ju du hjb' hlv3]; exact rfl)⟩
                    | false =>
                      have hl := SU.lessI H (x := (ju : Int)) (y := (ju : Int) - 1) ju (ju - 1) rfl (by omega) (by omega) (by omega) hlv3
                      go_wp2_with (go_at_fn g; refine hl.mono ?_; rintro e w2 ⟨rfl, SV⟩; have y0 := SV.c0)
                      go_roundg (5 - (s + 1))
                      case measure => omega
                      case rel => exact ⟨kx, s + 1, du, rfl, by go_num, by omega, Nat.le_refl _, by omega, by omega, SV, (show Hid _ from by rw [← HO.out, pi_go lt a b s i kx dk hs HK.out (by omega) h50, HD.out, show Sort.fixUp lt b kx (Sort.swp dk kx (kx - 1)) = du from by unfold Sort.fixUp; rw [if_pos hbk, ← HU.out, shiftUp_stop lt b ju du (Or.inr hlv3)]]; exact rfl)⟩
                  · have hjz : ¬ (ju : Int) < (b : Int) := by omega
                    go_wp2
                    go_roundg (5 - (s + 1))
                    case measure => omega
                    case rel => exact ⟨kx, s + 1, du, rfl, by go_num, by omega, Nat.le_refl _, by omega, by omega, SU, (show Hid _ from by rw [← HO.out, pi_go lt a b s i kx dk hs HK.out (by omega) h50, HD.out, show Sort.fixUp lt b kx (Sort.swp dk kx (kx - 1)) = du from by unfold Sort.fixUp; rw [if_pos hbk, ← HU.out, shiftUp_stop lt b ju du (Or.inl hjb')]]; exact rfl)⟩
              · exfalso; omega
        · obtain rfl : kx = b := by omega
          have hkz : ¬ (kx : Int) < (kx : Int) := by omega
          go_wp2
          have hv : Sort.partialInsertionSort lt d a kx = (dk, true) := by
            unfold Sort.partialInsertionSort
            rw [← HO.out, pi_true lt a kx s i dk hs (by rw [← HSc.out, scanSorted_stop lt dk kx kx (Or.inl (by omega))])]
          rw [hv]
          go_ret
          exact ⟨rfl, S⟩
    · obtain rfl : s = 5 := by omega
      go_wp2
      have hv : Sort.partialInsertionSort lt d a b = (dk, false) := by
        unfold Sort.partialInsertionSort
        rw [← HO.out, pi_end]
      rw [hv]
      go_ret
      exact ⟨rfl, S⟩
end
end Go.Proofs.YtehabjiacgibpaaGreat
