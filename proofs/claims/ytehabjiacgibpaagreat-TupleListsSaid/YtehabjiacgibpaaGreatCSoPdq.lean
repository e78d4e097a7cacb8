/-
  What sort.pdqsort_func comes to, whatever program holds it, where 'less' may lay blocks. Conditions: the places asked for lie within the row; 'less' is a strict weak order.
-/
import Derived.Test.YtehabjiacgibpaaGreatCSoIns
import Derived.Test.YtehabjiacgibpaaGreatCSoHeap
import Derived.Test.YtehabjiacgibpaaGreatCSoPiv
import Derived.Test.YtehabjiacgibpaaGreatCSoPar
import Derived.Test.YtehabjiacgibpaaGreatCSoPart
import Derived.Shelf.SlSortFuncK.PdqK
namespace Go.Proofs.YtehabjiacgibpaaGreat
open Go.Shelf Go.RowKit Go.Lib
section
variable {P : Program} {ρ : Ren} {α : Type} [Inhabited α] {enc : α → List Value} {k : Nat} {w0 W wr w1 : World} {blk off : Nat} {lt : α → α → Bool} {g : Nat} {lb : Array Value} {sf : Nat} {sb : Array Value} {size : Nat} {dk d' : Array α}
theorem So.sorted (h : So enc k g lb sf sb blk off size w0 W dk wr) {n : Nat} {os : Array Obj} (hs : d'.size = dk.size) (hw : w1 = sortWorldK enc k wr blk off n d' os) : So enc k g lb sf sb blk off size w0 W d' w1 := by
  have hlt := h.at_.there
  have hH := holdsK_sortWorldK enc k wr blk off n dk d' os hlt h.at_.holds hs
  have hg : wr.grownBy (sortWorldK enc k wr blk off n d' os) (some blk) := by
    refine ⟨rfl, rfl, rfl, ?_, fun i hi hne => ?_⟩
    · unfold sortWorldK
      rw [Sort.size_grow, Sort.size_putRowK]
      exact Nat.le_add_right _ _
    · unfold sortWorldK
      rw [Sort.heap_grow_old _ _ (by rw [Sort.size_putRowK]; exact hi)]
      have hne2 : blk ≠ i := fun e => hne (by rw [e])
      show (wr.heap.modify blk _)[i]? = wr.heap[i]?
      rw [Array.getElem?_modify, if_neg hne2]
  subst hw
  exact h.moved hg ⟨only_trans h.at_.grown hg, hH, h.at_.lt⟩ hs
set_option maxHeartbeats 12800000 in
set_option maxRecDepth 1000000 in
theorem pdq_at (L : LaysGg.n14 P ρ) (H : SoHyp P enc k lt g lb sf sb blk off size w0) (hO : Sort.SWO lt) : ∀ (N a b limit : Nat) (d : Array α) (W : World), b - a < N → SoAt enc k w0 blk off d W → d.size = size → a ≤ b → b ≤ size → limit < 4611686018427387904 → Sort.Below lt a b d →
    Calls P (ρ.f 14) #[.agg #[.func (.func g) #[] lb, .func (.func sf) #[] sb], .int .i64 a, .int .i64 b, .int .i64 limit] W fun e w' => e = .returned (.tuple #[]) ∧ So enc k g lb sf sb blk off size w0 W (Sort.pdq lt d a b limit true true) w' := by
  have mixed := L.mixed; have t0 := L.t0; have a0 := L.a0; have z0 := L.z0; have v0 := L.v0; have t3 := L.t3; have a3 := L.a3; have z3 := L.z3; have v3 := L.v3; have t4 := L.t4; have a4 := L.a4; have z4 := L.z4; have v4 := L.v4; have t5 := L.t5; have a5 := L.a5; have z5 := L.z5; have v5 := L.v5; have t9 := L.t9; have a9 := L.a9; have z9 := L.z9; have v9 := L.v9; have t26 := L.t26; have a26 := L.a26; have z26 := L.z26; have v26 := L.v26; have t37 := L.t37; have a37 := L.a37; have z37 := L.z37; have v37 := L.v37; have t41 := L.t41; have a41 := L.a41; have z41 := L.z41; have v41 := L.v41; have t44 := L.t44; have a44 := L.a44; have z44 := L.z44; have v44 := L.v44; have t49 := L.t49; have a49 := L.a49; have z49 := L.z49; have v49 := L.v49; have t51 := L.t51; have a51 := L.a51; have z51 := L.z51; have v51 := L.v51; have t53 := L.t53; have a53 := L.a53; have z53 := L.z53; have v53 := L.v53; have t54 := L.t54; have a54 := L.a54; have z54 := L.z54; have v54 := L.v54; have t58 := L.t58; have a58 := L.a58; have z58 := L.z58; have v58 := L.v58; have t60 := L.t60; have a60 := L.a60; have z60 := L.z60; have v60 := L.v60; have t64 := L.t64; have a64 := L.a64; have z64 := L.z64; have v64 := L.v64; have t66 := L.t66; have a66 := L.a66; have z66 := L.z66; have v66 := L.v66; have t67 := L.t67; have a67 := L.a67; have z67 := L.z67; have v67 := L.v67
  have u44 := run_underlying L.t44
  have eg := H.eg
  have hsz := H.sz
  have e26 : ∀ args w, (callFunc (ρ.f 26) args).run P w = .ok (.enter (ρ.f 26) args) w := enters_of L.f26 (by kernel_rfl) rfl
  have e27 : ∀ args w, (callFunc (ρ.f 27) args).run P w = .ok (.enter (ρ.f 27) args) w := enters_of L.f27 (by kernel_rfl) rfl
  have e28 : ∀ args w, (callFunc (ρ.f 28) args).run P w = .ok (.enter (ρ.f 28) args) w := enters_of L.f28 (by kernel_rfl) rfl
  have e29 : ∀ args w, (callFunc (ρ.f 29) args).run P w = .ok (.enter (ρ.f 29) args) w := enters_of L.f29 (by kernel_rfl) rfl
  have e30 : ∀ args w, (callFunc (ρ.f 30) args).run P w = .ok (.enter (ρ.f 30) args) w := enters_of L.f30 (by kernel_rfl) rfl
  have e31 : ∀ args w, (callFunc (ρ.f 31) args).run P w = .ok (.enter (ρ.f 31) args) w := enters_of L.f31 (by kernel_rfl) rfl
  have e32 : ∀ args w, (callFunc (ρ.f 32) args).run P w = .ok (.enter (ρ.f 32) args) w := enters_of L.f32 (by kernel_rfl) rfl
  have e33 : ∀ args w, (callFunc (ρ.f 33) args).run P w = .ok (.enter (ρ.f 33) args) w := enters_of L.f33 (by kernel_rfl) rfl
  have e14 : ∀ args w, (callFunc (ρ.f 14) args).run P w = .ok (.enter (ρ.f 14) args) w := enters_of L.f14 (by kernel_rfl) rfl
  intro N
  induction N with
  | zero => intro _ _ _ _ _ h; exact absurd h (Nat.not_lt_zero _)
  | succ N ih =>
    intro a b limit d W hN hS hd hab hb hlimit hBel0
    have S0 := So.start (g := g) (lb := lb) (sf := sf) (sb := sb) hS hd (ρ.t 44)
    have SW : ∀ {D : Array α}, D.size = size → SwapSwapsK P sf sb enc k blk off D.size := fun {D} hs => by rw [hs]; exact H.swap
    clear hS
    go_enter L.f14, BodyGg.n14_ntmps ρ
    go_wp2
    go_loopg [1, 2, 3, 8, 9] (b - a) (fun kx s1 s2 s3 s8 s9 wr => ∃ (a' b' lim : Nat) (wb wp : Bool) (dk : Array α), s1 = .int .i64 a' ∧ s2 = .int .i64 b' ∧ s3 = .int .i64 lim ∧ s8 = .bool wb ∧ s9 = .bool wp ∧
      a' ≤ b' ∧ b' ≤ size ∧ b' - a' ≤ kx ∧ kx ≤ b - a ∧ lim ≤ limit ∧ Sort.Below lt a' b' dk ∧ So enc k g lb sf sb blk off size w0 W dk wr ∧ Sort.pdq lt dk a' b' lim wb wp = Sort.pdq lt d a b limit true true)
    case atStart => exact ⟨a, b, limit, true, true, d, rfl, rfl, rfl, rfl, rfl, hab, hb, Nat.le_refl _, Nat.le_refl _, Nat.le_refl _, hBel0, S0, rfl⟩
    case round =>
      clear S0
      obtain ⟨a', b', lim, wb, wp, dk, rfl, rfl, rfl, rfl, rfl, hab', hb', hkx, hkN, hlim, hBel, S, heq⟩ := hrel
      have hds := S.len
      have x0 := S.c0
      have x1 := S.c1
      have A := Lib.hid heq
      clear heq
      by_cases h12 : b' - a' ≤ 12
      · have h12z : (b' : Int) - (a' : Int) ≤ 12 := by omega
        have hc := insertion_at (P := P) (ρ := ρ) { L with } H a' b' dk wr S.at_ hds hab' hb'
        go_wp2_with (go_at_fn (ρ.f 26); refine hc.mono ?_; rintro e w1 ⟨rfl, S1⟩)
        (try simp only [Exit.inBlock, Exit.then]); refine bodyPost_ret (results_none rfl _ _ _) rfl ?_
        refine ⟨rfl, ?_⟩
        rw [← A.out, Sort.pdq_small h12]
        exact S.moved S1.own S1.at_ (Sort.insertionSort_holds hO dk a' b' hab' (by omega)).1.1
      · have h12z : ¬ ((b' : Int) - (a' : Int) ≤ 12) := by omega
        by_cases hl0 : lim = 0
        · subst hl0
          have hc := heap_at (P := P) (ρ := ρ) { L with } H a' b' dk wr S.at_ hds hab' hb'
          go_wp2_with (go_at_fn (ρ.f 27); refine hc.mono ?_; rintro e w1 ⟨rfl, S1⟩)
          (try simp only [Exit.inBlock, Exit.then]); refine bodyPost_ret (results_none rfl _ _ _) rfl ?_
          refine ⟨rfl, ?_⟩
          rw [← A.out, Sort.pdq_heap h12 rfl]
          exact S.moved S1.own S1.at_ (Sort.heapSort_holds hO dk a' b' hab' (by omega)).1.1
        · have hl0z : ¬ ((lim : Int) = 0) := by omega
          obtain ⟨s1, B1, hc1, s2, B2, hpv, s3, B3⟩ := Sort.rd_facts (lt := lt) (limit := lim) (wb := wb) (wp := wp) hO Sort.partialInsertionSort_holds Sort.reverseRange_holds (show a' < b' by omega) (show b' ≤ dk.size by omega) hBel
          -- 'if !wasBalanced'
          go_upto_if 35 with fail
          go_cut [3] from 19 (fun s3 wc => s3 = .int .i64 (Sort.rd lt dk a' b' lim wb wp).lim ∧ So enc k g lb sf sb blk off size w0 W (Sort.rd lt dk a' b' lim wb wp).d1 wc)
          case first =>
            cases wb
            · have hc := Any.breakPatterns_func_cells_w (P := P) (ρ := ρ) { L with } enc k H.hk (.func g) #[] lb sf sb blk off a' b' dk wr (SW hds) S.at_.holds S.at_.there hab' (by omega) (by omega)
              go_wp2_with (go_at_fn (ρ.f 28); refine hc.mono ?_; rintro e w1 ⟨rfl, m1, os1, hw1⟩; have S1 := S.sorted (d' := Sort.breakPatterns dk a' b') s1 hw1; clear hw1)
              go_meet
              case rel =>
                refine ⟨?_, S1⟩
                show Value.int .i64 ((lim : Int) - 1) = Value.int .i64 ((lim - 1 : Nat) : Int)
                congr 1
                omega
            · go_wp2_with fail
              go_meet
              case rel => exact ⟨rfl, S⟩
          case rest =>
            clear S x0 x1
            obtain ⟨rfl, S⟩ := hcut
            have y0 := S.c0
            have y1 := S.c1
            have hc17 : Calls P (ρ.f 29) #[.agg #[.func (.func g) #[] lb, .func (.func sf) #[] sb], .int .i64 a', .int .i64 b'] wc fun e w' => e = .returned (.tuple #[.int .i64 (Sort.rd lt dk a' b' lim wb wp).c.1, .int .i64 (Sort.hintCode (Sort.rd lt dk a' b' lim wb wp).c.2)]) ∧ Below wc.heap.size wc w' :=
              choose_at (P := P) (ρ := ρ) { L with } H a' b' wc S.at_ S.len (by omega) hb'
            go_upto_if 50 with (go_at_fn (ρ.f 29); refine hc17.mono ?_; rintro e w2 ⟨rfl, hb2⟩)
            have S2 := S.below hb2
            have z0 := S2.c0
            have z1 := S2.c1
            clear S y0 y1
            -- 'if hint == decreasingHint'
            go_cut [11, 12] from 19 (fun s11 s12 wc => s11 = .int .i64 (Sort.rd lt dk a' b' lim wb wp).pivot ∧ s12 = .int .i64 (Sort.hintCode (Sort.rd lt dk a' b' lim wb wp).hint) ∧ So enc k g lb sf sb blk off size w0 W (Sort.rd lt dk a' b' lim wb wp).d2 wc)
            case first =>
              by_cases hh : (Sort.rd lt dk a' b' lim wb wp).c.2 = .decreasing
              · have hcode : Sort.hintCode (Sort.rd lt dk a' b' lim wb wp).c.2 = 2 := by rw [hh]; rfl
                obtain ⟨e2, epv, eht⟩ := Sort.rd_dec hh
                have hc18 := Any.reverseRange_func_cells_w (P := P) (ρ := ρ) { L with } enc k H.hk (.func g) #[] lb sf sb blk off a' b' (Sort.rd lt dk a' b' lim wb wp).d1 w2 (SW S2.len) S2.at_.holds S2.at_.there hab' (by rw [S2.len]; exact hb') (by rw [S2.len]; exact hsz)
                have hrs : (Sort.reverseRange (Sort.rd lt dk a' b' lim wb wp).d1 a' b').size = (Sort.rd lt dk a' b' lim wb wp).d1.size := by rw [← e2, s2, s1]
                have HRS := Lib.hid hrs
                clear hrs
                go_wp2_with (go_at_fn (ρ.f 30); refine hc18.mono ?_; rintro e w3 ⟨rfl, m3, os3, hw3⟩; have S3 := S2.sorted HRS.out hw3; clear hw3)
                go_meet
                case rel =>
                  refine ⟨?_, by rw [eht]; rfl, by rw [e2]; exact S3⟩
                  rw [epv]
                  congr 1
                  omega
              · have hcode : ¬ (Sort.hintCode (Sort.rd lt dk a' b' lim wb wp).c.2 = 2) := fun h => hh (hintCode_two h)
                obtain ⟨e2, epv, eht⟩ := Sort.rd_not hh
                go_wp2_with fail
                go_meet
                case rel => exact ⟨by rw [epv], by rw [eht], by rw [e2]; exact S2⟩
            case rest =>
              clear S2 z0 z1
              obtain ⟨rfl, rfl, S⟩ := hcut
              have v0_ := S.c0
              have v1_ := S.c1
              -- 'wasBalanced && wasPartitioned && hint == increasingHint'
              go_upto_region 16 with fail
              go_cut [12, 68] from 19 (fun s12 s68 wx => s12 = .int .i64 (Sort.hintCode (Sort.rd lt dk a' b' lim wb wp).hint) ∧ s68 = .bool (wb && wp && decide ((Sort.rd lt dk a' b' lim wb wp).hint = .increasing)) ∧ wx = wc)
              case first =>
                cases wb <;> cases wp <;> cases hh3 : (Sort.rd lt dk a' b' lim _ _).hint <;>
                  (have hcode3 := congrArg Sort.hintCode hh3
                   simp only [Sort.hintCode] at hcode3
                   go_wp2_with fail
                   go_meet
                   exact ⟨by simp [hh3, Sort.hintCode], by simp [hh3, Sort.hintCode], rfl⟩)
              case rest =>
                obtain ⟨rfl, rfl, rfl⟩ := hcut
                -- 'if partialInsertionSort(..) { return }'
                go_upto_if 68 with fail
                go_cut [] from 19 (fun wx => (Sort.rd lt dk a' b' lim wb wp).pi.2 = false ∧ So enc k g lb sf sb blk off size w0 W (Sort.rd lt dk a' b' lim wb wp).pi.1 wx)
                case first =>
                  cases h68 : (wb && wp && decide ((Sort.rd lt dk a' b' lim wb wp).hint = .increasing))
                  · have epi := Sort.rd_pi_no h68
                    go_wp2_with fail
                    go_meet
                    case rel => exact ⟨by rw [epi], by rw [epi]; exact S⟩
                  · have epi := Sort.rd_pi_yes h68
                    have hc19 := partial_at (P := P) (ρ := ρ) { L with } H a' b' (Sort.rd lt dk a' b' lim wb wp).d2 wc S.at_ S.len (by omega) hb'
                    rw [← epi] at hc19
                    go_wp2_with (go_at_fn (ρ.f 31); refine hc19.mono ?_; rintro e w4 ⟨rfl, S4⟩)
                    all_goals first
                      | (have hp2 : (Sort.rd lt dk a' b' lim wb wp).pi.2 = false := by rw [epi]; assumption
                         go_meet
                         exact ⟨hp2, S.moved S4.own S4.at_ (by rw [s3, s2])⟩)
                      | (have hp2 : (Sort.rd lt dk a' b' lim wb wp).pi.2 = true := by rw [epi]; assumption
                         (try simp only [Exit.inBlock, Exit.then]); refine bodyPost_ret (results_none rfl _ _ _) rfl ?_
                         refine ⟨rfl, ?_⟩
                         rw [← A.out, Sort.pdq_done h12 hl0 hp2]
                         exact S.moved S4.own S4.at_ (by rw [s3, s2]))
                case rest =>
                  clear S v0_ v1_
                  obtain ⟨hp2, S⟩ := hcut
                  have p0_ := S.c0
                  have p1_ := S.c1
                  -- 'a > 0 && !less(a-1, pivot)'
                  go_upto_region 18 with fail
                  go_cut [83] from 19 (fun s83 wx => s83 = .bool (decide (a' > 0) && !lt (Sort.rd lt dk a' b' lim wb wp).pi.1[a' - 1]! (Sort.rd lt dk a' b' lim wb wp).pi.1[(Sort.rd lt dk a' b' lim wb wp).pivot]!) ∧ So enc k g lb sf sb blk off size w0 W (Sort.rd lt dk a' b' lim wb wp).pi.1 wx)
                  case first =>
                    rcases Nat.eq_zero_or_pos a' with ha0 | ha0
                    · have ha0z : decide ((a' : Int) > 0) = false := decide_eq_false (by omega)
                      go_wp2_with fail
                      go_meet
                      case rel => exact ⟨by simp [ha0], S⟩
                    · have ha0z : (a' : Int) > 0 := by omega
                      cases hlv : lt (Sort.rd lt dk a' b' lim wb wp).pi.1[a' - 1]! (Sort.rd lt dk a' b' lim wb wp).pi.1[(Sort.rd lt dk a' b' lim wb wp).pivot]! <;>
                        (have hl := S.lessI H (x := (a' : Int) - 1) (y := ((Sort.rd lt dk a' b' lim wb wp).pivot : Int)) (a' - 1) (Sort.rd lt dk a' b' lim wb wp).pivot (by omega) rfl (by omega) (by omega) hlv
                         go_wp2_with (go_at_fn g; refine hl.mono ?_; rintro e w5 ⟨rfl, S5⟩)
                         go_meet
                         exact ⟨by simp [ha0, hlv], S5⟩)
                  case rest =>
                    clear S p0_ p1_
                    obtain ⟨rfl, S⟩ := hcut
                    have q0 := S.c0
                    have q1 := S.c1
                    cases h87 : (decide (a' > 0) && !lt (Sort.rd lt dk a' b' lim wb wp).pi.1[a' - 1]! (Sort.rd lt dk a' b' lim wb wp).pi.1[(Sort.rd lt dk a' b' lim wb wp).pivot]!)
                    · obtain ⟨mid, ap, d4, hx⟩ : ∃ mid ap d4, Sort.partition lt (Sort.rd lt dk a' b' lim wb wp).pi.1 a' b' (Sort.rd lt dk a' b' lim wb wp).pivot = (mid, ap, d4) := ⟨_, _, _, rfl⟩
                      obtain ⟨r1, r2, r3, r4, r5, r6, r7⟩ := Sort.round_part hO (Sort.partition_holds lt) hpv.1 hpv.2 (show b' ≤ (Sort.rd lt dk a' b' lim wb wp).pi.1.size by rw [S.len]; exact hb') B3 hx
                      have hc22 := part_at (P := P) (ρ := ρ) { L with } H a' b' (Sort.rd lt dk a' b' lim wb wp).pivot (Sort.rd lt dk a' b' lim wb wp).pi.1 wc S.at_ S.len hpv.1 hpv.2 hb'
                      rw [hx] at hc22
                      have X := Lib.hid hx
                      clear hx
                      go_upto_if 109 with (go_at_fn (ρ.f 33); refine hc22.mono ?_; rintro e w7 ⟨rfl, S7⟩)
                      have hx := X.out
                      have hs4 : d4.size = size := r3.trans S.len
                      have S8 := S.moved S7.own S7.at_ r3
                      have u0_ := S8.c0
                      have u1_ := S8.c1
                      clear S S7 q0 q1
                      by_cases h4 : mid - a' < b' - mid
                      · have h4z : (mid : Int) - (a' : Int) < (b' : Int) - (mid : Int) := by omega
                        have hih := ih a' mid (Sort.rd lt dk a' b' lim wb wp).lim d4 w7 (by omega) S8.at_ hs4 (by omega) (by omega) (Nat.lt_of_le_of_lt (Nat.le_trans Sort.rd_lim_le hlim) hlimit) r4
                        obtain ⟨pL, sL⟩ := Sort.pdq_sorts lt hO d4 a' mid (Sort.rd lt dk a' b' lim wb wp).lim true true (by omega) (by omega) r4
                        go_wp2_with (go_at_fn (ρ.f 14); refine hih.mono ?_; rintro e w8 ⟨rfl, S9⟩)
                        go_roundg (b' - (mid + 1))
                        case measure => omega
                        case rel =>
                          refine ⟨mid + 1, b', (Sort.rd lt dk a' b' lim wb wp).lim, decide (mid - a' ≥ (b' - a') / 8), ap, Sort.pdq lt d4 a' mid (Sort.rd lt dk a' b' lim wb wp).lim true true, by simp, rfl, rfl, ?_, rfl, by omega, by omega, Nat.le_refl _, by omega, Nat.le_trans Sort.rd_lim_le hlim, (r6 _ pL sL).1, S8.moved S9.own S9.at_ pL.1, ?_⟩
                          · exact congrArg Value.bool (eighth (by omega) (by omega))
                          · rw [← A.out, Sort.pdq_left h12 hl0 hp2 h87 (by rw [hx]; exact ⟨r1, r2⟩) (by rw [hx]; exact h4), hx]
                      · have h4z : ¬ ((mid : Int) - (a' : Int) < (b' : Int) - (mid : Int)) := by omega
                        have hih := ih (mid + 1) b' (Sort.rd lt dk a' b' lim wb wp).lim d4 w7 (by omega) S8.at_ hs4 (by omega) (by omega) (Nat.lt_of_le_of_lt (Nat.le_trans Sort.rd_lim_le hlim) hlimit) r5
                        rw [show ((mid + 1 : Nat) : Int) = (mid : Int) + 1 by omega] at hih
                        obtain ⟨pL, sL⟩ := Sort.pdq_sorts lt hO d4 (mid + 1) b' (Sort.rd lt dk a' b' lim wb wp).lim true true (by omega) (by omega) r5
                        go_wp2_with (go_at_fn (ρ.f 14); refine hih.mono ?_; rintro e w8 ⟨rfl, S9⟩)
                        go_roundg (mid - a')
                        case measure => omega
                        case rel =>
                          refine ⟨a', mid, (Sort.rd lt dk a' b' lim wb wp).lim, decide (b' - mid ≥ (b' - a') / 8), ap, Sort.pdq lt d4 (mid + 1) b' (Sort.rd lt dk a' b' lim wb wp).lim true true, rfl, rfl, rfl, ?_, rfl, by omega, by omega, Nat.le_refl _, by omega, Nat.le_trans Sort.rd_lim_le hlim, (r7 _ pL sL).1, S8.moved S9.own S9.at_ pL.1, ?_⟩
                          · exact congrArg Value.bool (eighth (by omega) (by omega))
                          · rw [← A.out, Sort.pdq_right h12 hl0 hp2 h87 (by rw [hx]; exact ⟨r1, r2⟩) (by rw [hx]; exact h4), hx]
                    · have h87' := h87
                      simp only [Bool.and_eq_true, decide_eq_true_eq, Bool.not_eq_true'] at h87'
                      obtain ⟨mid, d4, hx⟩ : ∃ mid d4, Sort.partitionEqual lt (Sort.rd lt dk a' b' lim wb wp).pi.1 a' b' (Sort.rd lt dk a' b' lim wb wp).pivot = (mid, d4) := ⟨_, _, rfl⟩
                      obtain ⟨r1, r2, r3, r4, _⟩ := Sort.round_eq hO (Sort.partitionEqual_holds lt) h87'.1 hpv.1 hpv.2 (show b' ≤ (Sort.rd lt dk a' b' lim wb wp).pi.1.size by rw [S.len]; exact hb') B3 h87'.2 hx
                      have hc21 := partEqual_at (P := P) (ρ := ρ) { L with } H a' b' (Sort.rd lt dk a' b' lim wb wp).pivot (Sort.rd lt dk a' b' lim wb wp).pi.1 wc S.at_ S.len hpv.1 hpv.2 hb'
                      rw [hx] at hc21
                      have X := Lib.hid hx
                      clear hx
                      go_wp2_with (go_at_fn (ρ.f 32); refine hc21.mono ?_; rintro e w7 ⟨rfl, S7⟩)
                      go_roundg (b' - mid)
                      case measure => omega
                      case rel =>
                        have hx := X.out
                        exact ⟨mid, b', (Sort.rd lt dk a' b' lim wb wp).lim, wb, wp, d4, rfl, rfl, rfl, rfl, rfl, r2, hb', Nat.le_refl _, by omega, Nat.le_trans Sort.rd_lim_le hlim, r4, S.moved S7.own S7.at_ r3, by rw [← A.out, Sort.pdq_eq h12 hl0 hp2 h87 (by rw [hx]; exact ⟨r1, r2⟩), hx]⟩
end
end Go.Proofs.YtehabjiacgibpaaGreat
