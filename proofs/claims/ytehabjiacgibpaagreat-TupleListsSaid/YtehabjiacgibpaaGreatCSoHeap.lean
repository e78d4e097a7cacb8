/-
  What sort.siftDown_func and sort.heapSort_func come to, whatever program holds them, where 'less' may lay blocks. Conditions: the places asked for lie within the row.
-/
import Derived.Test.YtehabjiacgibpaaGreatCSoW
import Derived.Deep.LoopGhost
namespace Go.Proofs.YtehabjiacgibpaaGreat
open Go.Shelf Go.RowKit Go.Lib
section
variable {P : Program} {ρ : Ren} {α : Type} [Inhabited α] {enc : α → List Value} {k : Nat} {w0 : World} {blk off : Nat} {lt : α → α → Bool} {g : Nat} {lb : Array Value} {sf : Nat} {sb : Array Value} {size : Nat}
set_option maxHeartbeats 4000000 in
set_option maxRecDepth 1000000 in
theorem sift_at (L : LaysGg.n34 P ρ) (H : SoHyp P enc k lt g lb sf sb blk off size w0) (lo hi first : Nat) (d : Array α) (W : World) (hS : SoAt enc k w0 blk off d W) (hd : d.size = size) (hlo : lo ≤ hi) (hb : first + hi ≤ size) :
    Calls P (ρ.f 34) #[.agg #[.func (.func g) #[] lb, .func (.func sf) #[] sb], .int .i64 lo, .int .i64 hi, .int .i64 first] W fun e w' =>
      e = .returned (.tuple #[]) ∧ So enc k g lb sf sb blk off size w0 W (Sort.siftDown lt hi first lo d) w' := by
  have mixed := L.mixed; have t0 := L.t0; have a0 := L.a0; have z0 := L.z0; have v0 := L.v0; have t3 := L.t3; have a3 := L.a3; have z3 := L.z3; have v3 := L.v3; have t4 := L.t4; have a4 := L.a4; have z4 := L.z4; have v4 := L.v4; have t26 := L.t26; have a26 := L.a26; have z26 := L.z26; have v26 := L.v26; have t37 := L.t37; have a37 := L.a37; have z37 := L.z37; have v37 := L.v37; have t44 := L.t44; have a44 := L.a44; have z44 := L.z44; have v44 := L.v44
  have u44 := run_underlying L.t44
  have eg := H.eg
  have hsz := H.sz
  have S0 := So.start (g := g) (lb := lb) (sf := sf) (sb := sb) hS hd (ρ.t 44)
  go_enter L.f34, BodyGg.n34_ntmps ρ
  go_wp2
  go_loopg [8] (hi - lo) (fun kx s8 wr => ∃ (root : Nat) (dk : Array α), s8 = .int .i64 root ∧ root ≤ hi ∧ hi - root ≤ kx ∧ So enc k g lb sf sb blk off size w0 W dk wr ∧ Hid (Sort.siftDown lt hi first root dk = Sort.siftDown lt hi first lo d))
  case atStart => exact ⟨lo, d, rfl, hlo, Nat.le_refl _, S0, rfl⟩
  case round =>
    clear S0 hS
    obtain ⟨root, dk, rfl, hr, hkx, S, HE⟩ := hrel
    have c0 := S.c0
    have c1 := S.c1
    by_cases h0 : hi ≤ 2 * root + 1
    · have h0z : (hi : Int) ≤ 2 * (root : Int) + 1 := by omega
      go_wp2
      go_end0
      refine ⟨rfl, ?_⟩
      rw [← HE.out, Sort.sd_end lt dk h0]
      exact S
    have h0z : ¬ ((hi : Int) ≤ 2 * (root : Int) + 1) := by omega
    by_cases h1 : 2 * root + 2 < hi
    · have h1z : 2 * (root : Int) + 1 + 1 < (hi : Int) := by omega
      cases hL : lt dk[first + (2 * root + 1)]! dk[first + (2 * root + 2)]! with
      | true =>
        have hl1 := S.lessI H (x := (first : Int) + (2 * (root : Int) + 1)) (y := (first : Int) + (2 * (root : Int) + 1) + 1) (first + (2 * root + 1)) (first + (2 * root + 2)) (by omega) (by omega) (by omega) (by omega) hL
        cases hG : lt dk[first + root]! dk[first + (2 * root + 2)]! with
        | true =>
          have hl2 : ∀ w2, So enc k g lb sf sb blk off size w0 W dk w2 → Calls P g (#[.int .i64 ((first : Int) + (root : Int)), .int .i64 ((first : Int) + (2 * (root : Int) + 1 + 1))] ++ lb) w2 fun e w3 => e = .returned (.bool true) ∧ So enc k g lb sf sb blk off size w0 W dk w3 := fun w2 S2 => S2.lessI H (first + root) (first + (2 * root + 2)) (by omega) (by omega) (by omega) (by omega) hG
          have hsw : ∀ w3, So enc k g lb sf sb blk off size w0 W dk w3 → ∃ w4, (callFunc sf (#[.int .i64 ((first : Int) + (root : Int)), .int .i64 ((first : Int) + (2 * (root : Int) + 1 + 1))] ++ sb)).run P w3 = .ok (.value (.tuple #[])) w4 ∧ So enc k g lb sf sb blk off size w0 W (Sort.swp dk (first + root) (first + (2 * root + 2))) w4 := fun w3 S3 => S3.swapsI H (first + root) (first + (2 * root + 2)) (by omega) (by omega) (by omega) (by omega)
          have HSW := Lib.hid hsw
          clear hsw
          go_wp2_with (first | (go_at_fn g; refine hl1.mono ?_; rintro e w2 ⟨rfl, S2⟩; have z0 := S2.c0; have hl3 := hl2 w2 S2; clear hl1) | (go_at_fn g; refine hl3.mono ?_; rintro e w3 ⟨rfl, S3⟩; have y1 := S3.c1; obtain ⟨w4, hs, S4⟩ := HSW.out _ S3))
          go_roundg (hi - (2 * root + 2))
          case measure => omega
          case rel => exact ⟨2 * root + 2, Sort.swp dk (first + root) (first + (2 * root + 2)), by go_num, by omega, Nat.le_refl _, S4, (show Hid _ from by rw [← HE.out, Sort.sd_right_go lt dk h1 hL hG]; exact rfl)⟩
        | false =>
          have hl2 : ∀ w2, So enc k g lb sf sb blk off size w0 W dk w2 → Calls P g (#[.int .i64 ((first : Int) + (root : Int)), .int .i64 ((first : Int) + (2 * (root : Int) + 1 + 1))] ++ lb) w2 fun e w3 => e = .returned (.bool false) ∧ So enc k g lb sf sb blk off size w0 W dk w3 := fun w2 S2 => S2.lessI H (first + root) (first + (2 * root + 2)) (by omega) (by omega) (by omega) (by omega) hG
          go_wp2_with (first | (go_at_fn g; refine hl1.mono ?_; rintro e w2 ⟨rfl, S2⟩; have z0 := S2.c0; have hl3 := hl2 w2 S2; clear hl1) | (go_at_fn g; refine hl3.mono ?_; rintro e w3 ⟨rfl, S3⟩; skip))
          (try simp only [Exit.inBlock, Exit.then]); refine bodyPost_ret (results_none rfl _ _ _) rfl ?_
          refine ⟨rfl, ?_⟩
          rw [← HE.out, Sort.sd_right_stop lt dk h1 hL hG]
          exact S3
      | false =>
        have hl1 := S.lessI H (x := (first : Int) + (2 * (root : Int) + 1)) (y := (first : Int) + (2 * (root : Int) + 1) + 1) (first + (2 * root + 1)) (first + (2 * root + 2)) (by omega) (by omega) (by omega) (by omega) hL
        cases hG : lt dk[first + root]! dk[first + (2 * root + 1)]! with
        | true =>
          have hl2 : ∀ w2, So enc k g lb sf sb blk off size w0 W dk w2 → Calls P g (#[.int .i64 ((first : Int) + (root : Int)), .int .i64 ((first : Int) + (2 * (root : Int) + 1))] ++ lb) w2 fun e w3 => e = .returned (.bool true) ∧ So enc k g lb sf sb blk off size w0 W dk w3 := fun w2 S2 => S2.lessI H (first + root) (first + (2 * root + 1)) (by omega) (by omega) (by omega) (by omega) hG
          have hsw : ∀ w3, So enc k g lb sf sb blk off size w0 W dk w3 → ∃ w4, (callFunc sf (#[.int .i64 ((first : Int) + (root : Int)), .int .i64 ((first : Int) + (2 * (root : Int) + 1))] ++ sb)).run P w3 = .ok (.value (.tuple #[])) w4 ∧ So enc k g lb sf sb blk off size w0 W (Sort.swp dk (first + root) (first + (2 * root + 1))) w4 := fun w3 S3 => S3.swapsI H (first + root) (first + (2 * root + 1)) (by omega) (by omega) (by omega) (by omega)
          have HSW := Lib.hid hsw
          clear hsw
          go_wp2_with (first | (go_at_fn g; refine hl1.mono ?_; rintro e w2 ⟨rfl, S2⟩; have z0 := S2.c0; have hl3 := hl2 w2 S2; clear hl1) | (go_at_fn g; refine hl3.mono ?_; rintro e w3 ⟨rfl, S3⟩; have y1 := S3.c1; obtain ⟨w4, hs, S4⟩ := HSW.out _ S3))
          go_roundg (hi - (2 * root + 1))
          case measure => omega
          case rel => exact ⟨2 * root + 1, Sort.swp dk (first + root) (first + (2 * root + 1)), by go_num, by omega, Nat.le_refl _, S4, (show Hid _ from by rw [← HE.out, Sort.sd_left_go lt dk (by omega) (fun _ => hL) hG]; exact rfl)⟩
        | false =>
          have hl2 : ∀ w2, So enc k g lb sf sb blk off size w0 W dk w2 → Calls P g (#[.int .i64 ((first : Int) + (root : Int)), .int .i64 ((first : Int) + (2 * (root : Int) + 1))] ++ lb) w2 fun e w3 => e = .returned (.bool false) ∧ So enc k g lb sf sb blk off size w0 W dk w3 := fun w2 S2 => S2.lessI H (first + root) (first + (2 * root + 1)) (by omega) (by omega) (by omega) (by omega) hG
          go_wp2_with (first | (go_at_fn g; refine hl1.mono ?_; rintro e w2 ⟨rfl, S2⟩; have z0 := S2.c0; have hl3 := hl2 w2 S2; clear hl1) | (go_at_fn g; refine hl3.mono ?_; rintro e w3 ⟨rfl, S3⟩; skip))
          (try simp only [Exit.inBlock, Exit.then]); refine bodyPost_ret (results_none rfl _ _ _) rfl ?_
          refine ⟨rfl, ?_⟩
          rw [← HE.out, Sort.sd_left_stop lt dk (by omega) (fun _ => hL) hG]
          exact S3
    · have h1z : ¬ (2 * (root : Int) + 1 + 1 < (hi : Int)) := by omega
      cases hG : lt dk[first + root]! dk[first + (2 * root + 1)]! with
      | true =>
        have hl2 : ∀ w2, So enc k g lb sf sb blk off size w0 W dk w2 → Calls P g (#[.int .i64 ((first : Int) + (root : Int)), .int .i64 ((first : Int) + (2 * (root : Int) + 1))] ++ lb) w2 fun e w3 => e = .returned (.bool true) ∧ So enc k g lb sf sb blk off size w0 W dk w3 := fun w2 S2 => S2.lessI H (first + root) (first + (2 * root + 1)) (by omega) (by omega) (by omega) (by omega) hG
        have hsw : ∀ w3, So enc k g lb sf sb blk off size w0 W dk w3 → ∃ w4, (callFunc sf (#[.int .i64 ((first : Int) + (root : Int)), .int .i64 ((first : Int) + (2 * (root : Int) + 1))] ++ sb)).run P w3 = .ok (.value (.tuple #[])) w4 ∧ So enc k g lb sf sb blk off size w0 W (Sort.swp dk (first + root) (first + (2 * root + 1))) w4 := fun w3 S3 => S3.swapsI H (first + root) (first + (2 * root + 1)) (by omega) (by omega) (by omega) (by omega)
        have HSW := Lib.hid hsw
        clear hsw
        have hl3 := hl2 wr S
        go_wp2_with (go_at_fn g; refine hl3.mono ?_; rintro e w3 ⟨rfl, S3⟩; have y1 := S3.c1; obtain ⟨w4, hs, S4⟩ := HSW.out _ S3)
        go_roundg (hi - (2 * root + 1))
        case measure => omega
        case rel => exact ⟨2 * root + 1, Sort.swp dk (first + root) (first + (2 * root + 1)), by go_num, by omega, Nat.le_refl _, S4, (show Hid _ from by rw [← HE.out, Sort.sd_left_go lt dk (by omega) (fun h => absurd h h1) hG]; exact rfl)⟩
      | false =>
        have hl2 : ∀ w2, So enc k g lb sf sb blk off size w0 W dk w2 → Calls P g (#[.int .i64 ((first : Int) + (root : Int)), .int .i64 ((first : Int) + (2 * (root : Int) + 1))] ++ lb) w2 fun e w3 => e = .returned (.bool false) ∧ So enc k g lb sf sb blk off size w0 W dk w3 := fun w2 S2 => S2.lessI H (first + root) (first + (2 * root + 1)) (by omega) (by omega) (by omega) (by omega) hG
        have hl3 := hl2 wr S
        go_wp2_with (go_at_fn g; refine hl3.mono ?_; rintro e w3 ⟨rfl, S3⟩; skip)
        (try simp only [Exit.inBlock, Exit.then]); refine bodyPost_ret (results_none rfl _ _ _) rfl ?_
        refine ⟨rfl, ?_⟩
        rw [← HE.out, Sort.sd_left_stop lt dk (by omega) (fun h => absurd h h1) hG]
        exact S3
set_option maxHeartbeats 4000000 in
set_option maxRecDepth 1000000 in
theorem heap_at (L : LaysGg.n27 P ρ) (H : SoHyp P enc k lt g lb sf sb blk off size w0) (a b : Nat) (d : Array α) (W : World) (hS : SoAt enc k w0 blk off d W) (hd : d.size = size) (hab : a ≤ b) (hb : b ≤ size) :
    Calls P (ρ.f 27) #[.agg #[.func (.func g) #[] lb, .func (.func sf) #[] sb], .int .i64 a, .int .i64 b] W fun e w' =>
      e = .returned (.tuple #[]) ∧ So enc k g lb sf sb blk off size w0 W (Sort.heapSort lt d a b) w' := by
  have mixed := L.mixed; have t0 := L.t0; have a0 := L.a0; have z0 := L.z0; have v0 := L.v0; have t3 := L.t3; have a3 := L.a3; have z3 := L.z3; have v3 := L.v3; have t4 := L.t4; have a4 := L.a4; have z4 := L.z4; have v4 := L.v4; have t26 := L.t26; have a26 := L.a26; have z26 := L.z26; have v26 := L.v26; have t37 := L.t37; have a37 := L.a37; have z37 := L.z37; have v37 := L.v37; have t44 := L.t44; have a44 := L.a44; have z44 := L.z44; have v44 := L.v44
  have u44 := run_underlying L.t44
  have eg := H.eg
  have hsz := H.sz
  have e34 : ∀ args w, (callFunc (ρ.f 34) args).run P w = .ok (.enter (ρ.f 34) args) w := enters_of L.f34 (by kernel_rfl) rfl
  have ecast : ((b - a : Nat) : Int) = (b : Int) - (a : Int) := by omega
  have S0 := So.start (g := g) (lb := lb) (sf := sf) (sb := sb) hS hd (ρ.t 44)
  go_enter L.f27, BodyGg.n27_ntmps ρ
  go_wp2
  go_loopg [9] ((b - a - 1) / 2 + 1) (fun kx s9 wr => s9 = .int .i64 ((kx : Int) - 1) ∧ kx ≤ (b - a - 1) / 2 + 1 ∧ ∃ (dk : Array α), So enc k g lb sf sb blk off size w0 W dk wr ∧ Hid (Sort.heapBuild lt (b - a) a kx dk = Sort.heapBuild lt (b - a) a ((b - a - 1) / 2 + 1) d))
  case atStart => exact ⟨by rw [half_start hab], Nat.le_refl _, d, S0, rfl⟩
  case round =>
    clear S0 hS
    obtain ⟨rfl, hkk, dk, S, HE⟩ := hrel
    have c0 := S.c0
    have c1 := S.c1
    cases gk with
    | zero =>
      have hB : dk = Sort.heapBuild lt (b - a) a ((b - a - 1) / 2 + 1) d := HE.out
      have HB := Lib.hid hB
      clear hB HE hkk
      go_wp2
      go_loopg [10] (b - a) (fun kx s10 wr2 => s10 = .int .i64 ((kx : Int) - 1) ∧ kx ≤ b - a ∧ ∃ (dj : Array α), So enc k g lb sf sb blk off size w0 W dj wr2 ∧ Hid (Sort.heapPop lt a kx dj = Sort.heapPop lt a (b - a) dk))
      case atStart => exact ⟨by rw [ecast], Nat.le_refl _, dk, S, rfl⟩
      case round =>
        clear S c0 c1
        obtain ⟨rfl, hkk, dj, S, HE2⟩ := hrel
        have c0 := S.c0
        have c1 := S.c1
        cases gk with
        | zero =>
          go_wp2
          go_end0
          have e : dj = Sort.heapSort lt d a b := by rw [Sort.heapSort, ← HB.out, ← HE2.out]; rfl
          rw [← e]
          exact ⟨rfl, S⟩
        | succ kx =>
          obtain ⟨w2, hs, S2⟩ := S.swapsI H (x := (a : Int)) (y := (a : Int) + (kx : Int)) a (a + kx) rfl (by omega) (by omega) (by omega)
          have z0 := S2.c0
          have z1 := S2.c1
          have hcall := sift_at (P := P) (ρ := ρ) { L with } H 0 kx a (Sort.swp dj a (a + kx)) w2 S2.at_ S2.len (Nat.zero_le _) (by omega)
          go_wp2_with (go_at_fn (ρ.f 34); refine hcall.mono ?_; rintro e w1 ⟨rfl, S3⟩)
          go_roundg kx
          case measure => omega
          case rel =>
            have hss : (Sort.siftDown lt kx a 0 (Sort.swp dj a (a + kx))).size = (Sort.swp dj a (a + kx)).size := Sort.size_siftDown lt _ _ _ _ _ (Nat.le_refl _)
            exact ⟨by simp, by omega, Sort.siftDown lt kx a 0 (Sort.swp dj a (a + kx)), S2.moved S3.own S3.at_ hss, HE2⟩
    | succ kx =>
      have hcall := sift_at (P := P) (ρ := ρ) { L with } H kx (b - a) a dk wr S.at_ S.len (by omega) (by omega)
      rw [ecast] at hcall
      go_wp2_with (go_at_fn (ρ.f 34); refine hcall.mono ?_; rintro e w1 ⟨rfl, S3⟩)
      go_roundg kx
      case measure => omega
      case rel =>
        have hss : (Sort.siftDown lt (b - a) a kx dk).size = dk.size := Sort.size_siftDown lt _ _ _ _ _ (Nat.le_refl _)
        exact ⟨by simp, by omega, Sort.siftDown lt (b - a) a kx dk, S.moved S3.own S3.at_ hss, HE⟩
end
end Go.Proofs.YtehabjiacgibpaaGreat
