/-
  What sort.partitionEqual_func and sort.partition_func come to, whatever program holds them, where 'less' may lay blocks. Conditions: the places asked for lie within the row.
-/
import Derived.Test.YtehabjiacgibpaaGreatCSoW
namespace Go.Proofs.YtehabjiacgibpaaGreat
open Go.Shelf Go.RowKit Go.Lib
section
variable {P : Program} {ρ : Ren} {α : Type} [Inhabited α] {enc : α → List Value} {k : Nat} {w0 : World} {blk off : Nat} {lt : α → α → Bool} {g : Nat} {lb : Array Value} {sf : Nat} {sb : Array Value} {size : Nat}
set_option maxHeartbeats 6400000 in
set_option maxRecDepth 100000 in
theorem partEqual_at (L : LaysGg.n32 P ρ) (H : SoHyp P enc k lt g lb sf sb blk off size w0) (a b pivot : Nat) (d : Array α) (W : World) (hS : SoAt enc k w0 blk off d W) (hd : d.size = size) (hap : a ≤ pivot) (hpb : pivot < b) (hb : b ≤ size) :
    Calls P (ρ.f 32) #[.agg #[.func (.func g) #[] lb, .func (.func sf) #[] sb], .int .i64 a, .int .i64 b, .int .i64 pivot] W fun e w' =>
      e = .returned (.int .i64 (Sort.partitionEqual lt d a b pivot).1) ∧ So enc k g lb sf sb blk off size w0 W (Sort.partitionEqual lt d a b pivot).2 w' := by
  have mixed := L.mixed; have t0 := L.t0; have a0 := L.a0; have z0 := L.z0; have v0 := L.v0; have t3 := L.t3; have a3 := L.a3; have z3 := L.z3; have v3 := L.v3; have t4 := L.t4; have a4 := L.a4; have z4 := L.z4; have v4 := L.v4; have t26 := L.t26; have a26 := L.a26; have z26 := L.z26; have v26 := L.v26; have t37 := L.t37; have a37 := L.a37; have z37 := L.z37; have v37 := L.v37; have t44 := L.t44; have a44 := L.a44; have z44 := L.z44; have v44 := L.v44
  have u44 := run_underlying L.t44
  have eg := H.eg
  have hsz := H.sz
  have S0 := So.start (g := g) (lb := lb) (sf := sf) (sb := sb) hS hd (ρ.t 44)
  obtain ⟨W1, hs0, S1⟩ := S0.swapsI H (x := (a : Int)) (y := (pivot : Int)) a pivot rfl rfl (by omega) (by omega)
  clear hS S0
  go_enter L.f32, BodyGg.n32_ntmps ρ
  go_wp2
  go_loopw [9, 10] (fun vi vj wr => ∃ (i j : Nat) (dk : Array α), vi = .int .i64 i ∧ vj = .int .i64 j ∧ a < i ∧ i ≤ j + 1 ∧ j < b ∧ So enc k g lb sf sb blk off size w0 W dk wr ∧ Hid (Sort.partEqLoop lt a i j dk = Sort.partEqLoop lt a (a + 1) (b - 1) (Sort.swp d a pivot))) (fun vi vj _ => (intOf vj).toNat + 1 - (intOf vi).toNat)
  case atStart => exact ⟨a + 1, b - 1, Sort.swp d a pivot, by go_num, by go_num, by omega, by omega, by omega, S1, rfl⟩
  case round =>
    clear S1 hs0
    obtain ⟨i, j, dk, rfl, rfl, hai, hij, hjb, S, AE⟩ := hrel
    have c0 := S.c0
    have c1 := S.c1
    go_wp2
    go_loopw [9] (fun vi w1 => ∃ (i' : Nat), vi = .int .i64 i' ∧ i ≤ i' ∧ i' ≤ j + 1 ∧ So enc k g lb sf sb blk off size w0 W dk w1 ∧ Hid (Sort.scanUp (fun x => !lt dk[a]! x) dk j i' = Sort.scanUp (fun x => !lt dk[a]! x) dk j i)) (fun vi _ => j + 1 - (intOf vi).toNat)
    case atStart => exact ⟨i, rfl, Nat.le_refl _, hij, S, rfl⟩
    case round =>
      clear S c0 c1
      obtain ⟨i', rfl, hii, hij', S, hsc⟩ := hrel
      have c0 := S.c0
      have c1 := S.c1
      by_cases hle : i' ≤ j
      · cases hlv : lt dk[a]! dk[i']! with
        | false =>
          have hl := S.lessI H (x := (a : Int)) (y := (i' : Int)) a i' rfl rfl (by omega) (by omega) hlv
          go_wp2_with (go_at_fn g; refine hl.mono ?_; rintro e w2 ⟨rfl, S2⟩; have y0 := S2.c0; have y1 := S2.c1)
          go_roundw
          case rel => exact ⟨i' + 1, by go_num, by omega, by omega, S2, (scanUp_go (fun x => !lt dk[a]! x) dk j i' hle (by simp [hlv])).symm.trans hsc.out⟩
          case measure => simp [intOf]; omega
        | true =>
          have hi2 : Hid (i' = Sort.scanUp (fun x => !lt dk[a]! x) dk j i) := (scanUp_end (fun x => !lt dk[a]! x) dk j i' (Or.inr (by simp [hlv]))).symm.trans hsc.out
          clear hsc
          have hl := S.lessI H (x := (a : Int)) (y := (i' : Int)) a i' rfl rfl (by omega) (by omega) hlv
          go_wp2_with (go_at_fn g; refine hl.mono ?_; rintro e w2 ⟨rfl, S2⟩; have y0 := S2.c0; have y1 := S2.c1)
          go_loopw [10] (fun vj w2 => ∃ (j' : Nat), vj = .int .i64 j' ∧ j' ≤ j ∧ i' ≤ j' + 1 ∧ So enc k g lb sf sb blk off size w0 W dk w2 ∧ Hid (Sort.scanDown (fun x => lt dk[a]! x) dk i' j' = Sort.scanDown (fun x => lt dk[a]! x) dk i' j)) (fun vj _ => (intOf vj).toNat)
          case atStart => exact ⟨j, rfl, Nat.le_refl _, hij', S2, rfl⟩
          case round =>
            clear S S2 c0 c1 y0 y1 hl
            obtain ⟨j', rfl, hjj, hij2, S, hsd⟩ := hrel
            have c0 := S.c0
            have c1 := S.c1
            by_cases hle2 : i' ≤ j'
            · cases hlv2 : lt dk[a]! dk[j']! with
              | true =>
                have hl := S.lessI H (x := (a : Int)) (y := (j' : Int)) a j' rfl rfl (by omega) (by omega) hlv2
                go_wp2_with (go_at_fn g; refine hl.mono ?_; rintro e w2 ⟨rfl, S2⟩; have y0 := S2.c0; have y1 := S2.c1)
                go_roundw
                case rel => exact ⟨j' - 1, by go_num, by omega, by omega, S2, (scanDown_go (fun x => lt dk[a]! x) dk i' j' hle2 (by omega) (by simp [hlv2])).symm.trans hsd.out⟩
                case measure => simp [intOf]; omega
              | false =>
                have hj2 : Hid (j' = Sort.scanDown (fun x => lt dk[a]! x) dk i' j) := (scanDown_end (fun x => lt dk[a]! x) dk i' j' (Or.inr (by simp [hlv2]))).symm.trans hsd.out
                have hlt3 := scans_lt lt a i j dk (by omega) hi2.out hj2.out hle2
                clear hsd
                have hl := S.lessI H (x := (a : Int)) (y := (j' : Int)) a j' rfl rfl (by omega) (by omega) hlv2
                go_wp2_with (go_at_fn g; refine hl.mono ?_; rintro e w2 ⟨rfl, S2⟩; have y0 := S2.c0; have y1 := S2.c1; obtain ⟨w3, hsw, S3⟩ := S2.swapsI H (x := (i' : Int)) (y := (j' : Int)) i' j' rfl rfl (by omega) (by omega); have x0 := S3.c0; have x1 := S3.c1)
                go_roundw
                case rel => exact ⟨i' + 1, j' - 1, Sort.swp dk i' j', by go_num, by go_num, by omega, by omega, by omega, S3, (show Hid _ from by rw [← AE.out]; exact (partEq_go lt a i j dk hi2.out hj2.out (by omega)).symm)⟩
                case measure => simp [intOf]; omega
            · have hj2 : Hid (j' = Sort.scanDown (fun x => lt dk[a]! x) dk i' j) := (scanDown_end (fun x => lt dk[a]! x) dk i' j' (Or.inl hle2)).symm.trans hsd.out
              clear hsd
              go_wp2
              go_ret
              have e := partEq_break lt a i j dk hi2.out hj2.out (by omega)
              have e2 : Sort.partitionEqual lt d a b pivot = (i', dk) := by unfold Sort.partitionEqual; rw [← AE.out, e]
              rw [e2]
              exact ⟨rfl, S⟩
      · have hi2 : Hid (i' = Sort.scanUp (fun x => !lt dk[a]! x) dk j i) := (scanUp_end (fun x => !lt dk[a]! x) dk j i' (Or.inl hle)).symm.trans hsc.out
        clear hsc
        go_wp2
        go_loopw [10] (fun vj w2 => ∃ (j' : Nat), vj = .int .i64 j' ∧ j' ≤ j ∧ i' ≤ j' + 1 ∧ So enc k g lb sf sb blk off size w0 W dk w2 ∧ Hid (Sort.scanDown (fun x => lt dk[a]! x) dk i' j' = Sort.scanDown (fun x => lt dk[a]! x) dk i' j)) (fun vj _ => (intOf vj).toNat)
        case atStart => exact ⟨j, rfl, Nat.le_refl _, hij', S, rfl⟩
        case round =>
          clear S c0 c1
          obtain ⟨j', rfl, hjj, hij2, S, hsd⟩ := hrel
          have c0 := S.c0
          have c1 := S.c1
          by_cases hle2 : i' ≤ j'
          · exfalso; omega
          · have hj2 : Hid (j' = Sort.scanDown (fun x => lt dk[a]! x) dk i' j) := (scanDown_end (fun x => lt dk[a]! x) dk i' j' (Or.inl hle2)).symm.trans hsd.out
            clear hsd
            go_wp2
            go_ret
            have e := partEq_break lt a i j dk hi2.out hj2.out (by omega)
            have e2 : Sort.partitionEqual lt d a b pivot = (i', dk) := by unfold Sort.partitionEqual; rw [← AE.out, e]
            rw [e2]
            exact ⟨rfl, S⟩
set_option maxHeartbeats 12800000 in
set_option maxRecDepth 100000 in
theorem part_at (L : LaysGg.n33 P ρ) (H : SoHyp P enc k lt g lb sf sb blk off size w0) (a b pivot : Nat) (d : Array α) (W : World) (hS : SoAt enc k w0 blk off d W) (hd : d.size = size) (hap : a ≤ pivot) (hpb : pivot < b) (hb : b ≤ size) :
    Calls P (ρ.f 33) #[.agg #[.func (.func g) #[] lb, .func (.func sf) #[] sb], .int .i64 a, .int .i64 b, .int .i64 pivot] W fun e w' =>
      e = .returned (.tuple #[.int .i64 (Sort.partition lt d a b pivot).1, .bool (Sort.partition lt d a b pivot).2.1]) ∧ So enc k g lb sf sb blk off size w0 W (Sort.partition lt d a b pivot).2.2 w' := by
  have mixed := L.mixed; have t0 := L.t0; have a0 := L.a0; have z0 := L.z0; have v0 := L.v0; have t3 := L.t3; have a3 := L.a3; have z3 := L.z3; have v3 := L.v3; have t4 := L.t4; have a4 := L.a4; have z4 := L.z4; have v4 := L.v4; have t26 := L.t26; have a26 := L.a26; have z26 := L.z26; have v26 := L.v26; have t37 := L.t37; have a37 := L.a37; have z37 := L.z37; have v37 := L.v37; have t44 := L.t44; have a44 := L.a44; have z44 := L.z44; have v44 := L.v44
  have u44 := run_underlying L.t44
  have eg := H.eg
  have hsz := H.sz
  have S0 := So.start (g := g) (lb := lb) (sf := sf) (sb := sb) hS hd (ρ.t 44)
  obtain ⟨W1, hs0, S⟩ := S0.swapsI H (x := (a : Int)) (y := (pivot : Int)) a pivot rfl rfl (by omega) (by omega)
  obtain ⟨i, hi⟩ : ∃ i : Nat, i = a + 1 := ⟨_, rfl⟩
  obtain ⟨j, hj⟩ : ∃ j : Nat, j = b - 1 := ⟨_, rfl⟩
  obtain ⟨dk, hdk⟩ : ∃ dk : Array α, dk = Sort.swp d a pivot := ⟨_, rfl⟩
  rw [← hdk] at S
  have hai : a < i := by omega
  have hij : i ≤ j + 1 := by omega
  have hjb : j < b := by omega
  have Hi : Hid (i = a + 1) := hi
  have Hj : Hid (j = b - 1) := hj
  have Hdk : Hid (dk = Sort.swp d a pivot) := hdk
  have c0 := S.c0
  have c1 := S.c1
  clear hS S0 hi hj hdk
  go_enter L.f33, BodyGg.n33_ntmps ρ
  go_wp2
  rw [show ((a : Int) + 1) = (i : Int) by have := Hi.out; omega, show ((b : Int) - 1) = (j : Int) by have := Hj.out; omega]
  go_loopw [10] (fun vi w1 => ∃ (i' : Nat), vi = .int .i64 i' ∧ i ≤ i' ∧ i' ≤ j + 1 ∧ So enc k g lb sf sb blk off size w0 W dk w1 ∧ Hid (Sort.scanUp (fun x => lt x dk[a]!) dk j i' = Sort.scanUp (fun x => lt x dk[a]!) dk j i)) (fun vi _ => j + 1 - (intOf vi).toNat)
  case atStart => exact ⟨i, rfl, Nat.le_refl _, hij, S, rfl⟩
  case round =>
    clear S c0 c1
    obtain ⟨i', rfl, hii, hij', S, hsc⟩ := hrel
    have c0 := S.c0
    have c1 := S.c1
    by_cases hle : i' ≤ j
    · cases hlv : lt dk[i']! dk[a]! with
      | true =>
        have hl := S.lessI H (x := (i' : Int)) (y := (a : Int)) i' a rfl rfl (by omega) (by omega) hlv
        go_wp2_with (go_at_fn g; refine hl.mono ?_; rintro e w2 ⟨rfl, S2⟩; have y0 := S2.c0; have y1 := S2.c1)
        go_roundw
        case rel => exact ⟨i' + 1, by go_num, by omega, by omega, S2, (scanUp_go (fun x => lt x dk[a]!) dk j i' hle (by simp [hlv])).symm.trans hsc.out⟩
        case measure => simp [intOf]; omega
      | false =>
        have hi2 : Hid (i' = Sort.scanUp (fun x => lt x dk[a]!) dk j i) := (scanUp_end (fun x => lt x dk[a]!) dk j i' (Or.inr (by simp [hlv]))).symm.trans hsc.out
        clear hsc
        have hl := S.lessI H (x := (i' : Int)) (y := (a : Int)) i' a rfl rfl (by omega) (by omega) hlv
        go_wp2_with (go_at_fn g; refine hl.mono ?_; rintro e w2 ⟨rfl, S2⟩; have y0 := S2.c0; have y1 := S2.c1)
        go_loopw [11] (fun vj w2 => ∃ (j' : Nat), vj = .int .i64 j' ∧ j' ≤ j ∧ i' ≤ j' + 1 ∧ So enc k g lb sf sb blk off size w0 W dk w2 ∧ Hid (Sort.scanDown (fun x => !lt x dk[a]!) dk i' j' = Sort.scanDown (fun x => !lt x dk[a]!) dk i' j)) (fun vj _ => (intOf vj).toNat)
        case atStart => exact ⟨j, rfl, Nat.le_refl _, hij', S2, rfl⟩
        case round =>
          clear S S2 c0 c1 y0 y1 hl
          obtain ⟨j', rfl, hjj, hij2, S, hsd⟩ := hrel
          have c0 := S.c0
          have c1 := S.c1
          by_cases hle2 : i' ≤ j'
          · cases hlv2 : lt dk[j']! dk[a]! with
            | false =>
              have hl := S.lessI H (x := (j' : Int)) (y := (a : Int)) j' a rfl rfl (by omega) (by omega) hlv2
              go_wp2_with (go_at_fn g; refine hl.mono ?_; rintro e w2 ⟨rfl, S2⟩; have y0 := S2.c0; have y1 := S2.c1)
              go_roundw
              case rel => exact ⟨j' - 1, by go_num, by omega, by omega, S2, (scanDown_go (fun x => !lt x dk[a]!) dk i' j' hle2 (by omega) (by simp [hlv2])).symm.trans hsd.out⟩
              case measure => simp [intOf]; omega
            | true =>
              have hj2 : Hid (j' = Sort.scanDown (fun x => !lt x dk[a]!) dk i' j) := (scanDown_end (fun x => !lt x dk[a]!) dk i' j' (Or.inr (by simp [hlv2]))).symm.trans hsd.out
              have hlt3 := part_scans_lt lt a i j dk (by omega) hi2.out hj2.out hle2
              clear hsd
              have hl := S.lessI H (x := (j' : Int)) (y := (a : Int)) j' a rfl rfl (by omega) (by omega) hlv2
              go_wp2_with (go_at_fn g; refine hl.mono ?_; rintro e w2 ⟨rfl, S2⟩; have y0 := S2.c0; have y1 := S2.c1; obtain ⟨w3, hsw, S3⟩ := S2.swapsI H (x := (i' : Int)) (y := (j' : Int)) i' j' rfl rfl (by omega) (by omega); have x0 := S3.c0; have x1 := S3.c1)
              rw [decide_eq_false (show ¬ j' < i' by omega)]
              obtain ⟨I0, hI0⟩ : ∃ I0 : Nat, I0 = i' + 1 := ⟨_, rfl⟩
              obtain ⟨J0, hJ0⟩ : ∃ J0 : Nat, J0 = j' - 1 := ⟨_, rfl⟩
              obtain ⟨D0, hD0⟩ : ∃ D0 : Array α, D0 = Sort.swp dk i' j' := ⟨_, rfl⟩
              have PF : Hid (Sort.partition lt d a b pivot = ((Sort.partLoop lt a I0 J0 D0).1, false, Sort.swp (Sort.partLoop lt a I0 J0 D0).2 (Sort.partLoop lt a I0 J0 D0).1 a)) := by
                rw [hI0, hJ0, hD0]; exact part_first_go lt d a b pivot Hi.out Hj.out Hdk.out hi2.out hj2.out (by omega)
              go_loopw [10, 11] (fun vi vj wr => ∃ (i j : Nat) (dk : Array α), vi = .int .i64 i ∧ vj = .int .i64 j ∧ a < i ∧ i ≤ j + 1 ∧ j < b ∧ So enc k g lb sf sb blk off size w0 W dk wr ∧ Hid (Sort.partLoop lt a i j dk = Sort.partLoop lt a I0 J0 D0)) (fun vi vj _ => (intOf vj).toNat + 1 - (intOf vi).toNat)
              case atStart => exact ⟨i' + 1, j' - 1, Sort.swp dk i' j', by go_num, by go_num, by omega, by omega, by omega, S3, by show _ = _; rw [hI0, hJ0, hD0]⟩
              case round =>
                clear hI0 hJ0 hD0 hsw S2 S3 hj2 hi2 hlt3 hl S c0 c1 y0 y1 x0 x1 Hi Hj Hdk
                obtain ⟨i, j, dk, rfl, rfl, hai, hij, hjb, S, AE⟩ := hrel
                have c0 := S.c0
                have c1 := S.c1
                go_wp2
                go_loopw [10] (fun vi w1 => ∃ (i' : Nat), vi = .int .i64 i' ∧ i ≤ i' ∧ i' ≤ j + 1 ∧ So enc k g lb sf sb blk off size w0 W dk w1 ∧ Hid (Sort.scanUp (fun x => lt x dk[a]!) dk j i' = Sort.scanUp (fun x => lt x dk[a]!) dk j i)) (fun vi _ => j + 1 - (intOf vi).toNat)
                case atStart => exact ⟨i, rfl, Nat.le_refl _, hij, S, rfl⟩
                case round =>
                  clear S c0 c1
                  obtain ⟨i', rfl, hii, hij', S, hsc⟩ := hrel
                  have c0 := S.c0
                  have c1 := S.c1
                  by_cases hle : i' ≤ j
                  · cases hlv : lt dk[i']! dk[a]! with
                    | true =>
                      have hl := S.lessI H (x := (i' : Int)) (y := (a : Int)) i' a rfl rfl (by omega) (by omega) hlv
                      go_wp2_with (go_at_fn g; refine hl.mono ?_; rintro e w2 ⟨rfl, S2⟩; have y0 := S2.c0; have y1 := S2.c1)
                      go_roundw
                      case rel => exact ⟨i' + 1, by go_num, by omega, by omega, S2, (scanUp_go (fun x => lt x dk[a]!) dk j i' hle (by simp [hlv])).symm.trans hsc.out⟩
                      case measure => simp [intOf]; omega
                    | false =>
                      have hi2 : Hid (i' = Sort.scanUp (fun x => lt x dk[a]!) dk j i) := (scanUp_end (fun x => lt x dk[a]!) dk j i' (Or.inr (by simp [hlv]))).symm.trans hsc.out
                      clear hsc
                      have hl := S.lessI H (x := (i' : Int)) (y := (a : Int)) i' a rfl rfl (by omega) (by omega) hlv
                      go_wp2_with (go_at_fn g; refine hl.mono ?_; rintro e w2 ⟨rfl, S2⟩; have y0 := S2.c0; have y1 := S2.c1)
                      go_loopw [11] (fun vj w2 => ∃ (j' : Nat), vj = .int .i64 j' ∧ j' ≤ j ∧ i' ≤ j' + 1 ∧ So enc k g lb sf sb blk off size w0 W dk w2 ∧ Hid (Sort.scanDown (fun x => !lt x dk[a]!) dk i' j' = Sort.scanDown (fun x => !lt x dk[a]!) dk i' j)) (fun vj _ => (intOf vj).toNat)
                      case atStart => exact ⟨j, rfl, Nat.le_refl _, hij', S2, rfl⟩
                      case round =>
                        clear S S2 c0 c1 y0 y1 hl
                        obtain ⟨j', rfl, hjj, hij2, S, hsd⟩ := hrel
                        have c0 := S.c0
                        have c1 := S.c1
                        by_cases hle2 : i' ≤ j'
                        · cases hlv2 : lt dk[j']! dk[a]! with
                          | false =>
                            have hl := S.lessI H (x := (j' : Int)) (y := (a : Int)) j' a rfl rfl (by omega) (by omega) hlv2
                            go_wp2_with (go_at_fn g; refine hl.mono ?_; rintro e w2 ⟨rfl, S2⟩; have y0 := S2.c0; have y1 := S2.c1)
                            go_roundw
                            case rel => exact ⟨j' - 1, by go_num, by omega, by omega, S2, (scanDown_go (fun x => !lt x dk[a]!) dk i' j' hle2 (by omega) (by simp [hlv2])).symm.trans hsd.out⟩
                            case measure => simp [intOf]; omega
                          | true =>
                            have hj2 : Hid (j' = Sort.scanDown (fun x => !lt x dk[a]!) dk i' j) := (scanDown_end (fun x => !lt x dk[a]!) dk i' j' (Or.inr (by simp [hlv2]))).symm.trans hsd.out
                            have hlt3 := part_scans_lt lt a i j dk (by omega) hi2.out hj2.out hle2
                            clear hsd
                            have hl := S.lessI H (x := (j' : Int)) (y := (a : Int)) j' a rfl rfl (by omega) (by omega) hlv2
                            go_wp2_with (go_at_fn g; refine hl.mono ?_; rintro e w2 ⟨rfl, S2⟩; have y0 := S2.c0; have y1 := S2.c1; obtain ⟨w3, hsw, S3⟩ := S2.swapsI H (x := (i' : Int)) (y := (j' : Int)) i' j' rfl rfl (by omega) (by omega); have x0 := S3.c0; have x1 := S3.c1)
                            go_roundw
                            case rel => exact ⟨i' + 1, j' - 1, Sort.swp dk i' j', by go_num, by go_num, by omega, by omega, by omega, S3, (show Hid _ from by rw [← AE.out]; exact (part_go lt a i j dk hi2.out hj2.out (by omega)).symm)⟩
                            case measure => simp [intOf]; omega
                        · have hj2 : Hid (j' = Sort.scanDown (fun x => !lt x dk[a]!) dk i' j) := (scanDown_end (fun x => !lt x dk[a]!) dk i' j' (Or.inl hle2)).symm.trans hsd.out
                          clear hsd
                          obtain ⟨w4, hsw, S4⟩ := S.swapsI H (x := (j' : Int)) (y := (a : Int)) j' a rfl rfl (by omega) (by omega)
                          go_wp2
                          go_ret2
                          have e := part_break lt a i j dk hi2.out hj2.out (by omega)
                          rw [PF.out, ← AE.out, e]
                          exact ⟨rfl, S4⟩
                  · have hi2 : Hid (i' = Sort.scanUp (fun x => lt x dk[a]!) dk j i) := (scanUp_end (fun x => lt x dk[a]!) dk j i' (Or.inl hle)).symm.trans hsc.out
                    clear hsc
                    go_wp2
                    go_loopw [11] (fun vj w2 => ∃ (j' : Nat), vj = .int .i64 j' ∧ j' ≤ j ∧ i' ≤ j' + 1 ∧ So enc k g lb sf sb blk off size w0 W dk w2 ∧ Hid (Sort.scanDown (fun x => !lt x dk[a]!) dk i' j' = Sort.scanDown (fun x => !lt x dk[a]!) dk i' j)) (fun vj _ => (intOf vj).toNat)
                    case atStart => exact ⟨j, rfl, Nat.le_refl _, hij', S, rfl⟩
                    case round =>
                      clear S c0 c1
                      obtain ⟨j', rfl, hjj, hij2, S, hsd⟩ := hrel
                      have c0 := S.c0
                      have c1 := S.c1
                      by_cases hle2 : i' ≤ j'
                      · exfalso; omega
                      · have hj2 : Hid (j' = Sort.scanDown (fun x => !lt x dk[a]!) dk i' j) := (scanDown_end (fun x => !lt x dk[a]!) dk i' j' (Or.inl hle2)).symm.trans hsd.out
                        clear hsd
                        obtain ⟨w4, hsw, S4⟩ := S.swapsI H (x := (j' : Int)) (y := (a : Int)) j' a rfl rfl (by omega) (by omega)
                        go_wp2
                        go_ret2
                        have e := part_break lt a i j dk hi2.out hj2.out (by omega)
                        rw [PF.out, ← AE.out, e]
                        exact ⟨rfl, S4⟩
          · have hj2 : Hid (j' = Sort.scanDown (fun x => !lt x dk[a]!) dk i' j) := (scanDown_end (fun x => !lt x dk[a]!) dk i' j' (Or.inl hle2)).symm.trans hsd.out
            clear hsd
            obtain ⟨w4, hsw, S4⟩ := S.swapsI H (x := (j' : Int)) (y := (a : Int)) j' a rfl rfl (by omega) (by omega)
            go_wp2
            go_ret2
            have e := part_first_break lt d a b pivot Hi.out Hj.out Hdk.out hi2.out hj2.out (by omega)
            rw [e]
            exact ⟨rfl, S4⟩
    · have hi2 : Hid (i' = Sort.scanUp (fun x => lt x dk[a]!) dk j i) := (scanUp_end (fun x => lt x dk[a]!) dk j i' (Or.inl hle)).symm.trans hsc.out
      clear hsc
      go_wp2
      go_loopw [11] (fun vj w2 => ∃ (j' : Nat), vj = .int .i64 j' ∧ j' ≤ j ∧ i' ≤ j' + 1 ∧ So enc k g lb sf sb blk off size w0 W dk w2 ∧ Hid (Sort.scanDown (fun x => !lt x dk[a]!) dk i' j' = Sort.scanDown (fun x => !lt x dk[a]!) dk i' j)) (fun vj _ => (intOf vj).toNat)
      case atStart => exact ⟨j, rfl, Nat.le_refl _, hij', S, rfl⟩
      case round =>
        clear S c0 c1
        obtain ⟨j', rfl, hjj, hij2, S, hsd⟩ := hrel
        have c0 := S.c0
        have c1 := S.c1
        by_cases hle2 : i' ≤ j'
        · exfalso; omega
        · have hj2 : Hid (j' = Sort.scanDown (fun x => !lt x dk[a]!) dk i' j) := (scanDown_end (fun x => !lt x dk[a]!) dk i' j' (Or.inl hle2)).symm.trans hsd.out
          clear hsd
          obtain ⟨w4, hsw, S4⟩ := S.swapsI H (x := (j' : Int)) (y := (a : Int)) j' a rfl rfl (by omega) (by omega)
          go_wp2
          go_ret2
          have e := part_first_break lt d a b pivot Hi.out Hj.out Hdk.out hi2.out hj2.out (by omega)
          rw [e]
          exact ⟨rfl, S4⟩
end
end Go.Proofs.YtehabjiacgibpaaGreat
