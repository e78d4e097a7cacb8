/-
  What sort.insertionSort_func and sort.siftDown_func, sort.heapSort_func come to, whatever program holds them, where 'less' may lay blocks. Conditions: the places asked for lie within the row.
-/
import Derived.Test.YtehabjiacgibpaaGreatCSoW
namespace Go.Proofs.YtehabjiacgibpaaGreat
open Go.Shelf Go.RowKit Go.Lib
section
variable {P : Program} {ρ : Ren} {α : Type} [Inhabited α] {enc : α → List Value} {k : Nat} {w0 : World} {blk off : Nat} {lt : α → α → Bool} {g : Nat} {lb : Array Value} {sf : Nat} {sb : Array Value} {size : Nat}
set_option maxHeartbeats 2000000 in
set_option maxRecDepth 100000 in
theorem insertion_at (L : LaysGg.n26 P ρ) (H : SoHyp P enc k lt g lb sf sb blk off size w0) (a b : Nat) (d : Array α) (W : World) (hS : SoAt enc k w0 blk off d W) (hd : d.size = size) (hab : a ≤ b) (hb : b ≤ size) :
    Calls P (ρ.f 26) #[.agg #[.func (.func g) #[] lb, .func (.func sf) #[] sb], .int .i64 a, .int .i64 b] W fun e w' =>
      e = .returned (.tuple #[]) ∧ So enc k g lb sf sb blk off size w0 W (Sort.insertionSort lt d a b) w' := by
  have mixed := L.mixed; have t0 := L.t0; have a0 := L.a0; have z0 := L.z0; have v0 := L.v0; have t3 := L.t3; have a3 := L.a3; have z3 := L.z3; have v3 := L.v3; have t4 := L.t4; have a4 := L.a4; have z4 := L.z4; have v4 := L.v4; have t26 := L.t26; have a26 := L.a26; have z26 := L.z26; have v26 := L.v26; have t37 := L.t37; have a37 := L.a37; have z37 := L.z37; have v37 := L.v37; have t44 := L.t44; have a44 := L.a44; have z44 := L.z44; have v44 := L.v44
  have u44 := run_underlying L.t44
  have eg := H.eg
  have hsz := H.sz
  have S0 := So.start (g := g) (lb := lb) (sf := sf) (sb := sb) hS hd (ρ.t 44)
  go_enter L.f26, BodyGg.n26_ntmps ρ
  go_wp2
  go_loopw [6] (fun vi wr => ∃ (i : Nat) (dk : Array α), vi = .int .i64 i ∧ a < i ∧ i ≤ b + 1 ∧ So enc k g lb sf sb blk off size w0 W dk wr ∧ Hid (Sort.insOuter lt a b i dk = Sort.insOuter lt a b (a + 1) d)) (fun vi _ => b + 1 - (intOf vi).toNat)
  case atStart => exact ⟨a + 1, d, by go_num, by omega, by omega, S0, rfl⟩
  case round =>
    clear S0
    obtain ⟨i, dk, rfl, hai, hib, S, HO⟩ := hrel
    go_wp2
    · have hlt : i < b := by assumption
      go_loopw [7] (fun vj wr2 => ∃ (j : Nat) (dj : Array α), vj = .int .i64 j ∧ a ≤ j ∧ j ≤ i ∧ So enc k g lb sf sb blk off size w0 W dj wr2 ∧ Hid (Sort.insInner lt a j dj = Sort.insInner lt a i dk)) (fun vj _ => (intOf vj).toNat)
      case atStart => exact ⟨i, dk, rfl, by omega, Nat.le_refl _, S, rfl⟩
      case round =>
        clear S
        obtain ⟨j, dj, rfl, haj, hji, S, HI⟩ := hrel
        have c0 := S.c0
        have c1 := S.c1
        have out : (j ≤ a ∨ lt dj[j]! dj[j - 1]! = false) → Sort.insOuter lt a b (i + 1) dj = Sort.insOuter lt a b (a + 1) d := fun hs => by
          rw [← HO.out, insOuter_go _ _ _ _ _ hlt, ← HI.out, insInner_stop _ _ _ _ hs]
        have OUT := Lib.hid out
        clear out
        by_cases hja : a < j
        · cases hlv : lt dj[j]! dj[j - 1]! with
          | true =>
            have hl := S.lessB H (i := j) (j := j - 1) (by omega) (by omega) hlv
            rw [show (((j - 1 : Nat) : Int)) = (j : Int) - 1 by omega] at hl
            go_wp2_with (go_at_fn g; refine hl.mono ?_; rintro e w2 ⟨rfl, S2⟩; have y1 := S2.c1)
            obtain ⟨w3, hs, S3⟩ := S2.swaps H (i := j) (j := j - 1) (by omega) (by omega)
            rw [show (((j - 1 : Nat) : Int)) = (j : Int) - 1 by omega] at hs
            rw [hs, Oper.upon_value]
            go_wp2
            go_roundw
            case rel =>
              (repeat apply Exists.intro)
              refine ⟨⟨j - 1, Sort.swp dj j (j - 1), by congr 1 <;> omega, by omega, by omega, S3, ?_⟩, by rw [decide_eq_true hlt, show ((j - 1 : Nat) : Int) = (j : Int) - 1 by omega]⟩
              show _ = _
              rw [← HI.out, insInner_go lt a j dj hja hlv]
            case measure => simp [intOf]; omega
          | false =>
            have hl := S.lessB H (i := j) (j := j - 1) (by omega) (by omega) hlv
            rw [show (((j - 1 : Nat) : Int)) = (j : Int) - 1 by omega] at hl
            go_wp2_with (go_at_fn g; refine hl.mono ?_; rintro e w2 ⟨rfl, S2⟩)
            go_roundw
            case rel => exact ⟨i + 1, dj, by go_num, by omega, by omega, S2, OUT.out (Or.inr hlv)⟩
            case measure => simp [intOf]; omega
        · go_wp2
          go_roundw
          case rel => exact ⟨i + 1, dj, by go_num, by omega, by omega, S, OUT.out (Or.inl (by omega))⟩
          case measure => simp [intOf]; omega
    · have hge : ¬ i < b := by assumption
      go_end0
      refine ⟨rfl, ?_⟩
      have e : Sort.insertionSort lt d a b = dk := by unfold Sort.insertionSort; rw [← HO.out, insOuter_stop _ _ _ _ _ hge]
      rw [e]
      exact S
end
end Go.Proofs.YtehabjiacgibpaaGreat
