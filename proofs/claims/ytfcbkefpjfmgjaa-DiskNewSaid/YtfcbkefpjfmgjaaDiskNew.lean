/-
  The statement DiskNew: a disk is made, of so many blocks or of an image, just as the document says. Condition: the row's own.
-/
import Derived.Test.YtfcbkefpjfmgjaaDkAwake
import Derived.RegionTactic
namespace Go.Proofs.Ytfcbkefpjfmgjaa
open Go.RowKit

theorem ofat_flat {l : List UInt8} {n : Nat} {s : Dsk} (h : OfAt l n n s) (hl : l.length = n * 64) : s.K.flatten = l := chunks_flat n l s.K hl h.1 h.2.2.2.2.2

theorem new_off (n : Nat) : (!(Dsk.new n).off) = true := rfl
theorem new_calls (n : Nat) : ((Dsk.new n).calls : Int) = 0 := rfl

set_option maxRecDepth 100000 in
set_option maxHeartbeats 4000000 in
theorem diskNew_walk (y : Int) (A : Option Addr) (l : List UInt8) (c : Nat) (w : World) (h0 : -9223372036854775808 ≤ y) (h1 : y ≤ 9223372036854775807) (hl : l.length ≤ 140737488351232) (hs : Seen w A l) (hc : l.length ≤ c) :
    Calls Try.prog 3 #[.int .i64 y, .slice A l.length c] w fun e w' => e = .returned (.bool true) ∧ Below w.heap.size w w' := by
  have HS := Lib.hid hs
  obtain ⟨n, hn⟩ : ∃ n, n = l.length := ⟨_, rfl⟩
  have HN := Lib.hid hn
  rw [← hn] at hl hc ⊢
  clear hs hn
  have hy : y < 1 ∨ 4096 < y ∨ ∃ k : Nat, y = k ∧ 1 ≤ k ∧ k ≤ 4096 := by
    rcases Int.lt_or_le y 1 with h | h
    · exact .inl h
    · rcases Int.lt_or_le 4096 y with h' | h'
      · exact .inr (.inl h')
      · exact .inr (.inr ⟨y.toNat, by omega, by omega, by omega⟩)
  have hi : (¬ (n : Int) % 64 = 0) ∨ ((n : Int) % 64 = 0 ∧ ¬ 1 ≤ (n : Int) / 64) ∨ ((n : Int) % 64 = 0 ∧ ¬ (n : Int) / 64 ≤ 4096) ∨ ∃ m : Nat, n = m * 64 ∧ 1 ≤ m ∧ m ≤ 4096 := by
    by_cases h1 : (n : Int) % 64 = 0
    · rcases Int.lt_or_le ((n : Int) / 64) 1 with h | h
      · exact .inr (.inl ⟨h1, by omega⟩)
      · rcases Int.lt_or_le 4096 ((n : Int) / 64) with h' | h'
        · exact .inr (.inr (.inl ⟨h1, by omega⟩))
        · exact .inr (.inr (.inr ⟨n / 64, by omega, by omega, by omega⟩))
    · exact .inl h1
  have HI := Lib.hid hi
  clear hi
  have HNEW : Hid (∀ (w : World) (n : Nat), 1 ≤ n → n ≤ 4096 → Calls Try.prog 10 #[.int .i64 (n : Int)] w (Fresh w (Dsk.new n))) := new_any
  have HBAD : Hid (∀ (w : World), ¬ (1 ≤ y ∧ y ≤ 4096) → Calls Try.prog 10 #[.int .i64 y] w fun e w' => e = .returned (.tuple #[.pointer none, .int .i64 1]) ∧ w' = w) := fun w h => new_bad w y h
  have HOFB : Hid (∀ w', Below w.heap.size w w' → ¬ (n % 64 = 0 ∧ 1 ≤ n / 64 ∧ n / 64 ≤ 4096) → Calls Try.prog 14 #[.slice A n c] w' fun e w'' => e = .returned (.tuple #[.pointer none, .int .i64 1]) ∧ w'' = w') := fun w' _ h => by
    have := of_bad w' A l c (by have := HN.out; omega) (by rw [← HN.out]; exact h)
    rw [← HN.out] at this
    exact this
  have HOF : Hid (∀ w' m, Below w.heap.size w w' → n = m * 64 → 1 ≤ m → m ≤ 4096 → Calls Try.prog 14 #[.slice A n c] w' fun e w'' => ∃ s, s.K.length = m ∧ s.K.flatten = l ∧ Fresh w' s e w'') := fun w' m hb hm h1 h2 => by
    have := of_any w' A l c m (by rw [← HN.out]; exact hm) (by rw [← HN.out]; exact hc) (HS.out.below hb) h1 h2
    rw [← HN.out] at this
    refine this.mono ?_
    rintro e w'' ⟨s, ho, hf⟩
    exact ⟨s, ho.1, ofat_flat ho (by rw [← HN.out]; exact hm), hf⟩
  obtain ⟨T, u, hT⟩ := text_named (n := n) (c := c) HS.out HN.out.symm
  have HU := Lib.hid u
  have HTT := Lib.hid hT
  clear u hT hc
  rcases hy with hy | hy | ⟨k, rfl, hk1, hk2⟩
  · have hyb : ¬ (1 ≤ y ∧ y ≤ 4096) := by omega
    rcases HI.out with hi | ⟨hi, hi2⟩ | ⟨hi, hi2⟩ | ⟨m, hm, hm1, hm2⟩
    · have HX : Hid (¬ (n % 64 = 0 ∧ 1 ≤ n / 64 ∧ n / 64 ≤ 4096)) := by show ¬ _; omega
      go_enter Try.func3, Try.ntmps3
      go_wp2_with fail
      refine (awake_any _).mono ?_
      rintro e w1 ⟨rfl, hb⟩
      have B := Lib.hid hb
      clear hb
      go_wp2_with fail
      refine (HBAD.out _ hyb).mono ?_
      rintro e w2 ⟨rfl, hw⟩
      have B2 : Hid (Below w.heap.size w w2) := by rw [hw]; exact B.out
      clear hyb hw B
      go_wp2_with fail
      refine (HOFB.out _ B2.out HX.out).mono ?_
      rintro e w3 ⟨rfl, hw⟩
      obtain rfl := hw.symm
      go_wp2_with fail
      go_region
      all_goals go_wp2_with fail
      all_goals go_ret
      all_goals exact ⟨rfl, B2.out.drew⟩
    · have HX : Hid (¬ (n % 64 = 0 ∧ 1 ≤ n / 64 ∧ n / 64 ≤ 4096)) := by show ¬ _; omega
      go_enter Try.func3, Try.ntmps3
      go_wp2_with fail
      refine (awake_any _).mono ?_
      rintro e w1 ⟨rfl, hb⟩
      have B := Lib.hid hb
      clear hb
      go_wp2_with fail
      refine (HBAD.out _ hyb).mono ?_
      rintro e w2 ⟨rfl, hw⟩
      have B2 : Hid (Below w.heap.size w w2) := by rw [hw]; exact B.out
      clear hyb hw B
      go_wp2_with fail
      refine (HOFB.out _ B2.out HX.out).mono ?_
      rintro e w3 ⟨rfl, hw⟩
      obtain rfl := hw.symm
      go_wp2_with fail
      go_region
      all_goals go_wp2_with fail
      all_goals go_ret
      all_goals exact ⟨rfl, B2.out.drew⟩
    · have hq3 : decide ((n : Int) / 64 ≤ 4096) = false := decide_eq_false hi2
      have HX : Hid (¬ (n % 64 = 0 ∧ 1 ≤ n / 64 ∧ n / 64 ≤ 4096)) := by show ¬ _; omega
      go_enter Try.func3, Try.ntmps3
      go_wp2_with fail
      refine (awake_any _).mono ?_
      rintro e w1 ⟨rfl, hb⟩
      have B := Lib.hid hb
      clear hb
      go_wp2_with fail
      refine (HBAD.out _ hyb).mono ?_
      rintro e w2 ⟨rfl, hw⟩
      have B2 : Hid (Below w.heap.size w w2) := by rw [hw]; exact B.out
      clear hyb hw B
      go_wp2_with fail
      refine (HOFB.out _ B2.out HX.out).mono ?_
      rintro e w3 ⟨rfl, hw⟩
      obtain rfl := hw.symm
      go_wp2_with fail
      go_region
      all_goals go_wp2_with fail
      all_goals go_ret
      all_goals exact ⟨rfl, B2.out.drew⟩
    · have hq1 : (n : Int) % 64 = 0 := by omega
      have hq2 : (n : Int) / 64 = (m : Int) := by omega
      have HM1 := Lib.hid hm
      clear hm
      go_enter Try.func3, Try.ntmps3
      go_wp2_with fail
      refine (awake_any _).mono ?_
      rintro e w1 ⟨rfl, hb⟩
      have B := Lib.hid hb
      clear hb
      go_wp2_with fail
      refine (HBAD.out _ hyb).mono ?_
      rintro e w2 ⟨rfl, hw⟩
      have B2 : Hid (Below w.heap.size w w2) := by rw [hw]; exact B.out
      clear hyb hw B
      go_wp2_with fail
      refine (HOF.out _ m B2.out HM1.out hm1 hm2).mono ?_
      rintro e w3 ⟨s, hsK, hsf, g', F', rfl, hd', _, hb'⟩
      have D3 := Lib.hid hd'
      have B3 := Lib.hid (hop B2.out hb')
      have HBL : Hid (∀ w', Below w3.heap.size w3 w' → Calls Try.prog 11 #[.pointer (some ⟨g', 0, none⟩)] w' fun e w'' => e = .returned (.int .i64 (m : Int)) ∧ w'' = w') := fun w' hb => by
        have := blocks_any (D3.out.still hb)
        rw [hsK] at this
        exact this
      have HIM : Hid (∀ w', Below w3.heap.size w3 w' → Calls Try.prog 15 #[.pointer (some ⟨g', 0, none⟩)] w' fun e w'' => ∃ A' c', e = .returned (.slice A' n c') ∧ (convert 22 9 (.slice A' n c')).run Try.prog w'' = .ok (.string T) w'' ∧ Below w'.heap.size w' w'') := fun w' hb => by
        refine (image_len n (D3.out.still hb) (by rw [hsf]; exact HN.out.symm)).mono ?_
        rintro e w'' ⟨A', c', rfl, hm'⟩
        rw [hsf] at hm'
        have ht := text_on hm'.at_len.2 n c' HN.out.symm _ (Below.refl _ _)
        rw [show (⟨l.toArray⟩ : ByteArray) = T by rw [← HTT.out, ByteArray.toList_eq]] at ht
        exact ⟨A', c', rfl, ht, hm'.2⟩
      have hu : ∀ w', Below w3.heap.size w3 w' → (convert 22 9 (.slice A n c)).run Try.prog w' = .ok (.string T) w' := fun w' hb => HU.out w' (hop B3.out hb)
      have bd : Below w3.heap.size w3 w3.drew := (Below.refl _ _).drew
      clear hd' hb' hsK hsf HU HOF HOFB HBAD HNEW
      go_wp2_with fail
      go_region_held_law (fun w' => Below w3.heap.size w3 w') (first | exact bd | assumption | (exact hop ‹Below w3.heap.size w3 _› (by assumption)))
        (first
          | (go_at_call 11; refine (HBL.out _ ?_).mono ?_; (assumption); rintro e w' ⟨rfl, hw'⟩; obtain rfl := hw'.symm)
          | (go_at_call 15; refine (HIM.out _ ?_).mono ?_; (assumption); rintro e w9 ⟨A9, c9, rfl, hu9, hb9⟩))
      all_goals go_wp2_with fail
      all_goals go_ret
      all_goals exact ⟨rfl, hop B3.out (by assumption)⟩
  · have hyb : ¬ (1 ≤ y ∧ y ≤ 4096) := by omega
    rcases HI.out with hi | ⟨hi, hi2⟩ | ⟨hi, hi2⟩ | ⟨m, hm, hm1, hm2⟩
    · have HX : Hid (¬ (n % 64 = 0 ∧ 1 ≤ n / 64 ∧ n / 64 ≤ 4096)) := by show ¬ _; omega
      go_enter Try.func3, Try.ntmps3
      go_wp2_with fail
      refine (awake_any _).mono ?_
      rintro e w1 ⟨rfl, hb⟩
      have B := Lib.hid hb
      clear hb
      go_wp2_with fail
      refine (HBAD.out _ hyb).mono ?_
      rintro e w2 ⟨rfl, hw⟩
      have B2 : Hid (Below w.heap.size w w2) := by rw [hw]; exact B.out
      clear hyb hw B
      go_wp2_with fail
      refine (HOFB.out _ B2.out HX.out).mono ?_
      rintro e w3 ⟨rfl, hw⟩
      obtain rfl := hw.symm
      go_wp2_with fail
      go_region
      all_goals go_wp2_with fail
      all_goals go_ret
      all_goals exact ⟨rfl, B2.out.drew⟩
    · have HX : Hid (¬ (n % 64 = 0 ∧ 1 ≤ n / 64 ∧ n / 64 ≤ 4096)) := by show ¬ _; omega
      go_enter Try.func3, Try.ntmps3
      go_wp2_with fail
      refine (awake_any _).mono ?_
      rintro e w1 ⟨rfl, hb⟩
      have B := Lib.hid hb
      clear hb
      go_wp2_with fail
      refine (HBAD.out _ hyb).mono ?_
      rintro e w2 ⟨rfl, hw⟩
      have B2 : Hid (Below w.heap.size w w2) := by rw [hw]; exact B.out
      clear hyb hw B
      go_wp2_with fail
      refine (HOFB.out _ B2.out HX.out).mono ?_
      rintro e w3 ⟨rfl, hw⟩
      obtain rfl := hw.symm
      go_wp2_with fail
      go_region
      all_goals go_wp2_with fail
      all_goals go_ret
      all_goals exact ⟨rfl, B2.out.drew⟩
    · have hq3 : decide ((n : Int) / 64 ≤ 4096) = false := decide_eq_false hi2
      have HX : Hid (¬ (n % 64 = 0 ∧ 1 ≤ n / 64 ∧ n / 64 ≤ 4096)) := by show ¬ _; omega
      go_enter Try.func3, Try.ntmps3
      go_wp2_with fail
      refine (awake_any _).mono ?_
      rintro e w1 ⟨rfl, hb⟩
      have B := Lib.hid hb
      clear hb
      go_wp2_with fail
      refine (HBAD.out _ hyb).mono ?_
      rintro e w2 ⟨rfl, hw⟩
      have B2 : Hid (Below w.heap.size w w2) := by rw [hw]; exact B.out
      clear hyb hw B
      go_wp2_with fail
      refine (HOFB.out _ B2.out HX.out).mono ?_
      rintro e w3 ⟨rfl, hw⟩
      obtain rfl := hw.symm
      go_wp2_with fail
      go_region
      all_goals go_wp2_with fail
      all_goals go_ret
      all_goals exact ⟨rfl, B2.out.drew⟩
    · have hq1 : (n : Int) % 64 = 0 := by omega
      have hq2 : (n : Int) / 64 = (m : Int) := by omega
      have HM1 := Lib.hid hm
      clear hm
      go_enter Try.func3, Try.ntmps3
      go_wp2_with fail
      refine (awake_any _).mono ?_
      rintro e w1 ⟨rfl, hb⟩
      have B := Lib.hid hb
      clear hb
      go_wp2_with fail
      refine (HBAD.out _ hyb).mono ?_
      rintro e w2 ⟨rfl, hw⟩
      have B2 : Hid (Below w.heap.size w w2) := by rw [hw]; exact B.out
      clear hyb hw B
      go_wp2_with fail
      refine (HOF.out _ m B2.out HM1.out hm1 hm2).mono ?_
      rintro e w3 ⟨s, hsK, hsf, g', F', rfl, hd', _, hb'⟩
      have D3 := Lib.hid hd'
      have B3 := Lib.hid (hop B2.out hb')
      have HBL : Hid (∀ w', Below w3.heap.size w3 w' → Calls Try.prog 11 #[.pointer (some ⟨g', 0, none⟩)] w' fun e w'' => e = .returned (.int .i64 (m : Int)) ∧ w'' = w') := fun w' hb => by
        have := blocks_any (D3.out.still hb)
        rw [hsK] at this
        exact this
      have HIM : Hid (∀ w', Below w3.heap.size w3 w' → Calls Try.prog 15 #[.pointer (some ⟨g', 0, none⟩)] w' fun e w'' => ∃ A' c', e = .returned (.slice A' n c') ∧ (convert 22 9 (.slice A' n c')).run Try.prog w'' = .ok (.string T) w'' ∧ Below w'.heap.size w' w'') := fun w' hb => by
        refine (image_len n (D3.out.still hb) (by rw [hsf]; exact HN.out.symm)).mono ?_
        rintro e w'' ⟨A', c', rfl, hm'⟩
        rw [hsf] at hm'
        have ht := text_on hm'.at_len.2 n c' HN.out.symm _ (Below.refl _ _)
        rw [show (⟨l.toArray⟩ : ByteArray) = T by rw [← HTT.out, ByteArray.toList_eq]] at ht
        exact ⟨A', c', rfl, ht, hm'.2⟩
      have hu : ∀ w', Below w3.heap.size w3 w' → (convert 22 9 (.slice A n c)).run Try.prog w' = .ok (.string T) w' := fun w' hb => HU.out w' (hop B3.out hb)
      have bd : Below w3.heap.size w3 w3.drew := (Below.refl _ _).drew
      clear hd' hb' hsK hsf HU HOF HOFB HBAD HNEW
      go_wp2_with fail
      go_region_held_law (fun w' => Below w3.heap.size w3 w') (first | exact bd | assumption | (exact hop ‹Below w3.heap.size w3 _› (by assumption)))
        (first
          | (go_at_call 11; refine (HBL.out _ ?_).mono ?_; (assumption); rintro e w' ⟨rfl, hw'⟩; obtain rfl := hw'.symm)
          | (go_at_call 15; refine (HIM.out _ ?_).mono ?_; (assumption); rintro e w9 ⟨A9, c9, rfl, hu9, hb9⟩))
      all_goals go_wp2_with fail
      all_goals go_ret
      all_goals exact ⟨rfl, hop B3.out (by assumption)⟩
  · clear HBAD
    rcases HI.out with hi | ⟨hi, hi2⟩ | ⟨hi, hi2⟩ | ⟨m, hm, hm1, hm2⟩
    · have HX : Hid (¬ (n % 64 = 0 ∧ 1 ≤ n / 64 ∧ n / 64 ≤ 4096)) := by show ¬ _; omega
      go_enter Try.func3, Try.ntmps3
      go_wp2_with fail
      refine (awake_any _).mono ?_
      rintro e w1 ⟨rfl, hb⟩
      have B := Lib.hid hb
      clear hb
      go_wp2_with fail
      refine (HNEW.out _ k hk1 hk2).mono ?_
      rintro e w2 ⟨g, F, rfl, hd, _, hb⟩
      have D := Lib.hid hd
      have B2 := Lib.hid (hop B.out hb)
      clear hd hb B
      go_wp2_with (first
        | (go_at_call 11; refine (blocks_any D.out).mono ?_; rintro e w' ⟨rfl, hw'⟩; obtain rfl := hw'.symm; rw [klen_new])
        | (go_at_call 12; refine (on_any D.out).mono ?_; rintro e w' ⟨rfl, hw'⟩; obtain rfl := hw'.symm; rw [new_off])
        | (go_at_call 13; refine (calls_any D.out).mono ?_; rintro e w' ⟨rfl, hw'⟩; obtain rfl := hw'.symm; rw [new_calls]))
      refine (HOFB.out _ B2.out HX.out).mono ?_
      rintro e w3 ⟨rfl, hw⟩
      obtain rfl := hw.symm
      go_wp2_with fail
      go_region
      all_goals go_wp2_with fail
      all_goals go_ret
      all_goals exact ⟨rfl, B2.out.drew⟩
    · have HX : Hid (¬ (n % 64 = 0 ∧ 1 ≤ n / 64 ∧ n / 64 ≤ 4096)) := by show ¬ _; omega
      go_enter Try.func3, Try.ntmps3
      go_wp2_with fail
      refine (awake_any _).mono ?_
      rintro e w1 ⟨rfl, hb⟩
      have B := Lib.hid hb
      clear hb
      go_wp2_with fail
      refine (HNEW.out _ k hk1 hk2).mono ?_
      rintro e w2 ⟨g, F, rfl, hd, _, hb⟩
      have D := Lib.hid hd
      have B2 := Lib.hid (hop B.out hb)
      clear hd hb B
      go_wp2_with (first
        | (go_at_call 11; refine (blocks_any D.out).mono ?_; rintro e w' ⟨rfl, hw'⟩; obtain rfl := hw'.symm; rw [klen_new])
        | (go_at_call 12; refine (on_any D.out).mono ?_; rintro e w' ⟨rfl, hw'⟩; obtain rfl := hw'.symm; rw [new_off])
        | (go_at_call 13; refine (calls_any D.out).mono ?_; rintro e w' ⟨rfl, hw'⟩; obtain rfl := hw'.symm; rw [new_calls]))
      refine (HOFB.out _ B2.out HX.out).mono ?_
      rintro e w3 ⟨rfl, hw⟩
      obtain rfl := hw.symm
      go_wp2_with fail
      go_region
      all_goals go_wp2_with fail
      all_goals go_ret
      all_goals exact ⟨rfl, B2.out.drew⟩
    · have hq3 : decide ((n : Int) / 64 ≤ 4096) = false := decide_eq_false hi2
      have HX : Hid (¬ (n % 64 = 0 ∧ 1 ≤ n / 64 ∧ n / 64 ≤ 4096)) := by show ¬ _; omega
      go_enter Try.func3, Try.ntmps3
      go_wp2_with fail
      refine (awake_any _).mono ?_
      rintro e w1 ⟨rfl, hb⟩
      have B := Lib.hid hb
      clear hb
      go_wp2_with fail
      refine (HNEW.out _ k hk1 hk2).mono ?_
      rintro e w2 ⟨g, F, rfl, hd, _, hb⟩
      have D := Lib.hid hd
      have B2 := Lib.hid (hop B.out hb)
      clear hd hb B
      go_wp2_with (first
        | (go_at_call 11; refine (blocks_any D.out).mono ?_; rintro e w' ⟨rfl, hw'⟩; obtain rfl := hw'.symm; rw [klen_new])
        | (go_at_call 12; refine (on_any D.out).mono ?_; rintro e w' ⟨rfl, hw'⟩; obtain rfl := hw'.symm; rw [new_off])
        | (go_at_call 13; refine (calls_any D.out).mono ?_; rintro e w' ⟨rfl, hw'⟩; obtain rfl := hw'.symm; rw [new_calls]))
      refine (HOFB.out _ B2.out HX.out).mono ?_
      rintro e w3 ⟨rfl, hw⟩
      obtain rfl := hw.symm
      go_wp2_with fail
      go_region
      all_goals go_wp2_with fail
      all_goals go_ret
      all_goals exact ⟨rfl, B2.out.drew⟩
    · have hq1 : (n : Int) % 64 = 0 := by omega
      have hq2 : (n : Int) / 64 = (m : Int) := by omega
      have HM1 := Lib.hid hm
      clear hm
      go_enter Try.func3, Try.ntmps3
      go_wp2_with fail
      refine (awake_any _).mono ?_
      rintro e w1 ⟨rfl, hb⟩
      have B := Lib.hid hb
      clear hb
      go_wp2_with fail
      refine (HNEW.out _ k hk1 hk2).mono ?_
      rintro e w2 ⟨g, F, rfl, hd, _, hb⟩
      have D := Lib.hid hd
      have B2 := Lib.hid (hop B.out hb)
      clear hd hb B
      go_wp2_with (first
        | (go_at_call 11; refine (blocks_any D.out).mono ?_; rintro e w' ⟨rfl, hw'⟩; obtain rfl := hw'.symm; rw [klen_new])
        | (go_at_call 12; refine (on_any D.out).mono ?_; rintro e w' ⟨rfl, hw'⟩; obtain rfl := hw'.symm; rw [new_off])
        | (go_at_call 13; refine (calls_any D.out).mono ?_; rintro e w' ⟨rfl, hw'⟩; obtain rfl := hw'.symm; rw [new_calls]))
      refine (HOF.out _ m B2.out HM1.out hm1 hm2).mono ?_
      rintro e w3 ⟨s, hsK, hsf, g', F', rfl, hd', _, hb'⟩
      have D3 := Lib.hid hd'
      have B3 := Lib.hid (hop B2.out hb')
      have HBL : Hid (∀ w', Below w3.heap.size w3 w' → Calls Try.prog 11 #[.pointer (some ⟨g', 0, none⟩)] w' fun e w'' => e = .returned (.int .i64 (m : Int)) ∧ w'' = w') := fun w' hb => by
        have := blocks_any (D3.out.still hb)
        rw [hsK] at this
        exact this
      have HIM : Hid (∀ w', Below w3.heap.size w3 w' → Calls Try.prog 15 #[.pointer (some ⟨g', 0, none⟩)] w' fun e w'' => ∃ A' c', e = .returned (.slice A' n c') ∧ (convert 22 9 (.slice A' n c')).run Try.prog w'' = .ok (.string T) w'' ∧ Below w'.heap.size w' w'') := fun w' hb => by
        refine (image_len n (D3.out.still hb) (by rw [hsf]; exact HN.out.symm)).mono ?_
        rintro e w'' ⟨A', c', rfl, hm'⟩
        rw [hsf] at hm'
        have ht := text_on hm'.at_len.2 n c' HN.out.symm _ (Below.refl _ _)
        rw [show (⟨l.toArray⟩ : ByteArray) = T by rw [← HTT.out, ByteArray.toList_eq]] at ht
        exact ⟨A', c', rfl, ht, hm'.2⟩
      have hu : ∀ w', Below w3.heap.size w3 w' → (convert 22 9 (.slice A n c)).run Try.prog w' = .ok (.string T) w' := fun w' hb => HU.out w' (hop B3.out hb)
      have bd : Below w3.heap.size w3 w3.drew := (Below.refl _ _).drew
      clear hd' hb' hsK hsf HU HOF HOFB HNEW
      go_wp2_with fail
      go_region_held_law (fun w' => Below w3.heap.size w3 w') (first | exact bd | assumption | (exact hop ‹Below w3.heap.size w3 _› (by assumption)))
        (first
          | (go_at_call 11; refine (HBL.out _ ?_).mono ?_; (assumption); rintro e w' ⟨rfl, hw'⟩; obtain rfl := hw'.symm)
          | (go_at_call 15; refine (HIM.out _ ?_).mono ?_; (assumption); rintro e w9 ⟨A9, c9, rfl, hu9, hb9⟩))
      all_goals go_wp2_with fail
      all_goals go_ret
      all_goals exact ⟨rfl, hop B3.out (by assumption)⟩
end Go.Proofs.Ytfcbkefpjfmgjaa
