/-
  What the program's Name and ID come to. Condition: a string's length fits an int.
  The program's tokenizer: its classes of bytes, where bytes of a class end. Conditions: how it lies in memory; a text's length fits an int.
  The program's tokenizer: how it lies, the current token, the next one. Conditions: how it lies in memory; a text of at most 4,096 bytes.
  The line and the column of a place, as the program reckons them; the parser's panic. Conditions: how the parser lies in memory.
  What the program's Name comes to, on a list. Condition: a string's length fits an int.
-/
import Derived.Test.YtpiaiibobjlipaaCLaW
import Derived.Shelf.Abstract
import Derived.Test.YtpiaiibobjlipaaCPaL
import Derived.Deep.RegionHeldLaw
import Derived.Deep.QuietTactic
import Derived.BigQuiet
import Derived.Test.YtpiaiibobjlipaaShelf
import Derived.WalkSmall
namespace Go.Proofs.Ytpiaiibobjlipaa
open Go.RowKit
theorem low_any (c : UInt8) (w : World) : Calls Try.prog 78 #[.int .u8 (c.toNat : Int)] w fun e w' => e = .returned (.bool (lowB c)) ∧ Below w.heap.size w w' := by
  unfold lowB
  have hx := c.toNat_lt
  generalize c.toNat = x at *
  obtain ⟨v, hv⟩ : ∃ v, v = (decide (97 ≤ x) && decide (x ≤ 122)) := ⟨_, rfl⟩
  have hc : (x < 97 ∧ Hid (v = false)) ∨ (97 ≤ x ∧ x ≤ 122 ∧ decide ((x : Int) ≤ 122) = true ∧ Hid (v = true)) ∨ (97 ≤ x ∧ 122 < x ∧ decide ((x : Int) ≤ 122) = false ∧ Hid (v = false)) := by
    by_cases h1 : 97 ≤ x
    · by_cases h2 : x ≤ 122
      · exact .inr (.inl ⟨h1, h2, decide_eq_true (by omega), Lib.hid (by rw [hv, decide_eq_true h1, decide_eq_true h2]; rfl)⟩)
      · exact .inr (.inr ⟨h1, by omega, decide_eq_false (by omega), Lib.hid (by rw [hv, decide_eq_false h2, Bool.and_false])⟩)
    · exact .inl ⟨by omega, Lib.hid (by rw [hv, decide_eq_false h1, Bool.false_and])⟩
  rw [← hv]
  clear hv
  rcases hc with ⟨h1, H⟩ | ⟨h1, h2, h3, H⟩ | ⟨h1, h2, h3, H⟩
  all_goals go_enter Try.func78, Try.ntmps78
  all_goals go_wp2_with fail
  all_goals go_ret
  all_goals exact ⟨by rw [H.out]; first | rfl | (simp [h3]; done), Below.refl _ _⟩
theorem dig_any (c : UInt8) (w : World) : Calls Try.prog 79 #[.int .u8 (c.toNat : Int)] w fun e w' => e = .returned (.bool (numB c)) ∧ Below w.heap.size w w' := by
  unfold numB
  have hx := c.toNat_lt
  generalize c.toNat = x at *
  obtain ⟨v, hv⟩ : ∃ v, v = (decide (48 ≤ x) && decide (x ≤ 57)) := ⟨_, rfl⟩
  have hc : (x < 48 ∧ Hid (v = false)) ∨ (48 ≤ x ∧ x ≤ 57 ∧ decide ((x : Int) ≤ 57) = true ∧ Hid (v = true)) ∨ (48 ≤ x ∧ 57 < x ∧ decide ((x : Int) ≤ 57) = false ∧ Hid (v = false)) := by
    by_cases h1 : 48 ≤ x
    · by_cases h2 : x ≤ 57
      · exact .inr (.inl ⟨h1, h2, decide_eq_true (by omega), Lib.hid (by rw [hv, decide_eq_true h1, decide_eq_true h2]; rfl)⟩)
      · exact .inr (.inr ⟨h1, by omega, decide_eq_false (by omega), Lib.hid (by rw [hv, decide_eq_false h2, Bool.and_false])⟩)
    · exact .inl ⟨by omega, Lib.hid (by rw [hv, decide_eq_false h1, Bool.false_and])⟩
  rw [← hv]
  clear hv
  rcases hc with ⟨h1, H⟩ | ⟨h1, h2, h3, H⟩ | ⟨h1, h2, h3, H⟩
  all_goals go_enter Try.func79, Try.ntmps79
  all_goals go_wp2_with fail
  all_goals go_ret
  all_goals exact ⟨by rw [H.out]; first | rfl | (simp [h3]; done), Below.refl _ _⟩
def resL (l : List UInt8) : Bool := l == typeW || (l == relW || l == defW)
theorem reserved_any (s : ByteArray) (w : World) : Calls Try.prog 80 #[.string s] w fun e w' => e = .returned (.bool (resL s.data.toList)) ∧ Below w.heap.size w w' := by
  rw [← toList_data]
  generalize hl : s.toList = l
  have hc : l = typeW ∨ l = relW ∨ l = defW ∨ (¬ l = typeW ∧ ¬ l = relW ∧ ¬ l = defW) := by
    by_cases h1 : l = typeW
    · exact .inl h1
    · by_cases h2 : l = relW
      · exact .inr (.inl h2)
      · by_cases h3 : l = defW
        · exact .inr (.inr (.inl h3))
        · exact .inr (.inr (.inr ⟨h1, h2, h3⟩))
  subst hl
  rcases hc with h | h | h | ⟨h1, h2, h3⟩
  · rw [h]
    have e1 : s.toList = [116, 121, 112, 101] := h
    clear h
    go_enter Try.func80, Try.ntmps80
    go_wp2_with fail
    go_ret
    exact ⟨rfl, Below.refl _ _⟩
  · rw [h]
    have e1 : s.toList = [114, 101, 108, 97, 116, 105, 111, 110] := h
    clear h
    go_enter Try.func80, Try.ntmps80
    go_wp2_with fail
    go_ret
    exact ⟨rfl, Below.refl _ _⟩
  · rw [h]
    have e1 : s.toList = [100, 101, 102, 105, 110, 101] := h
    clear h
    go_enter Try.func80, Try.ntmps80
    go_wp2_with fail
    go_ret
    exact ⟨rfl, Below.refl _ _⟩
  · have n1 : (s.toList == [116, 121, 112, 101]) = false := beq_eq_false_iff_ne.2 h1
    have n2 : (s.toList == [114, 101, 108, 97, 116, 105, 111, 110]) = false := beq_eq_false_iff_ne.2 h2
    have n3 : (s.toList == [100, 101, 102, 105, 110, 101]) = false := beq_eq_false_iff_ne.2 h3
    have hR : Hid (resL s.toList = false) := Lib.hid (by simp [resL, h1, h2, h3])
    clear h1 h2 h3
    go_enter Try.func80, Try.ntmps80
    go_wp2_with fail
    go_ret
    exact ⟨by rw [hR.out]; rfl, Below.refl _ _⟩
theorem nameC_any (c : UInt8) (w : World) : Calls Try.prog 77 #[.int .u8 (c.toNat : Int)] w fun e w' => e = .returned (.bool (nmB c)) ∧ Below w.heap.size w w' := by
  have HL := Lib.hid (fun W => low_any c W)
  have HD := Lib.hid (fun W => dig_any c W)
  have hn : nmB c = (lowB c || (numB c || decide (c.toNat = 95))) := by unfold nmB; cases lowB c <;> cases numB c <;> simp
  rw [hn]
  clear hn
  have hx := c.toNat_lt
  generalize lowB c = a at *
  generalize numB c = b at *
  generalize c.toNat = x at *
  cases a
  · cases b
    · by_cases h95 : x = 95
      · subst h95
        have HL2 : Hid (∀ W, Calls Try.prog 78 #[.int .u8 95] W fun e w' => e = .returned (.bool false) ∧ Below W.heap.size W w') := HL
        have HD2 : Hid (∀ W, Calls Try.prog 79 #[.int .u8 95] W fun e w' => e = .returned (.bool false) ∧ Below W.heap.size W w') := HD
        clear HL HD
        show Calls _ _ #[.int .u8 95] _ _
        go_enter Try.func77, Try.ntmps77
        go_wp2_with (first
          | (go_at_call 78; with_reducible refine (HL2.out _).mono ?_; rintro e w1 ⟨rfl, hb1⟩; have HB1 := Lib.hid hb1; clear hb1)
          | (go_at_call 79; with_reducible refine (HD2.out _).mono ?_; rintro e w2 ⟨rfl, hb2⟩; have HB2 := Lib.hid hb2; clear hb2))
        go_ret
        exact ⟨rfl, hop HB1.out HB2.out⟩
      · have e1 : ¬ (x : Int) = 95 := by omega
        have e2 : decide (x = 95) = false := decide_eq_false h95
        rw [e2]
        clear h95 e2
        go_enter Try.func77, Try.ntmps77
        go_wp2_with (first
          | (go_at_call 78; with_reducible refine (HL.out _).mono ?_; rintro e w1 ⟨rfl, hb1⟩; have HB1 := Lib.hid hb1; clear hb1)
          | (go_at_call 79; with_reducible refine (HD.out _).mono ?_; rintro e w2 ⟨rfl, hb2⟩; have HB2 := Lib.hid hb2; clear hb2))
        go_ret
        exact ⟨by simp [e1], hop HB1.out HB2.out⟩
    · go_enter Try.func77, Try.ntmps77
      go_wp2_with (first
        | (go_at_call 78; with_reducible refine (HL.out _).mono ?_; rintro e w1 ⟨rfl, hb1⟩; have HB1 := Lib.hid hb1; clear hb1)
        | (go_at_call 79; with_reducible refine (HD.out _).mono ?_; rintro e w2 ⟨rfl, hb2⟩; have HB2 := Lib.hid hb2; clear hb2))
      go_ret
      exact ⟨by simp, hop HB1.out HB2.out⟩
  · go_enter Try.func77, Try.ntmps77
    go_wp2_with (go_at_call 78; with_reducible refine (HL.out _).mono ?_; rintro e w1 ⟨rfl, hb1⟩; have HB1 := Lib.hid hb1; clear hb1)
    go_ret
    exact ⟨by simp, HB1.out⟩
def consL (p : UInt8 → Bool) (most : Nat) (l : List UInt8) : Bool := !decide (l.length = 0 ∨ most < l.length) && l.all p
set_option maxHeartbeats 800000 in
theorem consists_any (g : Nat) (p : UInt8 → Bool) (most : Nat) (s : ByteArray) (w : World) (eg : ∀ args w, (callFunc g args).run Try.prog w = .ok (.enter g args) w) (hm : s.size ≤ 9223372036854775807) (hmo : most ≤ 1000)
    (hf : ∀ W (c : UInt8), Calls Try.prog g #[.int .u8 (c.toNat : Int)] W fun e w' => e = .returned (.bool (p c)) ∧ Below W.heap.size W w') :
    Calls Try.prog 76 #[.string s, .int .i64 most, .func (.func g) #[] #[]] w fun e w' => e = .returned (.bool (consL p most s.data.toList)) ∧ Below w.heap.size w w' := by
  have HF := Lib.hid hf
  clear hf
  by_cases hb : s.data.toList.length = 0 ∨ most < s.data.toList.length
  · have hC : consL p most s.data.toList = false := by rw [consL, decide_eq_true hb]; rfl
    rw [hC]
    rw [size_list] at hb
    clear hC
    have hc : s.size < 1 ∨ (1 ≤ s.size ∧ most < s.size) := by omega
    clear hb
    rcases hc with h1 | ⟨h1, h2⟩
    all_goals go_enter Try.func76, Try.ntmps76
    all_goals go_wp2_with fail
    all_goals go_ret
    all_goals exact ⟨rfl, Below.refl _ _⟩
  · have hC : consL p most s.data.toList = s.data.toList.all p := by rw [consL, decide_eq_false hb]; rfl
    rw [hC]
    rw [size_list] at hb
    clear hC
    obtain ⟨v, hv⟩ : ∃ v, v = s.data.toList.all p := ⟨_, rfl⟩
    rw [← hv]
    have HV := Lib.hid hv
    have h1 : 1 ≤ s.size := by omega
    have h2 : s.size ≤ most := by omega
    have h3 : decide (most < s.size) = false := decide_eq_false (by omega)
    have h4 : decide ((s.size : Int) < 1) = false := decide_eq_false (by omega)
    clear hb hv
    go_enter Try.func76, Try.ntmps76
    go_wp2_with fail
    go_loopw [19] (fun i wr => ∃ k : Nat, k ≤ s.size ∧ i = .int .i64 k ∧ Hid ((s.data.toList.take k).all p = true) ∧ Hid (Below w.heap.size w wr)) (fun i _ => s.size - (intOf i).toNat)
    case atStart => exact ⟨0, by omega, rfl, Lib.hid rfl, Lib.hid (Below.refl _ _)⟩
    case round =>
      obtain ⟨k, hk, rfl, H, BW⟩ := hrel
      by_cases hlt : k < s.size
      · have hx := s[k].toNat_lt
        have HN := Lib.hid (all_next (p := p) s k hlt H.out)
        have hc := HF.out wr s[k]
        obtain ⟨q, hq⟩ : ∃ q, q = p s[k] := ⟨_, rfl⟩
        rw [← hq] at hc
        have HQ := Lib.hid hq
        clear hq
        cases q
        · have HG : Hid (v = false) := Lib.hid (by rw [HV.out]; exact HN.out.2 HQ.out.symm)
          clear HN
          go_wp2_with (go_at_fn g; refine hc.mono ?_; rintro e w' ⟨rfl, hb'⟩)
          go_ret
          exact ⟨by rw [HG.out]; rfl, hop BW.out hb'⟩
        · have HG := Lib.hid (HN.out.1 HQ.out.symm)
          clear HN
          go_wp2_with (go_at_fn g; refine hc.mono ?_; rintro e w' ⟨rfl, hb'⟩)
          go_roundw
          case rel => exact ⟨k + 1, by omega, by go_num, HG, Lib.hid (hop BW.out hb')⟩
          case measure => simp [intOf]; omega
      · have HG : Hid (v = true) := Lib.hid (by rw [HV.out]; exact all_end s k hlt H.out)
        go_wp2_with fail
        go_ret
        exact ⟨by rw [HG.out]; rfl, BW.out⟩
end Go.Proofs.Ytpiaiibobjlipaa
namespace Go.Proofs.Ytpiaiibobjlipaa
open Go.RowKit
theorem tlow_same (c : UInt8) (w : World) : Calls Try.prog 45 #[.int .u8 (c.toNat : Int)] w fun e w' => e = .returned (.bool (lowB c)) ∧ w' = w := by
  unfold lowB
  have hx := c.toNat_lt
  generalize c.toNat = x at *
  obtain ⟨v, hv⟩ : ∃ v, v = (decide (97 ≤ x) && decide (x ≤ 122)) := ⟨_, rfl⟩
  have hc : (x < 97 ∧ Hid (v = false)) ∨ (97 ≤ x ∧ x ≤ 122 ∧ decide ((x : Int) ≤ 122) = true ∧ Hid (v = true)) ∨ (97 ≤ x ∧ 122 < x ∧ decide ((x : Int) ≤ 122) = false ∧ Hid (v = false)) := by
    by_cases h1 : 97 ≤ x
    · by_cases h2 : x ≤ 122
      · exact .inr (.inl ⟨h1, h2, decide_eq_true (by omega), Lib.hid (by rw [hv, decide_eq_true h1, decide_eq_true h2]; rfl)⟩)
      · exact .inr (.inr ⟨h1, by omega, decide_eq_false (by omega), Lib.hid (by rw [hv, decide_eq_false h2, Bool.and_false])⟩)
    · exact .inl ⟨by omega, Lib.hid (by rw [hv, decide_eq_false h1, Bool.false_and])⟩
  rw [← hv]
  clear hv
  rcases hc with ⟨h1, H⟩ | ⟨h1, h2, h3, H⟩ | ⟨h1, h2, h3, H⟩
  all_goals go_enter Try.func45, Try.ntmps45
  all_goals go_wp2_with fail
  all_goals go_ret
  all_goals exact ⟨by rw [H.out]; first | rfl | (simp [h3]; done), rfl⟩
theorem tlow_any (c : UInt8) (w : World) : Calls Try.prog 45 #[.int .u8 (c.toNat : Int)] w fun e w' => e = .returned (.bool (lowB c)) ∧ Below w.heap.size w w' :=
  (tlow_same c w).mono fun _ _ h => ⟨h.1, h.2 ▸ Below.refl _ _⟩
theorem tblank_any (c : UInt8) (w : World) : Calls Try.prog 44 #[.int .u8 (c.toNat : Int)] w fun e w' => e = .returned (.bool (blankB c)) ∧ Below w.heap.size w w' := by
  have hb : blankB c = (decide (c.toNat = 32) || (decide (c.toNat = 9) || decide (c.toNat = 10))) := by
    have h : ∀ k : UInt8, decide (c = k) = decide (c.toNat = k.toNat) := fun k => by
      by_cases h : c = k
      · rw [h]; simp
      · rw [decide_eq_false h, decide_eq_false (fun e => h (UInt8.toNat_inj.1 e))]
    unfold blankB
    rw [h 32, h 9, h 10]; rfl
  rw [hb]
  clear hb
  have hx := c.toNat_lt
  generalize c.toNat = x at *
  obtain ⟨v, hv⟩ : ∃ v, v = (decide (x = 32) || (decide (x = 9) || decide (x = 10))) := ⟨_, rfl⟩
  have hc : (x = 32 ∧ Hid (v = true)) ∨ (x = 9 ∧ Hid (v = true)) ∨ (x = 10 ∧ Hid (v = true)) ∨ (((¬ (x : Int) = 32) ∧ ((x : Int) == 32) = false) ∧ ((¬ (x : Int) = 9) ∧ ((x : Int) == 9) = false) ∧ ((¬ (x : Int) = 10) ∧ ((x : Int) == 10) = false) ∧ Hid (v = false)) := by
    by_cases h1 : x = 32
    · exact .inl ⟨h1, Lib.hid (by rw [hv, decide_eq_true h1]; rfl)⟩
    · by_cases h2 : x = 9
      · exact .inr (.inl ⟨h2, Lib.hid (by rw [hv, decide_eq_true h2, decide_eq_false h1]; rfl)⟩)
      · by_cases h3 : x = 10
        · exact .inr (.inr (.inl ⟨h3, Lib.hid (by rw [hv, decide_eq_true h3, decide_eq_false h1, decide_eq_false h2]; rfl)⟩))
        · exact .inr (.inr (.inr ⟨⟨by omega, beq_eq_false_iff_ne.2 (by omega)⟩, ⟨by omega, beq_eq_false_iff_ne.2 (by omega)⟩, ⟨by omega, beq_eq_false_iff_ne.2 (by omega)⟩, Lib.hid (by rw [hv, decide_eq_false h1, decide_eq_false h2, decide_eq_false h3]; rfl)⟩))
  rw [← hv]
  clear hv
  rcases hc with ⟨rfl, H⟩ | ⟨rfl, H⟩ | ⟨rfl, H⟩ | ⟨⟨h1, d1⟩, ⟨h2, d2⟩, ⟨h3, d3⟩, H⟩
  all_goals go_enter Try.func44, Try.ntmps44
  all_goals go_wp2_with fail
  all_goals go_ret
  all_goals exact ⟨by rw [H.out]; first | rfl | (simp [d3]; done), Below.refl _ _⟩
theorem tword_any (c : UInt8) (w : World) : Calls Try.prog 46 #[.int .u8 (c.toNat : Int)] w fun e w' => e = .returned (.bool (nmB c)) ∧ Below w.heap.size w w' := by
  have HL := Lib.hid (fun W => tlow_any c W)
  unfold nmB numB
  have hx := c.toNat_lt
  generalize lowB c = a at *
  generalize c.toNat = x at *
  obtain ⟨v, hv⟩ : ∃ v, v = (a || (decide (x = 95) || (decide (48 ≤ x) && decide (x ≤ 57)))) := ⟨_, rfl⟩
  rw [← hv]
  cases a
  · have hc : (x = 95 ∧ Hid (v = true)) ∨ (x < 48 ∧ ((¬ (x : Int) = 95) ∧ ((x : Int) == 95) = false) ∧ Hid (v = false)) ∨ (48 ≤ x ∧ x ≤ 57 ∧ decide ((x : Int) ≤ 57) = true ∧ Hid (v = true)) ∨ (48 ≤ x ∧ 57 < x ∧ decide ((x : Int) ≤ 57) = false ∧ ((¬ (x : Int) = 95) ∧ ((x : Int) == 95) = false) ∧ Hid (v = false)) := by
      by_cases h0 : x = 95
      · exact .inl ⟨h0, Lib.hid (by rw [hv, decide_eq_true h0]; rfl)⟩
      · have hn : (¬ (x : Int) = 95) ∧ ((x : Int) == 95) = false := ⟨by omega, beq_eq_false_iff_ne.2 (by omega)⟩
        by_cases h1 : 48 ≤ x
        · by_cases h2 : x ≤ 57
          · exact .inr (.inr (.inl ⟨h1, h2, decide_eq_true (by omega), Lib.hid (by rw [hv, decide_eq_true h1, decide_eq_true h2]; simp)⟩))
          · exact .inr (.inr (.inr ⟨h1, by omega, decide_eq_false (by omega), hn, Lib.hid (by rw [hv, decide_eq_false h2, decide_eq_false h0]; simp)⟩))
        · exact .inr (.inl ⟨by omega, hn, Lib.hid (by rw [hv, decide_eq_false h1, decide_eq_false h0]; rfl)⟩)
    clear hv
    rcases hc with ⟨rfl, H⟩ | ⟨h1, ⟨h2, h3⟩, H⟩ | ⟨h1, h2, h3, H⟩ | ⟨h1, h2, h3, ⟨h4, h5⟩, H⟩
    · have HL2 : Hid (∀ W, Calls Try.prog 45 #[.int .u8 95] W fun e w' => e = .returned (.bool false) ∧ Below W.heap.size W w') := HL
      clear HL
      show Calls _ _ #[.int .u8 95] _ _
      go_enter Try.func46, Try.ntmps46
      go_wp2_with (go_at_call 45; with_reducible refine (HL2.out _).mono ?_; rintro e w1 ⟨rfl, hb1⟩; have HB1 := Lib.hid hb1; clear hb1)
      go_ret
      exact ⟨by rw [H.out]; rfl, HB1.out⟩
    all_goals go_enter Try.func46, Try.ntmps46
    all_goals go_wp2_with (go_at_call 45; with_reducible refine (HL.out _).mono ?_; rintro e w1 ⟨rfl, hb1⟩; have HB1 := Lib.hid hb1; clear hb1)
    all_goals go_ret
    all_goals exact ⟨by rw [H.out]; first | rfl | (simp [*]; done), HB1.out⟩
  · have H : Hid (v = true) := Lib.hid (by rw [hv]; rfl)
    clear hv
    go_enter Try.func46, Try.ntmps46
    go_wp2_with (go_at_call 45; with_reducible refine (HL.out _).mono ?_; rintro e w1 ⟨rfl, hb1⟩; have HB1 := Lib.hid hb1; clear hb1)
    go_ret
    exact ⟨by rw [H.out]; rfl, HB1.out⟩
def behT (p : UInt8 → Bool) (l : Txt) (i : Nat) : Nat := i + ((l.drop i).takeWhile p).length
theorem beh_next {p : UInt8 → Bool} {l : Txt} {i : Nat} (h : i < l.length) (hb : p l[i] = true) : behT p l i = behT p l (i + 1) := by
  unfold behT
  rw [List.drop_eq_getElem_cons h, List.takeWhile_cons, if_pos hb]
  simp; omega
theorem beh_stop {p : UInt8 → Bool} {l : Txt} {i : Nat} (h : ∀ h : i < l.length, p l[i] = false) : behT p l i = i := by
  unfold behT
  by_cases hlt : i < l.length
  · rw [List.drop_eq_getElem_cons hlt, List.takeWhile_cons, if_neg (by rw [h hlt]; decide)]; rfl
  · rw [List.drop_of_length_le (by omega)]; rfl
set_option maxHeartbeats 800000 in
theorem behind_any (f : Nat) (p : UInt8 → Bool) (g i : Nat) (s : ByteArray) (w : World) (ef : ∀ args w, (callFunc f args).run Try.prog w = .ok (.enter f args) w) (hm : s.size ≤ 9223372036854775807) (hi : i ≤ s.size) (hs : g < w.heap.size ∧ w.cell? ⟨g, 0, none⟩ = some (.string s))
    (hf : ∀ W (c : UInt8), Calls Try.prog f #[.int .u8 (c.toNat : Int)] W fun e w' => e = .returned (.bool (p c)) ∧ Below W.heap.size W w') :
    Calls Try.prog 43 #[.pointer (some ⟨g, 0, none⟩), .int .i64 (i : Int), .func (.func f) #[] #[]] w fun e w' => e = .returned (.int .i64 (behT p s.data.toList i : Nat)) ∧ Below w.heap.size w w' := by
  have HF := Lib.hid hf
  have HC : Hid (∀ w', Below w.heap.size w w' → w'.cell? ⟨g, 0, none⟩ = some (.string s)) := Lib.hid (fun w' hw => by rw [hw.cell (p := ⟨g, 0, none⟩) hs.1]; exact hs.2)
  obtain ⟨v, hv⟩ : ∃ v, v = behT p s.data.toList i := ⟨_, rfl⟩
  rw [← hv]
  have HV := Lib.hid hv
  clear hf hs hv
  go_enter Try.func43, Try.ntmps43
  go_wp2_with fail
  go_loopw [1] (fun i wr => ∃ k : Nat, k ≤ s.size ∧ i = .int .i64 k ∧ Hid (v = behT p s.data.toList k) ∧ Hid (Below w.heap.size w wr)) (fun i _ => s.size - (intOf i).toNat)
  case atStart => exact ⟨i, hi, rfl, HV, Lib.hid (Below.refl _ _)⟩
  case round =>
    obtain ⟨k, hk, rfl, H, BW⟩ := hrel
    have h0 := HC.out _ BW.out
    by_cases hlt : k < s.size
    · have hx := s[k].toNat_lt
      have hc := HF.out wr s[k]
      obtain ⟨q, hq⟩ : ∃ q, q = p s[k] := ⟨_, rfl⟩
      rw [← hq] at hc
      have hlt' : k < s.data.toList.length := by rw [size_list]; exact hlt
      cases q
      · have HG : Hid (v = k) := Lib.hid (by rw [H.out, beh_stop (fun _ => hq.symm)])
        clear hq hlt'
        go_wp2_with (go_at_fn f; refine hc.mono ?_; rintro e w' ⟨rfl, hb'⟩)
        go_ret
        exact ⟨by rw [HG.out]; rfl, hop BW.out hb'⟩
      · have HG : Hid (v = behT p s.data.toList (k + 1)) := Lib.hid (by rw [H.out]; exact beh_next hlt' hq.symm)
        clear hq hlt'
        go_wp2_with (go_at_fn f; refine hc.mono ?_; rintro e w' ⟨rfl, hb'⟩)
        go_roundw
        case rel => exact ⟨k + 1, by omega, by go_num, HG, Lib.hid (hop BW.out hb')⟩
        case measure => simp [intOf]; omega
    · have HG : Hid (v = k) := Lib.hid (by rw [H.out, beh_stop (fun h => absurd h (by rw [size_list]; exact hlt))])
      go_wp2_with fail
      go_ret
      exact ⟨by rw [HG.out]; rfl, BW.out⟩
end Go.Proofs.Ytpiaiibobjlipaa
namespace Go.Proofs.Ytpiaiibobjlipaa
open Go.RowKit
def PAt (W : World) (g : Nat) (s : ByteArray) (i op : Nat) : Prop :=
  Start s.data.toList i ∧ s.size ≤ 4096 ∧ Blk W g [.string s, .int .i64 (i : Int), .int .i64 ((i + tlen (s.data.toList.drop i) : Nat) : Int), .int .i64 (op : Int)] 53
theorem PAt.lt {W : World} {g : Nat} {s : ByteArray} {i op : Nat} (h : PAt W g s i op) : g < W.heap.size := h.2.2.lt
theorem PAt.below {W W' : World} {g : Nat} {s : ByteArray} {i op : Nat} (h : PAt W g s i op) (hb : Below W.heap.size W W') : PAt W' g s i op :=
  ⟨h.1, h.2.1, h.2.2.below hb h.lt⟩
theorem PAt.le {W : World} {g : Nat} {s : ByteArray} {i op : Nat} (h : PAt W g s i op) : i + tlen (s.data.toList.drop i) ≤ s.size := by
  have h1 := h.1.1
  have h2 := tlen_le (s.data.toList.drop i)
  rw [List.length_drop] at h2
  rw [size_list] at h1 h2
  omega
theorem cur_extract (s : ByteArray) (i : Nat) : (.string (s.extract i (i + tlen (s.data.toList.drop i))) : Value) = strV (curT s.data.toList i) := by
  congr 1
  apply ByteArray.ext
  apply Array.toList_inj.1
  rw [extract_list]
  simp only [curT, List.take_drop]
set_option maxHeartbeats 1000000 in
theorem token_any {W : World} {g : Nat} {s : ByteArray} {i op : Nat} (h : PAt W g s i op) :
    Calls Try.prog 66 #[.pointer (some ⟨g, 0, none⟩)] W fun e w' => e = .returned (strV (curT s.data.toList i)) ∧ Below W.heap.size W w' := by
  rw [← cur_extract]
  have hle := h.le
  have hsz := h.2.1
  have x0 := h.2.2.cell (i := 0) (by simp)
  have x1 := h.2.2.cell (i := 1) (by simp)
  have x2 := h.2.2.cell (i := 2) (by simp)
  simp only [List.getElem_cons_succ, List.getElem_cons_zero] at x0 x1 x2
  generalize tlen (s.data.toList.drop i) = n at *
  obtain ⟨j, hj⟩ : ∃ j, j = i + n := ⟨_, rfl⟩
  rw [← hj] at x2 hle ⊢
  have hij : i ≤ j := by omega
  clear h hj
  have c1 : (0 : Int) ≤ (i : Int) := by omega
  have c2 : (i : Int) ≤ (j : Int) := by omega
  have c3 : (j : Int) ≤ (s.size : Int) := by omega
  go_enter Try.func66, Try.ntmps66
  go_wp2_with fail
  go_quiet (fail)
  go_wp2_with fail
  go_ret
  exact ⟨rfl, below_drewN (Below.refl _ _) _⟩
theorem skip_beh (l : Txt) (i : Nat) : skipT l i = behT blankB l i := rfl
theorem enter_blank (args : Array Value) (w : World) : (callFunc 44 args).run Try.prog w = .ok (.enter 44 args) w := by simp [go_sem]
theorem enter_word (args : Array Value) (w : World) : (callFunc 46 args).run Try.prog w = .ok (.enter 46 args) w := by simp [go_sem]
set_option maxHeartbeats 1000000 in
theorem next_tok {W : World} {g : Nat} {s : ByteArray} {i j op : Nat} (hj : j ≤ s.size) (hsz : s.size ≤ 4096) (h : Blk W g [.string s, .int .i64 (i : Int), .int .i64 (j : Int), .int .i64 (op : Int)] 53) :
    Calls Try.prog 23 #[.pointer (some ⟨g, 0, none⟩)] W fun e w' => e = .returned (.tuple #[]) ∧ PAt w' g s (skipT s.data.toList j) op ∧ Spared W w' (onG g) := by
  have HB := Lib.hid h
  have x0 := h.cell (i := 0) (by simp)
  have x1 := h.cell (i := 1) (by simp)
  have x2 := h.cell (i := 2) (by simp)
  simp only [List.getElem_cons_succ, List.getElem_cons_zero] at x0 x1 x2
  have f1 := h.free 1
  have HBE := Lib.hid (behind_any 44 blankB g j s W enter_blank (by omega) hj ⟨h.lt, x0⟩ (fun W c => tblank_any c W))
  rw [← skip_beh] at HBE
  have hj' : j ≤ s.data.toList.length := by rw [size_list]; exact hj
  have HST := Lib.hid (skip_start s.data.toList (s.data.toList.length - j) j (by omega)).1
  have hkl : skipT s.data.toList j ≤ s.size := by have := skip_len hj'; rwa [size_list] at this
  generalize skipT s.data.toList j = k at *
  clear h
  go_enter Try.func23, Try.ntmps23
  go_wp2_with fail
  refine HBE.out.mono ?_
  rintro e w1 ⟨rfl, hb1⟩
  have hB1 := HB.out.below hb1 HB.out.lt
  have y0 := hB1.cell (i := 0) (by simp)
  have y1 := hB1.cell (i := 1) (by simp)
  have y2 := hB1.cell (i := 2) (by simp)
  simp only [List.getElem_cons_succ, List.getElem_cons_zero] at y0 y1 y2
  have z1 := hB1.free 1
  have z2 := hB1.free 2
  have HS1 := Lib.hid ((Spared.of_below hb1 (onG g)).setCell (g := g) rfl 1 (.int .i64 (k : Int)))
  have HB2 := Lib.hid (hB1.set 1 (.int .i64 (k : Int)))
  simp only [List.set_cons_succ, List.set_cons_zero] at HB2
  obtain ⟨w2, hw2⟩ : ∃ w2, w2 = w1.setCell ⟨g, 1, none⟩ (.int .i64 (k : Int)) := ⟨_, rfl⟩
  rw [← hw2] at HS1 HB2
  have HW2 := Lib.hid hw2
  have v0 := HB2.out.cell (i := 0) (by simp)
  have v1 := HB2.out.cell (i := 1) (by simp)
  have v2 := HB2.out.cell (i := 2) (by simp)
  simp only [List.getElem_cons_succ, List.getElem_cons_zero] at v0 v1 v2
  have fz := HB2.out.free 2
  clear hB1 hb1 HBE hw2
  have hlen : s.data.toList.length = s.size := size_list s
  have HFIN : Hid (∀ w3 m, Below w2.heap.size w2 w3 → k + tlen (s.data.toList.drop k) = m → PAt (w3.setCell ⟨g, 2, none⟩ (.int .i64 ((m : Nat) : Int))) g s k op ∧ Spared W (w3.setCell ⟨g, 2, none⟩ (.int .i64 ((m : Nat) : Int))) (onG g)) := Lib.hid (fun w3 m hb hm => by
    refine ⟨⟨HST.out, hsz, ?_⟩, (sp_trans HS1.out (Spared.of_below hb (onG g))).setCell (g := g) rfl 2 _⟩
    have := (HB2.out.below hb HB2.out.lt).set 2 (.int .i64 ((m : Nat) : Int))
    rw [hm]
    simpa using this)
  rcases HST.out.cases with ⟨h1, _, h3, _⟩ | ⟨h1, h2, h7, h8⟩ | ⟨h1, h2, h4, h5, h3, h6⟩ | ⟨h1, h2, h4, h5, h3, h6⟩
  · obtain rfl : k = s.size := by omega
    have HE : Hid (s.size + tlen (s.data.toList.drop s.size) = s.size) := Lib.hid (by omega)
    clear h1 h3 hj' hlen
    go_wp2_with fail
    rw [← HW2.out]
    go_quiet (fail)
    go_wp2_with fail
    go_end0
    exact ⟨rfl, HFIN.out _ _ (below_drewN (Below.refl _ _) _) HE.out⟩
  · have hlt : k < s.size := by omega
    have hx := s[k].toNat_lt
    have hne : ¬ (k : Int) = (s.size : Int) := by omega
    have hnb : ((k : Int) == (s.size : Int)) = false := beq_eq_false_iff_ne.2 hne
    have HL := Lib.hid (fun W => tlow_same s[k] W)
    rw [show lowB s[k] = true from h2] at HL
    have HBW := Lib.hid (fun w3 (h3 : g < w3.heap.size ∧ w3.cell? ⟨g, 0, none⟩ = some (.string s)) => behind_any 46 nmB g k s w3 enter_word (by omega) hkl h3 (fun W c => tword_any c W))
    have HT : Hid (behT nmB s.data.toList k = k + tlen (s.data.toList.drop k)) := Lib.hid (by
      unfold behT
      rw [List.drop_eq_getElem_cons h1, tlen, if_pos h2, List.takeWhile_cons, if_pos (low_nm h2)]
      rfl)
    obtain ⟨m, hm⟩ : ∃ m, m = behT nmB s.data.toList k := ⟨_, rfl⟩
    rw [← hm] at HBW HT
    have HB2L : Hid (g < w2.heap.size) := Lib.hid HB2.out.lt
    clear h7 h8 h1 h2 hm hj' hlen
    go_wp2_with fail
    rw [← HW2.out]
    go_quiet (fail)
    go_wp2_with fail
    generalize hw3 : w2.drewN nq = w3
    have HB3 : Hid (Blk w3 g [.string s, .int .i64 (k : Int), .int .i64 (j : Int), .int .i64 (op : Int)] 53) := by rw [← hw3]; exact Lib.hid (HB2.out.drewN _)
    have HD3 : Hid (Below w2.heap.size w2 w3) := by rw [← hw3]; exact Lib.hid (below_drewN (Below.refl _ _) _)
    have u0 := HB3.out.cell (i := 0) (by simp)
    have u1 := HB3.out.cell (i := 1) (by simp)
    have u2 := HB3.out.cell (i := 2) (by simp)
    simp only [List.getElem_cons_succ, List.getElem_cons_zero] at u0 u1 u2
    clear hw3
    go_quiet (first | (go_at_call 45; refine Calls.quiet_of_same (HL.out _)))
    go_wp2_with fail
    have HB5 := Lib.hid (HB3.out.drewN nq)
    refine (HBW.out _ ⟨HB5.out.lt, HB5.out.cell (i := 0) (by simp)⟩).mono ?_
    rintro e w4 ⟨rfl, hb4⟩
    have HD4 := Lib.hid ((below_drewN HD3.out nq).trans (hb4.mono HD3.out.size))
    have hB4 := HB5.out.below hb4 HB5.out.lt
    have q2 := hB4.cell (i := 2) (by simp)
    simp only [List.getElem_cons_succ, List.getElem_cons_zero] at q2
    have q3 := hB4.free 2
    clear hB4 hb4
    go_wp2_with fail
    go_end0
    exact ⟨rfl, HFIN.out _ _ HD4.out HT.out.symm⟩
  · have hlt : k < s.size := by omega
    have hx := s[k].toNat_lt
    have hne : ¬ (k : Int) = (s.size : Int) := by omega
    have hnb : ((k : Int) == (s.size : Int)) = false := beq_eq_false_iff_ne.2 hne
    have HL := Lib.hid (fun W => tlow_same s[k] W)
    rw [show lowB s[k] = false from h2] at HL
    have HT : Hid (k + tlen (s.data.toList.drop k) = k + 1) := Lib.hid (by rw [h3])
    clear h4 h5 h6 h1 h2 h3 hj' hlen
    go_wp2_with fail
    rw [← HW2.out]
    go_quiet (fail)
    go_wp2_with fail
    generalize hw3 : w2.drewN nq = w3
    have HB3 : Hid (Blk w3 g [.string s, .int .i64 (k : Int), .int .i64 (j : Int), .int .i64 (op : Int)] 53) := by rw [← hw3]; exact Lib.hid (HB2.out.drewN _)
    have HD3 : Hid (Below w2.heap.size w2 w3) := by rw [← hw3]; exact Lib.hid (below_drewN (Below.refl _ _) _)
    have u0 := HB3.out.cell (i := 0) (by simp)
    have u1 := HB3.out.cell (i := 1) (by simp)
    have u2 := HB3.out.cell (i := 2) (by simp)
    have uf := HB3.out.free 2
    simp only [List.getElem_cons_succ, List.getElem_cons_zero] at u0 u1 u2
    clear hw3
    go_quiet (first | (go_at_call 45; refine Calls.quiet_of_same (HL.out _)))
    go_wp2_with fail
    go_end0
    exact ⟨rfl, HFIN.out _ _ (below_drewN HD3.out _) HT.out⟩
  · have hlt : k < s.size := by omega
    have hx := s[k].toNat_lt
    have hne : ¬ (k : Int) = (s.size : Int) := by omega
    have hnb : ((k : Int) == (s.size : Int)) = false := beq_eq_false_iff_ne.2 hne
    have HL := Lib.hid (fun W => tlow_same s[k] W)
    rw [show lowB s[k] = false from h2] at HL
    have HT : Hid (k + tlen (s.data.toList.drop k) = k + 1) := Lib.hid (by rw [h3])
    clear h4 h5 h6 h1 h2 h3 hj' hlen
    go_wp2_with fail
    rw [← HW2.out]
    go_quiet (fail)
    go_wp2_with fail
    generalize hw3 : w2.drewN nq = w3
    have HB3 : Hid (Blk w3 g [.string s, .int .i64 (k : Int), .int .i64 (j : Int), .int .i64 (op : Int)] 53) := by rw [← hw3]; exact Lib.hid (HB2.out.drewN _)
    have HD3 : Hid (Below w2.heap.size w2 w3) := by rw [← hw3]; exact Lib.hid (below_drewN (Below.refl _ _) _)
    have u0 := HB3.out.cell (i := 0) (by simp)
    have u1 := HB3.out.cell (i := 1) (by simp)
    have u2 := HB3.out.cell (i := 2) (by simp)
    have uf := HB3.out.free 2
    simp only [List.getElem_cons_succ, List.getElem_cons_zero] at u0 u1 u2
    clear hw3
    go_quiet (first | (go_at_call 45; refine Calls.quiet_of_same (HL.out _)))
    go_wp2_with fail
    go_end0
    exact ⟨rfl, HFIN.out _ _ (below_drewN HD3.out _) HT.out⟩
end Go.Proofs.Ytpiaiibobjlipaa
namespace Go.Proofs.Ytpiaiibobjlipaa
open Go.RowKit
theorem fold_no : ∀ (x : Txt) (p : Nat × Nat), (∀ c ∈ x, c ≠ 10) → x.foldl stepP p = (p.1, p.2 + x.length)
  | [], p, _ => rfl
  | c :: r, p, h => by
    rw [List.foldl_cons, stepP, if_neg (h c List.mem_cons_self), fold_no r _ (fun y hy => h y (List.mem_cons_of_mem _ hy))]
    simp; omega
theorem fold_line : ∀ (x : Txt) (p : Nat × Nat), (x.foldl stepP p).1 = p.1 + x.count 10
  | [], p => rfl
  | c :: r, p => by
    rw [List.foldl_cons, fold_line r, stepP, List.count_cons]
    by_cases h : c = 10
    · rw [if_pos h, if_pos (beq_iff_eq.2 h)]
      show p.1 + 1 + _ = _
      omega
    · rw [if_neg h, if_neg (by simpa using h)]
      rfl
theorem fold_col {s : ByteArray} : (((s.data.toList.foldl stepP (1, 1)).2 : Nat) : Int) = (s.size : Int) - Lib.lastIndexByte s 10 := by
  have hl : s.data.toList.length = s.size := size_list s
  have hg : ∀ j (h : j < s.data.toList.length), s.data.toList[j] = s.data[j]! := fun j h => by
    have h' : j < s.data.size := by simpa using h
    rw [getElem!_pos s.data j h']
    simp
  have h10 : ∀ c : UInt8, (c.toNat : Int) ≠ 10 → c ≠ 10 := fun c h e => h (by rw [e]; rfl)
  rcases Lib.lastIndexByte_spec s 10 with ⟨h1, h2⟩ | ⟨i, hi, h1, h2, h3⟩
  · rw [h1, fold_no _ _ (fun c hc => ?_)]
    · show ((1 + s.data.toList.length : Nat) : Int) = _
      rw [hl]; omega
    · obtain ⟨j, hj, rfl⟩ := List.getElem_of_mem hc
      rw [hg j hj]
      exact h10 _ (h2 j (by omega))
  · have hi' : i < s.data.toList.length := by omega
    have e : s.data.toList = s.data.toList.take (i + 1) ++ s.data.toList.drop (i + 1) := (List.take_append_drop _ _).symm
    rw [h1, e, List.foldl_append, List.take_succ_eq_append_getElem hi', List.foldl_append, fold_no _ _ (fun c hc => ?_)]
    · have h4 : s.data.toList[i] = 10 := by
        rw [hg i hi']
        exact UInt8.toNat_inj.1 (by have := h2; show _ = 10; omega)
      rw [h4]
      show (((stepP _ 10).2 + (s.data.toList.drop (i + 1)).length : Nat) : Int) = _
      rw [stepP, if_pos rfl, List.length_drop, hl]
      show ((1 + (s.size - (i + 1)) : Nat) : Int) = _
      omega
    · obtain ⟨j, hj, rfl⟩ := List.getElem_of_mem hc
      rw [List.getElem_drop, hg _ (by rw [List.length_drop] at hj; omega)]
      exact h10 _ (h3 _ (by omega) (by rw [List.length_drop] at hj; omega))
theorem posT_eq {s : ByteArray} {i : Nat} (h : i ≤ s.size) : (((posT s.data.toList i).1 : Nat) : Int) = (Lib.countByte (s.extract 0 i).data.toList 10 : Nat) + 1 ∧ (((posT s.data.toList i).2 : Nat) : Int) = (i : Int) - Lib.lastIndexByte (s.extract 0 i) 10 := by
  have e : s.data.toList.take i = (s.extract 0 i).data.toList := by rw [extract_list, List.drop_zero]
  have hs : (s.extract 0 i).size = i := by rw [← size_list, ← e, List.length_take, size_list]; omega
  unfold posT
  rw [e]
  constructor
  · rw [fold_line, Lib.countByte]
    show ((1 + _ : Nat) : Int) = _
    omega
  · rw [fold_col, hs]
set_option maxHeartbeats 1000000 in
theorem position_any {W : World} {g i : Nat} {s : ByteArray} (hg : g < W.heap.size ∧ W.cell? ⟨g, 0, none⟩ = some (.string s)) (hs : s.size ≤ 4096) (hi : i ≤ s.size) :
    Calls Try.prog 89 #[.pointer (some ⟨g, 0, none⟩), .int .i64 (i : Int)] W fun e w' => e = .returned (.tuple #[.int .i64 ((posT s.data.toList i).1 : Int), .int .i64 ((posT s.data.toList i).2 : Int)]) ∧ Below W.heap.size W w' := by
  obtain ⟨h1, h2⟩ := posT_eq hi
  have hle := posT_le s.data.toList i
  have x0 := hg.2
  have HC := Lib.hid (fun w => Try.strings_Count_one (s.extract 0 i) 10 w)
  have HL := Lib.hid (fun w => Try.strings_LastIndex_one (s.extract 0 i) ⟨#[10]⟩ rfl (by rw [← size_list, extract_list]; simp; omega) w)
  have e2 : Lib.lastIndexByte (s.extract 0 i) ((((⟨#[10]⟩ : ByteArray)[0]'(by decide)).toNat : Nat) : Int) = (i : Int) - ((posT s.data.toList i).2 : Int) := by
    show Lib.lastIndexByte (s.extract 0 i) 10 = _
    omega
  rw [e2] at HL
  generalize (posT s.data.toList i).2 = p2 at *
  generalize (posT s.data.toList i).1 = p1 at *
  generalize Lib.countByte (s.extract 0 i).data.toList 10 = n at *
  obtain rfl : p1 = n + 1 := by omega
  have hn : n ≤ 4096 := by omega
  have hp : p2 ≤ 4097 := by omega
  clear e2
  have c0 : (0 : Int) ≤ (i : Int) := by omega
  have c1 : (i : Int) ≤ (s.size : Int) := by omega
  clear hg h1 h2 hle
  go_enter Try.func89, Try.ntmps89
  go_wp2_with (first
    | (go_at_call 97; refine (HC.out _).mono ?_; rintro e w1 ⟨rfl, rfl⟩)
    | (go_at_call 98; refine (HL.out _).mono ?_; rintro e w2 ⟨rfl, rfl⟩))
  refine bodyPost_ret (v := .tuple #[.int .i64 ((n + 1 : Nat) : Int), .int .i64 (p2 : Int)]) (by simp [results, Try.results89, go_sem]; omega) rfl ?_
  exact ⟨rfl, Below.refl _ _⟩
abbrev fault (d : Dg) : Ending := .panicked [{ v := .iface 28 (.agg #[.int .i64 (d.1 : Int), .int .i64 (d.2.1 : Int), .int .i64 (d.2.2 : Int)]), recovered := false }]
set_option maxHeartbeats 1000000 in
theorem pfail_any {W : World} {g i : Nat} {s : ByteArray} (hg : g < W.heap.size ∧ W.cell? ⟨g, 0, none⟩ = some (.string s)) (hs : s.size ≤ 4096) (hi : i ≤ s.size) (e : Nat) :
    Calls Try.prog 70 #[.pointer (some ⟨g, 0, none⟩), .int .i64 (i : Int), .int .i64 (e : Int)] W fun r w' => r = fault ((posT s.data.toList i).1, (posT s.data.toList i).2, e) ∧ Below W.heap.size W w' := by
  have HP := Lib.hid (position_any hg hs hi)
  generalize (posT s.data.toList i).2 = p2 at *
  generalize (posT s.data.toList i).1 = p1 at *
  clear hg
  go_enter Try.func70, Try.ntmps70
  go_wp2_with (go_at_call 89; refine HP.out.mono ?_; rintro r w1 ⟨rfl, hb1⟩)
  exact ⟨rfl, rfl, hb1⟩
end Go.Proofs.Ytpiaiibobjlipaa
namespace Go.Proofs.Ytpiaiibobjlipaa
open Go.RowKit
theorem nameL_of (l : List UInt8) : nameL l = (consL nmB 16 l && (lowB (l.getD 0 0) && !resL l)) := by
  unfold nameL consL resL nameBad
  by_cases h1 : l.length = 0
  · simp [h1]
  · by_cases h2 : 16 < l.length
    · simp [h2]
    · by_cases h3 : l = typeW
      · simp [h3]
      · by_cases h4 : l = relW
        · simp [h4]
        · by_cases h5 : l = defW
          · simp [h5]
          · simp only [h1, h2, h3, h4, h5, or_self, decide_false, Bool.not_false, Bool.true_and, beq_eq_false_iff_ne.2 h3, beq_eq_false_iff_ne.2 h4, beq_eq_false_iff_ne.2 h5, Bool.or_self, Bool.and_true]
            exact Bool.and_comm _ _
theorem consL_len {p : UInt8 → Bool} {m : Nat} {l : List UInt8} (h : consL p m l = true) : 0 < l.length := by
  unfold consL at h
  by_cases hb : l.length = 0 ∨ m < l.length
  · rw [decide_eq_true hb] at h; cases h
  · omega
theorem enter_nameC (args : Array Value) (w : World) : (callFunc 77 args).run Try.prog w = .ok (.enter 77 args) w := by simp [go_sem]
set_option maxHeartbeats 400000 in
theorem name_of (s : ByteArray) (w : World) (hm : s.size ≤ 9223372036854775807) :
    Calls Try.prog 61 #[.string s] w fun e w' => e = .returned (.bool (nameL s.data.toList)) ∧ Below w.heap.size w w' := by
  rw [nameL_of]
  have hC := fun W => consists_any 77 nmB 16 s W enter_nameC hm (by omega) (fun W c => nameC_any c W)
  have hR := fun W => reserved_any s W
  have hl := fun h : consL nmB 16 s.data.toList = true => consL_len h
  generalize consL nmB 16 s.data.toList = x at *
  generalize resL s.data.toList = y at *
  have HC : Hid (∀ W, Calls Try.prog 76 #[.string s, .int .i64 16, .func (.func 77) #[] #[]] W fun e w' => e = .returned (.bool x) ∧ Below W.heap.size W w') := Lib.hid hC
  have HR := Lib.hid hR
  clear hC hR
  cases x
  · clear hl
    go_enter Try.func61, Try.ntmps61
    go_wp2_with (go_at_call 76; with_reducible refine (HC.out _).mono ?_; rintro e w1 ⟨rfl, hb1⟩; have HB1 := Lib.hid hb1; clear hb1)
    go_ret
    exact ⟨rfl, HB1.out⟩
  · have h0 : 0 < s.size := by have := hl rfl; rwa [size_list] at this
    rw [getD_list s 0 h0]
    clear hl
    have hx := s[0].toNat_lt
    have HL := Lib.hid (fun W => low_any s[0] W)
    generalize lowB s[0] = z at *
    cases z
    · go_enter Try.func61, Try.ntmps61
      go_wp2_with (first
        | (go_at_call 76; with_reducible refine (HC.out _).mono ?_; rintro e w1 ⟨rfl, hb1⟩; have HB1 := Lib.hid hb1; clear hb1)
        | (go_at_call 78; with_reducible refine (HL.out _).mono ?_; rintro e w2 ⟨rfl, hb2⟩; have HB2 := Lib.hid (hop HB1.out hb2); clear hb2))
      go_ret
      exact ⟨rfl, HB2.out⟩
    · cases y
      all_goals go_enter Try.func61, Try.ntmps61
      all_goals go_wp2_with (first
        | (go_at_call 76; with_reducible refine (HC.out _).mono ?_; rintro e w1 ⟨rfl, hb1⟩; have HB1 := Lib.hid hb1; clear hb1)
        | (go_at_call 78; with_reducible refine (HL.out _).mono ?_; rintro e w2 ⟨rfl, hb2⟩; have HB2 := Lib.hid (hop HB1.out hb2); clear hb2)
        | (go_at_call 80; with_reducible refine (HR.out _).mono ?_; rintro e w3 ⟨rfl, hb3⟩; have HB3 := Lib.hid (hop HB2.out hb3); clear hb3))
      all_goals go_ret
      all_goals exact ⟨rfl, HB3.out⟩
theorem name_any (l : Txt) (w : World) (hm : l.length ≤ 9223372036854775807) :
    Calls Try.prog 61 #[strV l] w fun e w' => e = .returned (.bool (nameL l)) ∧ Below w.heap.size w w' := by
  have h := name_of ⟨l.toArray⟩ w (by simpa [ByteArray.size] using hm)
  simpa using h
end Go.Proofs.Ytpiaiibobjlipaa
