/-
  What the program's Name and ID come to. Condition: a string's length fits an int.
  What the program's Name comes to, on a list. Condition: a string's length fits an int.
  What the program's ID comes to, on a list. Condition: a string's length fits an int.
  What the document's ShowObject, ShowSubject and ShowTuple come to. Condition: a string's length fits an int.
-/
import Derived.Test.YtehabjiacgibpaaGreatCFlat
import Derived.Shelf.Abstract
import Derived.Test.YtehabjiacgibpaaGreatCTuE
namespace Go.Proofs.YtehabjiacgibpaaGreat
open Go.RowKit
theorem low_any (c : UInt8) (w : World) : Calls Tryz.prog 110 #[.int .u8 (c.toNat : Int)] w fun e w' => e = .returned (.bool (lowB c)) ∧ Below w.heap.size w w' := by
  unfold lowB
  have hx := c.toNat_lt
  generalize c.toNat = x at *
  obtain ⟨v, hv⟩ : ∃ v, v = (decide (97 ≤ x) && decide (x ≤ 122)) := ⟨_, rfl⟩
  have hc : (x < 97 ∧ Hid (v = false)) ∨ (97 ≤ x ∧ x ≤ 122 ∧ decide ((x : Int) ≤ 122) = true ∧ Hid (v = true)) ∨ (97 ≤ x ∧ 122 < x ∧ decide ((x : Int) ≤ 122) = false ∧ Hid (v = false)) := by
    by_cases h1 : 97 ≤ x
    · by_cases h2 : x ≤ 122
      · exact .inr (.inl ⟨h1, h2, decide_eq_true (by omega), Lib.hid (by rw [hv, decide_eq_true h1, decide_eq_true h2]; rfl)⟩)
      · exact .inr (.inr ⟨h1, by omega, decide_eq_false (by omega), Lib.hid (by rw [hv, decide_eq_false h2, Bool.and_false])⟩)
    · exact .inl ⟨by omega, Lib.hid (by rw [hv, decide_eq_false h1, Bool.false_and])⟩
  rw [← hv]
  clear hv
  rcases hc with ⟨h1, H⟩ | ⟨h1, h2, h3, H⟩ | ⟨h1, h2, h3, H⟩
  all_goals go_enter Tryz.func110, Tryz.ntmps110
  all_goals go_wp2_with fail
  all_goals go_ret
  all_goals exact ⟨by rw [H.out]; first | rfl | (simp [h3]; done), Below.refl _ _⟩
theorem dig_any (c : UInt8) (w : World) : Calls Tryz.prog 111 #[.int .u8 (c.toNat : Int)] w fun e w' => e = .returned (.bool (numB c)) ∧ Below w.heap.size w w' := by
  unfold numB
  have hx := c.toNat_lt
  generalize c.toNat = x at *
  obtain ⟨v, hv⟩ : ∃ v, v = (decide (48 ≤ x) && decide (x ≤ 57)) := ⟨_, rfl⟩
  have hc : (x < 48 ∧ Hid (v = false)) ∨ (48 ≤ x ∧ x ≤ 57 ∧ decide ((x : Int) ≤ 57) = true ∧ Hid (v = true)) ∨ (48 ≤ x ∧ 57 < x ∧ decide ((x : Int) ≤ 57) = false ∧ Hid (v = false)) := by
    by_cases h1 : 48 ≤ x
    · by_cases h2 : x ≤ 57
      · exact .inr (.inl ⟨h1, h2, decide_eq_true (by omega), Lib.hid (by rw [hv, decide_eq_true h1, decide_eq_true h2]; rfl)⟩)
      · exact .inr (.inr ⟨h1, by omega, decide_eq_false (by omega), Lib.hid (by rw [hv, decide_eq_false h2, Bool.and_false])⟩)
    · exact .inl ⟨by omega, Lib.hid (by rw [hv, decide_eq_false h1, Bool.false_and])⟩
  rw [← hv]
  clear hv
  rcases hc with ⟨h1, H⟩ | ⟨h1, h2, h3, H⟩ | ⟨h1, h2, h3, H⟩
  all_goals go_enter Tryz.func111, Tryz.ntmps111
  all_goals go_wp2_with fail
  all_goals go_ret
  all_goals exact ⟨by rw [H.out]; first | rfl | (simp [h3]; done), Below.refl _ _⟩
def resL (l : List UInt8) : Bool := l == typeW || (l == relW || l == defW)
theorem reserved_any (s : ByteArray) (w : World) : Calls Tryz.prog 112 #[.string s] w fun e w' => e = .returned (.bool (resL s.data.toList)) ∧ Below w.heap.size w w' := by
  rw [← toList_data]
  generalize hl : s.toList = l
  have hc : l = typeW ∨ l = relW ∨ l = defW ∨ (¬ l = typeW ∧ ¬ l = relW ∧ ¬ l = defW) := by
    by_cases h1 : l = typeW
    · exact .inl h1
    · by_cases h2 : l = relW
      · exact .inr (.inl h2)
      · by_cases h3 : l = defW
        · exact .inr (.inr (.inl h3))
        · exact .inr (.inr (.inr ⟨h1, h2, h3⟩))
  subst hl
  rcases hc with h | h | h | ⟨h1, h2, h3⟩
  · rw [h]
    have e1 : s.toList = [116, 121, 112, 101] := h
    clear h
    go_enter Tryz.func112, Tryz.ntmps112
    go_wp2_with fail
    go_ret
    exact ⟨rfl, Below.refl _ _⟩
  · rw [h]
    have e1 : s.toList = [114, 101, 108, 97, 116, 105, 111, 110] := h
    clear h
    go_enter Tryz.func112, Tryz.ntmps112
    go_wp2_with fail
    go_ret
    exact ⟨rfl, Below.refl _ _⟩
  · rw [h]
    have e1 : s.toList = [100, 101, 102, 105, 110, 101] := h
    clear h
    go_enter Tryz.func112, Tryz.ntmps112
    go_wp2_with fail
    go_ret
    exact ⟨rfl, Below.refl _ _⟩
  · have n1 : (s.toList == [116, 121, 112, 101]) = false := beq_eq_false_iff_ne.2 h1
    have n2 : (s.toList == [114, 101, 108, 97, 116, 105, 111, 110]) = false := beq_eq_false_iff_ne.2 h2
    have n3 : (s.toList == [100, 101, 102, 105, 110, 101]) = false := beq_eq_false_iff_ne.2 h3
    have hR : Hid (resL s.toList = false) := Lib.hid (by simp [resL, h1, h2, h3])
    clear h1 h2 h3
    go_enter Tryz.func112, Tryz.ntmps112
    go_wp2_with fail
    go_ret
    exact ⟨by rw [hR.out]; rfl, Below.refl _ _⟩
theorem nameC_any (c : UInt8) (w : World) : Calls Tryz.prog 109 #[.int .u8 (c.toNat : Int)] w fun e w' => e = .returned (.bool (nmB c)) ∧ Below w.heap.size w w' := by
  have HL := Lib.hid (fun W => low_any c W)
  have HD := Lib.hid (fun W => dig_any c W)
  have hn : nmB c = (lowB c || (numB c || decide (c.toNat = 95))) := by unfold nmB; cases lowB c <;> cases numB c <;> simp
  rw [hn]
  clear hn
  have hx := c.toNat_lt
  generalize lowB c = a at *
  generalize numB c = b at *
  generalize c.toNat = x at *
  cases a
  · cases b
    · by_cases h95 : x = 95
      · subst h95
        have HL2 : Hid (∀ W, Calls Tryz.prog 110 #[.int .u8 95] W fun e w' => e = .returned (.bool false) ∧ Below W.heap.size W w') := HL
        have HD2 : Hid (∀ W, Calls Tryz.prog 111 #[.int .u8 95] W fun e w' => e = .returned (.bool false) ∧ Below W.heap.size W w') := HD
        clear HL HD
        show Calls _ _ #[.int .u8 95] _ _
        go_enter Tryz.func109, Tryz.ntmps109
        go_wp2_with (first
          | (go_at_call 110; with_reducible refine (HL2.out _).mono ?_; rintro e w1 ⟨rfl, hb1⟩; have HB1 := Lib.hid hb1; clear hb1)
          | (go_at_call 111; with_reducible refine (HD2.out _).mono ?_; rintro e w2 ⟨rfl, hb2⟩; have HB2 := Lib.hid hb2; clear hb2))
        go_ret
        exact ⟨rfl, hop HB1.out HB2.out⟩
      · have e1 : ¬ (x : Int) = 95 := by omega
        have e2 : decide (x = 95) = false := decide_eq_false h95
        rw [e2]
        clear h95 e2
        go_enter Tryz.func109, Tryz.ntmps109
        go_wp2_with (first
          | (go_at_call 110; with_reducible refine (HL.out _).mono ?_; rintro e w1 ⟨rfl, hb1⟩; have HB1 := Lib.hid hb1; clear hb1)
          | (go_at_call 111; with_reducible refine (HD.out _).mono ?_; rintro e w2 ⟨rfl, hb2⟩; have HB2 := Lib.hid hb2; clear hb2))
        go_ret
        exact ⟨by simp [e1], hop HB1.out HB2.out⟩
    · go_enter Tryz.func109, Tryz.ntmps109
      go_wp2_with (first
        | (go_at_call 110; with_reducible refine (HL.out _).mono ?_; rintro e w1 ⟨rfl, hb1⟩; have HB1 := Lib.hid hb1; clear hb1)
        | (go_at_call 111; with_reducible refine (HD.out _).mono ?_; rintro e w2 ⟨rfl, hb2⟩; have HB2 := Lib.hid hb2; clear hb2))
      go_ret
      exact ⟨by simp, hop HB1.out HB2.out⟩
  · go_enter Tryz.func109, Tryz.ntmps109
    go_wp2_with (go_at_call 110; with_reducible refine (HL.out _).mono ?_; rintro e w1 ⟨rfl, hb1⟩; have HB1 := Lib.hid hb1; clear hb1)
    go_ret
    exact ⟨by simp, HB1.out⟩
def consL (p : UInt8 → Bool) (most : Nat) (l : List UInt8) : Bool := !decide (l.length = 0 ∨ most < l.length) && l.all p
set_option maxHeartbeats 800000 in
theorem consists_any (g : Nat) (p : UInt8 → Bool) (most : Nat) (s : ByteArray) (w : World) (eg : ∀ args w, (callFunc g args).run Tryz.prog w = .ok (.enter g args) w) (hm : s.size ≤ 9223372036854775807) (hmo : most ≤ 1000)
    (hf : ∀ W (c : UInt8), Calls Tryz.prog g #[.int .u8 (c.toNat : Int)] W fun e w' => e = .returned (.bool (p c)) ∧ Below W.heap.size W w') :
    Calls Tryz.prog 108 #[.string s, .int .i64 most, .func (.func g) #[] #[]] w fun e w' => e = .returned (.bool (consL p most s.data.toList)) ∧ Below w.heap.size w w' := by
  have HF := Lib.hid hf
  clear hf
  by_cases hb : s.data.toList.length = 0 ∨ most < s.data.toList.length
  · have hC : consL p most s.data.toList = false := by rw [consL, decide_eq_true hb]; rfl
    rw [hC]
    rw [size_list] at hb
    clear hC
    have hc : s.size < 1 ∨ (1 ≤ s.size ∧ most < s.size) := by omega
    clear hb
    rcases hc with h1 | ⟨h1, h2⟩
    all_goals go_enter Tryz.func108, Tryz.ntmps108
    all_goals go_wp2_with fail
    all_goals go_ret
    all_goals exact ⟨rfl, Below.refl _ _⟩
  · have hC : consL p most s.data.toList = s.data.toList.all p := by rw [consL, decide_eq_false hb]; rfl
    rw [hC]
    rw [size_list] at hb
    clear hC
    obtain ⟨v, hv⟩ : ∃ v, v = s.data.toList.all p := ⟨_, rfl⟩
    rw [← hv]
    have HV := Lib.hid hv
    have h1 : 1 ≤ s.size := by omega
    have h2 : s.size ≤ most := by omega
    have h3 : decide (most < s.size) = false := decide_eq_false (by omega)
    have h4 : decide ((s.size : Int) < 1) = false := decide_eq_false (by omega)
    clear hb hv
    go_enter Tryz.func108, Tryz.ntmps108
    go_wp2_with fail
    go_loopw [19] (fun i wr => ∃ k : Nat, k ≤ s.size ∧ i = .int .i64 k ∧ Hid ((s.data.toList.take k).all p = true) ∧ Hid (Below w.heap.size w wr)) (fun i _ => s.size - (intOf i).toNat)
    case atStart => exact ⟨0, by omega, rfl, Lib.hid rfl, Lib.hid (Below.refl _ _)⟩
    case round =>
      obtain ⟨k, hk, rfl, H, BW⟩ := hrel
      by_cases hlt : k < s.size
      · have hx := s[k].toNat_lt
        have HN := Lib.hid (all_next (p := p) s k hlt H.out)
        have hc := HF.out wr s[k]
        obtain ⟨q, hq⟩ : ∃ q, q = p s[k] := ⟨_, rfl⟩
        rw [← hq] at hc
        have HQ := Lib.hid hq
        clear hq
        cases q
        · have HG : Hid (v = false) := Lib.hid (by rw [HV.out]; exact HN.out.2 HQ.out.symm)
          clear HN
          go_wp2_with (go_at_fn g; refine hc.mono ?_; rintro e w' ⟨rfl, hb'⟩)
          go_ret
          exact ⟨by rw [HG.out]; rfl, hop BW.out hb'⟩
        · have HG := Lib.hid (HN.out.1 HQ.out.symm)
          clear HN
          go_wp2_with (go_at_fn g; refine hc.mono ?_; rintro e w' ⟨rfl, hb'⟩)
          go_roundw
          case rel => exact ⟨k + 1, by omega, by go_num, HG, Lib.hid (hop BW.out hb')⟩
          case measure => simp [intOf]; omega
      · have HG : Hid (v = true) := Lib.hid (by rw [HV.out]; exact all_end s k hlt H.out)
        go_wp2_with fail
        go_ret
        exact ⟨by rw [HG.out]; rfl, BW.out⟩
end Go.Proofs.YtehabjiacgibpaaGreat
namespace Go.Proofs.YtehabjiacgibpaaGreat
open Go.RowKit
theorem nameL_of (l : List UInt8) : nameL l = (consL nmB 16 l && (lowB (l.getD 0 0) && !resL l)) := by
  unfold nameL consL resL nameBad
  by_cases h1 : l.length = 0
  · simp [h1]
  · by_cases h2 : 16 < l.length
    · simp [h2]
    · by_cases h3 : l = typeW
      · simp [h3]
      · by_cases h4 : l = relW
        · simp [h4]
        · by_cases h5 : l = defW
          · simp [h5]
          · simp only [h1, h2, h3, h4, h5, or_self, decide_false, Bool.not_false, Bool.true_and, beq_eq_false_iff_ne.2 h3, beq_eq_false_iff_ne.2 h4, beq_eq_false_iff_ne.2 h5, Bool.or_self, Bool.and_true]
            exact Bool.and_comm _ _
theorem consL_len {p : UInt8 → Bool} {m : Nat} {l : List UInt8} (h : consL p m l = true) : 0 < l.length := by
  unfold consL at h
  by_cases hb : l.length = 0 ∨ m < l.length
  · rw [decide_eq_true hb] at h; cases h
  · omega
theorem enter_nameC (args : Array Value) (w : World) : (callFunc 109 args).run Tryz.prog w = .ok (.enter 109 args) w := by simp [go_sem]
set_option maxHeartbeats 400000 in
theorem name_of (s : ByteArray) (w : World) (hm : s.size ≤ 9223372036854775807) :
    Calls Tryz.prog 91 #[.string s] w fun e w' => e = .returned (.bool (nameL s.data.toList)) ∧ Below w.heap.size w w' := by
  rw [nameL_of]
  have hC := fun W => consists_any 109 nmB 16 s W enter_nameC hm (by omega) (fun W c => nameC_any c W)
  have hR := fun W => reserved_any s W
  have hl := fun h : consL nmB 16 s.data.toList = true => consL_len h
  generalize consL nmB 16 s.data.toList = x at *
  generalize resL s.data.toList = y at *
  have HC : Hid (∀ W, Calls Tryz.prog 108 #[.string s, .int .i64 16, .func (.func 109) #[] #[]] W fun e w' => e = .returned (.bool x) ∧ Below W.heap.size W w') := Lib.hid hC
  have HR := Lib.hid hR
  clear hC hR
  cases x
  · clear hl
    go_enter Tryz.func91, Tryz.ntmps91
    go_wp2_with (go_at_call 108; with_reducible refine (HC.out _).mono ?_; rintro e w1 ⟨rfl, hb1⟩; have HB1 := Lib.hid hb1; clear hb1)
    go_ret
    exact ⟨rfl, HB1.out⟩
  · have h0 : 0 < s.size := by have := hl rfl; rwa [size_list] at this
    rw [getD_list s 0 h0]
    clear hl
    have hx := s[0].toNat_lt
    have HL := Lib.hid (fun W => low_any s[0] W)
    generalize lowB s[0] = z at *
    cases z
    · go_enter Tryz.func91, Tryz.ntmps91
      go_wp2_with (first
        | (go_at_call 108; with_reducible refine (HC.out _).mono ?_; rintro e w1 ⟨rfl, hb1⟩; have HB1 := Lib.hid hb1; clear hb1)
        | (go_at_call 110; with_reducible refine (HL.out _).mono ?_; rintro e w2 ⟨rfl, hb2⟩; have HB2 := Lib.hid (hop HB1.out hb2); clear hb2))
      go_ret
      exact ⟨rfl, HB2.out⟩
    · cases y
      all_goals go_enter Tryz.func91, Tryz.ntmps91
      all_goals go_wp2_with (first
        | (go_at_call 108; with_reducible refine (HC.out _).mono ?_; rintro e w1 ⟨rfl, hb1⟩; have HB1 := Lib.hid hb1; clear hb1)
        | (go_at_call 110; with_reducible refine (HL.out _).mono ?_; rintro e w2 ⟨rfl, hb2⟩; have HB2 := Lib.hid (hop HB1.out hb2); clear hb2)
        | (go_at_call 112; with_reducible refine (HR.out _).mono ?_; rintro e w3 ⟨rfl, hb3⟩; have HB3 := Lib.hid (hop HB2.out hb3); clear hb3))
      all_goals go_ret
      all_goals exact ⟨rfl, HB3.out⟩
theorem name_any (l : Txt) (w : World) (hm : l.length ≤ 9223372036854775807) :
    Calls Tryz.prog 91 #[strV l] w fun e w' => e = .returned (.bool (nameL l)) ∧ Below w.heap.size w w' := by
  have h := name_of ⟨l.toArray⟩ w (by simpa [ByteArray.size] using hm)
  simpa using h
end Go.Proofs.YtehabjiacgibpaaGreat
namespace Go.Proofs.YtehabjiacgibpaaGreat
open Go.RowKit
theorem upp_any (c : UInt8) (w : World) : Calls Tryz.prog 117 #[.int .u8 (c.toNat : Int)] w fun e w' => e = .returned (.bool (uppB c)) ∧ Below w.heap.size w w' := by
  unfold uppB
  have hx := c.toNat_lt
  generalize c.toNat = x at *
  obtain ⟨v, hv⟩ : ∃ v, v = (decide (65 ≤ x) && decide (x ≤ 90)) := ⟨_, rfl⟩
  have hc : (x < 65 ∧ Hid (v = false)) ∨ (65 ≤ x ∧ x ≤ 90 ∧ decide ((x : Int) ≤ 90) = true ∧ Hid (v = true)) ∨ (65 ≤ x ∧ 90 < x ∧ decide ((x : Int) ≤ 90) = false ∧ Hid (v = false)) := by
    by_cases h1 : 65 ≤ x
    · by_cases h2 : x ≤ 90
      · exact .inr (.inl ⟨h1, h2, decide_eq_true (by omega), Lib.hid (by rw [hv, decide_eq_true h1, decide_eq_true h2]; rfl)⟩)
      · exact .inr (.inr ⟨h1, by omega, decide_eq_false (by omega), Lib.hid (by rw [hv, decide_eq_false h2, Bool.and_false])⟩)
    · exact .inl ⟨by omega, Lib.hid (by rw [hv, decide_eq_false h1, Bool.false_and])⟩
  rw [← hv]
  clear hv
  rcases hc with ⟨h1, H⟩ | ⟨h1, h2, h3, H⟩ | ⟨h1, h2, h3, H⟩
  all_goals go_enter Tryz.func117, Tryz.ntmps117
  all_goals go_wp2_with fail
  all_goals go_ret
  all_goals exact ⟨by rw [H.out]; first | rfl | (simp [h3]; done), Below.refl _ _⟩
theorem idC_any (c : UInt8) (w : World) : Calls Tryz.prog 116 #[.int .u8 (c.toNat : Int)] w fun e w' => e = .returned (.bool (idB c)) ∧ Below w.heap.size w w' := by
  have HL := Lib.hid (fun W => low_any c W)
  have HU := Lib.hid (fun W => upp_any c W)
  have HD := Lib.hid (fun W => dig_any c W)
  unfold idB
  have hx := c.toNat_lt
  generalize lowB c = a at *
  generalize uppB c = b at *
  generalize numB c = d at *
  generalize c.toNat = x at *
  cases a
  · cases b
    · cases d
      · by_cases h95 : x = 95
        · skip
          subst h95
          have HL2 : Hid (∀ W, Calls Tryz.prog 110 #[.int .u8 95] W fun e w' => e = .returned (.bool false) ∧ Below W.heap.size W w') := HL
          have HU2 : Hid (∀ W, Calls Tryz.prog 117 #[.int .u8 95] W fun e w' => e = .returned (.bool false) ∧ Below W.heap.size W w') := HU
          have HD2 : Hid (∀ W, Calls Tryz.prog 111 #[.int .u8 95] W fun e w' => e = .returned (.bool false) ∧ Below W.heap.size W w') := HD
          clear HL HU HD
          show Calls _ _ #[.int .u8 95] _ _
          go_enter Tryz.func116, Tryz.ntmps116
          go_wp2_with (first
            | (go_at_call 110; with_reducible refine (HL2.out _).mono ?_; rintro e w1 ⟨rfl, hb1⟩; have HB1 := Lib.hid hb1; clear hb1)
            | (go_at_call 117; with_reducible refine (HU2.out _).mono ?_; rintro e w2 ⟨rfl, hb2⟩; have HB2 := Lib.hid (hop HB1.out hb2); clear hb2)
            | (go_at_call 111; with_reducible refine (HD2.out _).mono ?_; rintro e w3 ⟨rfl, hb3⟩; have HB3 := Lib.hid (hop HB2.out hb3); clear hb3))
          go_ret
          exact ⟨rfl, HB3.out⟩
        · by_cases h46 : x = 46
          · skip
            subst h46
            have HL2 : Hid (∀ W, Calls Tryz.prog 110 #[.int .u8 46] W fun e w' => e = .returned (.bool false) ∧ Below W.heap.size W w') := HL
            have HU2 : Hid (∀ W, Calls Tryz.prog 117 #[.int .u8 46] W fun e w' => e = .returned (.bool false) ∧ Below W.heap.size W w') := HU
            have HD2 : Hid (∀ W, Calls Tryz.prog 111 #[.int .u8 46] W fun e w' => e = .returned (.bool false) ∧ Below W.heap.size W w') := HD
            clear HL HU HD
            show Calls _ _ #[.int .u8 46] _ _
            go_enter Tryz.func116, Tryz.ntmps116
            go_wp2_with (first
              | (go_at_call 110; with_reducible refine (HL2.out _).mono ?_; rintro e w1 ⟨rfl, hb1⟩; have HB1 := Lib.hid hb1; clear hb1)
              | (go_at_call 117; with_reducible refine (HU2.out _).mono ?_; rintro e w2 ⟨rfl, hb2⟩; have HB2 := Lib.hid (hop HB1.out hb2); clear hb2)
              | (go_at_call 111; with_reducible refine (HD2.out _).mono ?_; rintro e w3 ⟨rfl, hb3⟩; have HB3 := Lib.hid (hop HB2.out hb3); clear hb3))
            go_ret
            exact ⟨rfl, HB3.out⟩
          · by_cases h45 : x = 45
            · skip
              subst h45
              have HL2 : Hid (∀ W, Calls Tryz.prog 110 #[.int .u8 45] W fun e w' => e = .returned (.bool false) ∧ Below W.heap.size W w') := HL
              have HU2 : Hid (∀ W, Calls Tryz.prog 117 #[.int .u8 45] W fun e w' => e = .returned (.bool false) ∧ Below W.heap.size W w') := HU
              have HD2 : Hid (∀ W, Calls Tryz.prog 111 #[.int .u8 45] W fun e w' => e = .returned (.bool false) ∧ Below W.heap.size W w') := HD
              clear HL HU HD
              show Calls _ _ #[.int .u8 45] _ _
              go_enter Tryz.func116, Tryz.ntmps116
              go_wp2_with (first
                | (go_at_call 110; with_reducible refine (HL2.out _).mono ?_; rintro e w1 ⟨rfl, hb1⟩; have HB1 := Lib.hid hb1; clear hb1)
                | (go_at_call 117; with_reducible refine (HU2.out _).mono ?_; rintro e w2 ⟨rfl, hb2⟩; have HB2 := Lib.hid (hop HB1.out hb2); clear hb2)
                | (go_at_call 111; with_reducible refine (HD2.out _).mono ?_; rintro e w3 ⟨rfl, hb3⟩; have HB3 := Lib.hid (hop HB2.out hb3); clear hb3))
              go_ret
              exact ⟨rfl, HB3.out⟩
            · have e1 : ¬ (x : Int) = 95 := by omega
              have e2 : ¬ (x : Int) = 46 := by omega
              have e3 : ¬ (x : Int) = 45 := by omega
              rw [decide_eq_false h95, decide_eq_false h46, decide_eq_false h45]
              clear h95 h46 h45
              go_enter Tryz.func116, Tryz.ntmps116
              go_wp2_with (first
                | (go_at_call 110; with_reducible refine (HL.out _).mono ?_; rintro e w1 ⟨rfl, hb1⟩; have HB1 := Lib.hid hb1; clear hb1)
                | (go_at_call 117; with_reducible refine (HU.out _).mono ?_; rintro e w2 ⟨rfl, hb2⟩; have HB2 := Lib.hid (hop HB1.out hb2); clear hb2)
                | (go_at_call 111; with_reducible refine (HD.out _).mono ?_; rintro e w3 ⟨rfl, hb3⟩; have HB3 := Lib.hid (hop HB2.out hb3); clear hb3))
              go_ret
              exact ⟨by simp [e1, e2, e3], HB3.out⟩
      · go_enter Tryz.func116, Tryz.ntmps116
        go_wp2_with (first
          | (go_at_call 110; with_reducible refine (HL.out _).mono ?_; rintro e w1 ⟨rfl, hb1⟩; have HB1 := Lib.hid hb1; clear hb1)
          | (go_at_call 117; with_reducible refine (HU.out _).mono ?_; rintro e w2 ⟨rfl, hb2⟩; have HB2 := Lib.hid (hop HB1.out hb2); clear hb2)
          | (go_at_call 111; with_reducible refine (HD.out _).mono ?_; rintro e w3 ⟨rfl, hb3⟩; have HB3 := Lib.hid (hop HB2.out hb3); clear hb3))
        go_ret
        exact ⟨rfl, HB3.out⟩
    · go_enter Tryz.func116, Tryz.ntmps116
      go_wp2_with (first
        | (go_at_call 110; with_reducible refine (HL.out _).mono ?_; rintro e w1 ⟨rfl, hb1⟩; have HB1 := Lib.hid hb1; clear hb1)
        | (go_at_call 117; with_reducible refine (HU.out _).mono ?_; rintro e w2 ⟨rfl, hb2⟩; have HB2 := Lib.hid (hop HB1.out hb2); clear hb2)
        | (go_at_call 111; with_reducible refine (HD.out _).mono ?_; rintro e w3 ⟨rfl, hb3⟩; have HB3 := Lib.hid (hop HB2.out hb3); clear hb3))
      go_ret
      exact ⟨rfl, HB2.out⟩
  · go_enter Tryz.func116, Tryz.ntmps116
    go_wp2_with (go_at_call 110; with_reducible refine (HL.out _).mono ?_; rintro e w1 ⟨rfl, hb1⟩; have HB1 := Lib.hid hb1; clear hb1)
    go_ret
    exact ⟨rfl, HB1.out⟩
theorem idL_of (l : List UInt8) : idL l = consL idB 24 l := rfl
theorem enter_idC (args : Array Value) (w : World) : (callFunc 116 args).run Tryz.prog w = .ok (.enter 116 args) w := by simp [go_sem]
theorem id_of (s : ByteArray) (w : World) (hm : s.size ≤ 9223372036854775807) :
    Calls Tryz.prog 107 #[.string s] w fun e w' => e = .returned (.bool (idL s.data.toList)) ∧ Below w.heap.size w w' := by
  rw [idL_of]
  have hC := fun W => consists_any 116 idB 24 s W enter_idC hm (by omega) (fun W c => idC_any c W)
  generalize consL idB 24 s.data.toList = x at *
  have HC : Hid (∀ W, Calls Tryz.prog 108 #[.string s, .int .i64 24, .func (.func 116) #[] #[]] W fun e w' => e = .returned (.bool x) ∧ Below W.heap.size W w') := Lib.hid hC
  clear hC
  go_enter Tryz.func107, Tryz.ntmps107
  go_wp2_with (go_at_call 108; with_reducible refine (HC.out _).mono ?_; rintro e w1 ⟨rfl, hb1⟩; have HB1 := Lib.hid hb1; clear hb1)
  go_ret
  exact ⟨rfl, HB1.out⟩
theorem nid_any (l : Txt) (w : World) (hm : l.length ≤ 9223372036854775807) :
    Calls Tryz.prog 107 #[strV l] w fun e w' => e = .returned (.bool (idL l)) ∧ Below w.heap.size w w' := by
  have h := id_of ⟨l.toArray⟩ w (by simpa [ByteArray.size] using hm)
  simpa using h
end Go.Proofs.YtehabjiacgibpaaGreat
namespace Go.Proofs.YtehabjiacgibpaaGreat
open Go.RowKit
def showO (a b : Txt) : Txt := if nameL a && idL b then a ++ ([58] ++ b) else []
theorem showO_len (a b : Txt) : (showO a b).length ≤ 41 := by
  unfold showO
  by_cases h : (nameL a && idL b) = true
  · rw [if_pos h]
    rw [Bool.and_eq_true] at h
    have h1 := (nameL_len h.1).2
    have h2 := (idL_len h.2).2
    simp; omega
  · rw [if_neg h]; simp
def showS (a b r : Txt) : Txt := if showO a b = [] ∨ r = [] then showO a b else if nameL r then showO a b ++ ([35] ++ r) else []
theorem showS_len (a b r : Txt) : (showS a b r).length ≤ 58 := by
  unfold showS
  have h1 := showO_len a b
  by_cases h : showO a b = [] ∨ r = []
  · rw [if_pos h]; omega
  · rw [if_neg h]
    by_cases h2 : nameL r = true
    · rw [if_pos h2]
      have h3 := (nameL_len h2).2
      simp; omega
    · rw [if_neg h2]; simp
def showT (t : Tup) : Txt := if showO t.1 t.2.1 = [] ∨ showS t.2.2.2.1 t.2.2.2.2.1 t.2.2.2.2.2 = [] ∨ nameL t.2.2.1 = false then [] else
  (showO t.1 t.2.1 ++ [35]) ++ t.2.2.1 ++ [64] ++ showS t.2.2.2.1 t.2.2.2.2.1 t.2.2.2.2.2
end Go.Proofs.YtehabjiacgibpaaGreat
