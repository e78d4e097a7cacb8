/-
  What the program's Name and ID come to. Condition: a string's length fits an int.
  What the program's Name comes to, on a list. Condition: a string's length fits an int.
  May an expression be, by the program? Conditions: it is there; what it may have is from 0 to 1,000.
  May a ref, a relation, a type, a schema be, by the program? Conditions: they are there.
  The program's sizes: what is wrong with how much there is of a schema. Condition: the schema is there.
  IndexFunc and ContainsFunc over refs, relations, types: the number of the first that is so; is any so? By the contract of the closure that is asked of one. Conditions: the list is there.
  The program's repetitions: the first name that stands for two things. Conditions: the schema is there; its types are no more than its row has room for.
  A relation without anything, as it lies. No program is named.
-/
import Derived.Test.YtehabjiacgibpaaCFlat
import Derived.Shelf.Abstract
import Derived.Test.YtehabjiacgibpaaCRowT
import Derived.Test.YtehabjiacgibpaaCPaEa
import Derived.Test.YtehabjiacgibpaaCRoO
import Derived.Deep.QuietTactic
import Derived.BigQuiet
namespace Go.Proofs.Ytehabjiacgibpaa
open Go.RowKit
theorem low_any (c : UInt8) (w : World) : Calls Try.prog 82 #[.int .u8 (c.toNat : Int)] w fun e w' => e = .returned (.bool (lowB c)) ∧ Below w.heap.size w w' := by
  unfold lowB
  have hx := c.toNat_lt
  generalize c.toNat = x at *
  obtain ⟨v, hv⟩ : ∃ v, v = (decide (97 ≤ x) && decide (x ≤ 122)) := ⟨_, rfl⟩
  have hc : (x < 97 ∧ Hid (v = false)) ∨ (97 ≤ x ∧ x ≤ 122 ∧ decide ((x : Int) ≤ 122) = true ∧ Hid (v = true)) ∨ (97 ≤ x ∧ 122 < x ∧ decide ((x : Int) ≤ 122) = false ∧ Hid (v = false)) := by
    by_cases h1 : 97 ≤ x
    · by_cases h2 : x ≤ 122
      · exact .inr (.inl ⟨h1, h2, decide_eq_true (by omega), Lib.hid (by rw [hv, decide_eq_true h1, decide_eq_true h2]; rfl)⟩)
      · exact .inr (.inr ⟨h1, by omega, decide_eq_false (by omega), Lib.hid (by rw [hv, decide_eq_false h2, Bool.and_false])⟩)
    · exact .inl ⟨by omega, Lib.hid (by rw [hv, decide_eq_false h1, Bool.false_and])⟩
  rw [← hv]
  clear hv
  rcases hc with ⟨h1, H⟩ | ⟨h1, h2, h3, H⟩ | ⟨h1, h2, h3, H⟩
  all_goals go_enter Try.func82, Try.ntmps82
  all_goals go_wp2_with fail
  all_goals go_ret
  all_goals exact ⟨by rw [H.out]; first | rfl | (simp [h3]; done), Below.refl _ _⟩
theorem dig_any (c : UInt8) (w : World) : Calls Try.prog 83 #[.int .u8 (c.toNat : Int)] w fun e w' => e = .returned (.bool (numB c)) ∧ Below w.heap.size w w' := by
  unfold numB
  have hx := c.toNat_lt
  generalize c.toNat = x at *
  obtain ⟨v, hv⟩ : ∃ v, v = (decide (48 ≤ x) && decide (x ≤ 57)) := ⟨_, rfl⟩
  have hc : (x < 48 ∧ Hid (v = false)) ∨ (48 ≤ x ∧ x ≤ 57 ∧ decide ((x : Int) ≤ 57) = true ∧ Hid (v = true)) ∨ (48 ≤ x ∧ 57 < x ∧ decide ((x : Int) ≤ 57) = false ∧ Hid (v = false)) := by
    by_cases h1 : 48 ≤ x
    · by_cases h2 : x ≤ 57
      · exact .inr (.inl ⟨h1, h2, decide_eq_true (by omega), Lib.hid (by rw [hv, decide_eq_true h1, decide_eq_true h2]; rfl)⟩)
      · exact .inr (.inr ⟨h1, by omega, decide_eq_false (by omega), Lib.hid (by rw [hv, decide_eq_false h2, Bool.and_false])⟩)
    · exact .inl ⟨by omega, Lib.hid (by rw [hv, decide_eq_false h1, Bool.false_and])⟩
  rw [← hv]
  clear hv
  rcases hc with ⟨h1, H⟩ | ⟨h1, h2, h3, H⟩ | ⟨h1, h2, h3, H⟩
  all_goals go_enter Try.func83, Try.ntmps83
  all_goals go_wp2_with fail
  all_goals go_ret
  all_goals exact ⟨by rw [H.out]; first | rfl | (simp [h3]; done), Below.refl _ _⟩
def resL (l : List UInt8) : Bool := l == typeW || (l == relW || l == defW)
theorem reserved_any (s : ByteArray) (w : World) : Calls Try.prog 84 #[.string s] w fun e w' => e = .returned (.bool (resL s.data.toList)) ∧ Below w.heap.size w w' := by
  rw [← toList_data]
  generalize hl : s.toList = l
  have hc : l = typeW ∨ l = relW ∨ l = defW ∨ (¬ l = typeW ∧ ¬ l = relW ∧ ¬ l = defW) := by
    by_cases h1 : l = typeW
    · exact .inl h1
    · by_cases h2 : l = relW
      · exact .inr (.inl h2)
      · by_cases h3 : l = defW
        · exact .inr (.inr (.inl h3))
        · exact .inr (.inr (.inr ⟨h1, h2, h3⟩))
  subst hl
  rcases hc with h | h | h | ⟨h1, h2, h3⟩
  · rw [h]
    have e1 : s.toList = [116, 121, 112, 101] := h
    clear h
    go_enter Try.func84, Try.ntmps84
    go_wp2_with fail
    go_ret
    exact ⟨rfl, Below.refl _ _⟩
  · rw [h]
    have e1 : s.toList = [114, 101, 108, 97, 116, 105, 111, 110] := h
    clear h
    go_enter Try.func84, Try.ntmps84
    go_wp2_with fail
    go_ret
    exact ⟨rfl, Below.refl _ _⟩
  · rw [h]
    have e1 : s.toList = [100, 101, 102, 105, 110, 101] := h
    clear h
    go_enter Try.func84, Try.ntmps84
    go_wp2_with fail
    go_ret
    exact ⟨rfl, Below.refl _ _⟩
  · have n1 : (s.toList == [116, 121, 112, 101]) = false := beq_eq_false_iff_ne.2 h1
    have n2 : (s.toList == [114, 101, 108, 97, 116, 105, 111, 110]) = false := beq_eq_false_iff_ne.2 h2
    have n3 : (s.toList == [100, 101, 102, 105, 110, 101]) = false := beq_eq_false_iff_ne.2 h3
    have hR : Hid (resL s.toList = false) := Lib.hid (by simp [resL, h1, h2, h3])
    clear h1 h2 h3
    go_enter Try.func84, Try.ntmps84
    go_wp2_with fail
    go_ret
    exact ⟨by rw [hR.out]; rfl, Below.refl _ _⟩
theorem nameC_any (c : UInt8) (w : World) : Calls Try.prog 81 #[.int .u8 (c.toNat : Int)] w fun e w' => e = .returned (.bool (nmB c)) ∧ Below w.heap.size w w' := by
  have HL := Lib.hid (fun W => low_any c W)
  have HD := Lib.hid (fun W => dig_any c W)
  have hn : nmB c = (lowB c || (numB c || decide (c.toNat = 95))) := by unfold nmB; cases lowB c <;> cases numB c <;> simp
  rw [hn]
  clear hn
  have hx := c.toNat_lt
  generalize lowB c = a at *
  generalize numB c = b at *
  generalize c.toNat = x at *
  cases a
  · cases b
    · by_cases h95 : x = 95
      · subst h95
        have HL2 : Hid (∀ W, Calls Try.prog 82 #[.int .u8 95] W fun e w' => e = .returned (.bool false) ∧ Below W.heap.size W w') := HL
        have HD2 : Hid (∀ W, Calls Try.prog 83 #[.int .u8 95] W fun e w' => e = .returned (.bool false) ∧ Below W.heap.size W w') := HD
        clear HL HD
        show Calls _ _ #[.int .u8 95] _ _
        go_enter Try.func81, Try.ntmps81
        go_wp2_with (first
          | (go_at_call 82; with_reducible refine (HL2.out _).mono ?_; rintro e w1 ⟨rfl, hb1⟩; have HB1 := Lib.hid hb1; clear hb1)
          | (go_at_call 83; with_reducible refine (HD2.out _).mono ?_; rintro e w2 ⟨rfl, hb2⟩; have HB2 := Lib.hid hb2; clear hb2))
        go_ret
        exact ⟨rfl, hop HB1.out HB2.out⟩
      · have e1 : ¬ (x : Int) = 95 := by omega
        have e2 : decide (x = 95) = false := decide_eq_false h95
        rw [e2]
        clear h95 e2
        go_enter Try.func81, Try.ntmps81
        go_wp2_with (first
          | (go_at_call 82; with_reducible refine (HL.out _).mono ?_; rintro e w1 ⟨rfl, hb1⟩; have HB1 := Lib.hid hb1; clear hb1)
          | (go_at_call 83; with_reducible refine (HD.out _).mono ?_; rintro e w2 ⟨rfl, hb2⟩; have HB2 := Lib.hid hb2; clear hb2))
        go_ret
        exact ⟨by simp [e1], hop HB1.out HB2.out⟩
    · go_enter Try.func81, Try.ntmps81
      go_wp2_with (first
        | (go_at_call 82; with_reducible refine (HL.out _).mono ?_; rintro e w1 ⟨rfl, hb1⟩; have HB1 := Lib.hid hb1; clear hb1)
        | (go_at_call 83; with_reducible refine (HD.out _).mono ?_; rintro e w2 ⟨rfl, hb2⟩; have HB2 := Lib.hid hb2; clear hb2))
      go_ret
      exact ⟨by simp, hop HB1.out HB2.out⟩
  · go_enter Try.func81, Try.ntmps81
    go_wp2_with (go_at_call 82; with_reducible refine (HL.out _).mono ?_; rintro e w1 ⟨rfl, hb1⟩; have HB1 := Lib.hid hb1; clear hb1)
    go_ret
    exact ⟨by simp, HB1.out⟩
def consL (p : UInt8 → Bool) (most : Nat) (l : List UInt8) : Bool := !decide (l.length = 0 ∨ most < l.length) && l.all p
set_option maxHeartbeats 800000 in
theorem consists_any (g : Nat) (p : UInt8 → Bool) (most : Nat) (s : ByteArray) (w : World) (eg : ∀ args w, (callFunc g args).run Try.prog w = .ok (.enter g args) w) (hm : s.size ≤ 9223372036854775807) (hmo : most ≤ 1000)
    (hf : ∀ W (c : UInt8), Calls Try.prog g #[.int .u8 (c.toNat : Int)] W fun e w' => e = .returned (.bool (p c)) ∧ Below W.heap.size W w') :
    Calls Try.prog 80 #[.string s, .int .i64 most, .func (.func g) #[] #[]] w fun e w' => e = .returned (.bool (consL p most s.data.toList)) ∧ Below w.heap.size w w' := by
  have HF := Lib.hid hf
  clear hf
  by_cases hb : s.data.toList.length = 0 ∨ most < s.data.toList.length
  · have hC : consL p most s.data.toList = false := by rw [consL, decide_eq_true hb]; rfl
    rw [hC]
    rw [size_list] at hb
    clear hC
    have hc : s.size < 1 ∨ (1 ≤ s.size ∧ most < s.size) := by omega
    clear hb
    rcases hc with h1 | ⟨h1, h2⟩
    all_goals go_enter Try.func80, Try.ntmps80
    all_goals go_wp2_with fail
    all_goals go_ret
    all_goals exact ⟨rfl, Below.refl _ _⟩
  · have hC : consL p most s.data.toList = s.data.toList.all p := by rw [consL, decide_eq_false hb]; rfl
    rw [hC]
    rw [size_list] at hb
    clear hC
    obtain ⟨v, hv⟩ : ∃ v, v = s.data.toList.all p := ⟨_, rfl⟩
    rw [← hv]
    have HV := Lib.hid hv
    have h1 : 1 ≤ s.size := by omega
    have h2 : s.size ≤ most := by omega
    have h3 : decide (most < s.size) = false := decide_eq_false (by omega)
    have h4 : decide ((s.size : Int) < 1) = false := decide_eq_false (by omega)
    clear hb hv
    go_enter Try.func80, Try.ntmps80
    go_wp2_with fail
    go_loopw [19] (fun i wr => ∃ k : Nat, k ≤ s.size ∧ i = .int .i64 k ∧ Hid ((s.data.toList.take k).all p = true) ∧ Hid (Below w.heap.size w wr)) (fun i _ => s.size - (intOf i).toNat)
    case atStart => exact ⟨0, by omega, rfl, Lib.hid rfl, Lib.hid (Below.refl _ _)⟩
    case round =>
      obtain ⟨k, hk, rfl, H, BW⟩ := hrel
      by_cases hlt : k < s.size
      · have hx := s[k].toNat_lt
        have HN := Lib.hid (all_next (p := p) s k hlt H.out)
        have hc := HF.out wr s[k]
        obtain ⟨q, hq⟩ : ∃ q, q = p s[k] := ⟨_, rfl⟩
        rw [← hq] at hc
        have HQ := Lib.hid hq
        clear hq
        cases q
        · have HG : Hid (v = false) := Lib.hid (by rw [HV.out]; exact HN.out.2 HQ.out.symm)
          clear HN
          go_wp2_with (go_at_fn g; refine hc.mono ?_; rintro e w' ⟨rfl, hb'⟩)
          go_ret
          exact ⟨by rw [HG.out]; rfl, hop BW.out hb'⟩
        · have HG := Lib.hid (HN.out.1 HQ.out.symm)
          clear HN
          go_wp2_with (go_at_fn g; refine hc.mono ?_; rintro e w' ⟨rfl, hb'⟩)
          go_roundw
          case rel => exact ⟨k + 1, by omega, by go_num, HG, Lib.hid (hop BW.out hb')⟩
          case measure => simp [intOf]; omega
      · have HG : Hid (v = true) := Lib.hid (by rw [HV.out]; exact all_end s k hlt H.out)
        go_wp2_with fail
        go_ret
        exact ⟨by rw [HG.out]; rfl, BW.out⟩
end Go.Proofs.Ytehabjiacgibpaa
namespace Go.Proofs.Ytehabjiacgibpaa
open Go.RowKit
theorem nameL_of (l : List UInt8) : nameL l = (consL nmB 16 l && (lowB (l.getD 0 0) && !resL l)) := by
  unfold nameL consL resL nameBad
  by_cases h1 : l.length = 0
  · simp [h1]
  · by_cases h2 : 16 < l.length
    · simp [h2]
    · by_cases h3 : l = typeW
      · simp [h3]
      · by_cases h4 : l = relW
        · simp [h4]
        · by_cases h5 : l = defW
          · simp [h5]
          · simp only [h1, h2, h3, h4, h5, or_self, decide_false, Bool.not_false, Bool.true_and, beq_eq_false_iff_ne.2 h3, beq_eq_false_iff_ne.2 h4, beq_eq_false_iff_ne.2 h5, Bool.or_self, Bool.and_true]
            exact Bool.and_comm _ _
theorem consL_len {p : UInt8 → Bool} {m : Nat} {l : List UInt8} (h : consL p m l = true) : 0 < l.length := by
  unfold consL at h
  by_cases hb : l.length = 0 ∨ m < l.length
  · rw [decide_eq_true hb] at h; cases h
  · omega
theorem enter_nameC (args : Array Value) (w : World) : (callFunc 81 args).run Try.prog w = .ok (.enter 81 args) w := by simp [go_sem]
set_option maxHeartbeats 400000 in
theorem name_of (s : ByteArray) (w : World) (hm : s.size ≤ 9223372036854775807) :
    Calls Try.prog 70 #[.string s] w fun e w' => e = .returned (.bool (nameL s.data.toList)) ∧ Below w.heap.size w w' := by
  rw [nameL_of]
  have hC := fun W => consists_any 81 nmB 16 s W enter_nameC hm (by omega) (fun W c => nameC_any c W)
  have hR := fun W => reserved_any s W
  have hl := fun h : consL nmB 16 s.data.toList = true => consL_len h
  generalize consL nmB 16 s.data.toList = x at *
  generalize resL s.data.toList = y at *
  have HC : Hid (∀ W, Calls Try.prog 80 #[.string s, .int .i64 16, .func (.func 81) #[] #[]] W fun e w' => e = .returned (.bool x) ∧ Below W.heap.size W w') := Lib.hid hC
  have HR := Lib.hid hR
  clear hC hR
  cases x
  · clear hl
    go_enter Try.func70, Try.ntmps70
    go_wp2_with (go_at_call 80; with_reducible refine (HC.out _).mono ?_; rintro e w1 ⟨rfl, hb1⟩; have HB1 := Lib.hid hb1; clear hb1)
    go_ret
    exact ⟨rfl, HB1.out⟩
  · have h0 : 0 < s.size := by have := hl rfl; rwa [size_list] at this
    rw [getD_list s 0 h0]
    clear hl
    have hx := s[0].toNat_lt
    have HL := Lib.hid (fun W => low_any s[0] W)
    generalize lowB s[0] = z at *
    cases z
    · go_enter Try.func70, Try.ntmps70
      go_wp2_with (first
        | (go_at_call 80; with_reducible refine (HC.out _).mono ?_; rintro e w1 ⟨rfl, hb1⟩; have HB1 := Lib.hid hb1; clear hb1)
        | (go_at_call 82; with_reducible refine (HL.out _).mono ?_; rintro e w2 ⟨rfl, hb2⟩; have HB2 := Lib.hid (hop HB1.out hb2); clear hb2))
      go_ret
      exact ⟨rfl, HB2.out⟩
    · cases y
      all_goals go_enter Try.func70, Try.ntmps70
      all_goals go_wp2_with (first
        | (go_at_call 80; with_reducible refine (HC.out _).mono ?_; rintro e w1 ⟨rfl, hb1⟩; have HB1 := Lib.hid hb1; clear hb1)
        | (go_at_call 82; with_reducible refine (HL.out _).mono ?_; rintro e w2 ⟨rfl, hb2⟩; have HB2 := Lib.hid (hop HB1.out hb2); clear hb2)
        | (go_at_call 84; with_reducible refine (HR.out _).mono ?_; rintro e w3 ⟨rfl, hb3⟩; have HB3 := Lib.hid (hop HB2.out hb3); clear hb3))
      all_goals go_ret
      all_goals exact ⟨rfl, HB3.out⟩
theorem name_any (l : Txt) (w : World) (hm : l.length ≤ 9223372036854775807) :
    Calls Try.prog 70 #[strV l] w fun e w' => e = .returned (.bool (nameL l)) ∧ Below w.heap.size w w' := by
  have h := name_of ⟨l.toArray⟩ w (by simpa [ByteArray.size] using hm)
  simpa using h
end Go.Proofs.Ytehabjiacgibpaa
namespace Go.Proofs.Ytehabjiacgibpaa
open Go.RowKit
end Go.Proofs.Ytehabjiacgibpaa
namespace Go.Proofs.Ytehabjiacgibpaa
open Go.RowKit
theorem RfAt.sh {W : World} {F : Nat → Prop} (x : Rf) (cs : List Value) (h : RfAt W F x cs) : ShRef cs := ⟨_, _, h.1⟩
theorem RlAt.sh {W : World} {F : Nat → Prop} (x : Rl) (cs : List Value) (h : RlAt W F x cs) : ShRel cs := by
  obtain ⟨A, c, k, n, o, E, m, d, rfl, _⟩ := h.six
  exact ⟨_, _, _, _, _, _, _, _, _, _, rfl⟩
theorem TyAt.sh {W : World} {F : Nat → Prop} (x : Ty) (cs : List Value) (h : TyAt W F x cs) : ShType cs := by
  obtain ⟨A, c, rfl, _⟩ := h
  exact ⟨_, _, _, _, rfl⟩
end Go.Proofs.Ytehabjiacgibpaa
namespace Go.Proofs.Ytehabjiacgibpaa
open Go.RowKit
end Go.Proofs.Ytehabjiacgibpaa
namespace Go.Proofs.Ytehabjiacgibpaa
open Go.RowKit
def EAskC {α : Type} (n g : Nat) (mk : Value → Array Value) (Sh : List Value → Prop) (p : α → Bool) (W : World) (A : Option Addr) (l : List α) : Prop :=
  ∀ j (hj : j < l.length), ∃ b off cs, A = some ⟨b, off, none⟩ ∧ Sh cs ∧ (∀ W', Below W.heap.size W W' → ∀ i, i < n → W'.cell? ⟨b, off + j * n + i, none⟩ = cs[i]?) ∧
    ∀ W', Below W.heap.size W W' → Calls Try.prog g (mk (.agg cs.toArray)) W' fun e w' => e = .returned (.bool (p l[j])) ∧ Below W'.heap.size W' w'
theorem RowAt.asksC {α : Type} {n g : Nat} {mk : Value → Array Value} {R : World → (Nat → Prop) → α → List Value → Prop} {Sh : List Value → Prop} {p : α → Bool} {W : World} {F : Nat → Prop} {A : Option Addr} {l : List α} (h : RowAt n R W F A l)
    (hS : ∀ x cs, R W F x cs → Sh cs) (hf : ∀ x ∈ l, ∀ cs, R W F x cs → ∀ W', Below W.heap.size W W' → Calls Try.prog g (mk (.agg cs.toArray)) W' fun e w' => e = .returned (.bool (p x)) ∧ Below W'.heap.size W' w') : EAskC n g mk Sh p W A l := by
  intro j hj
  rcases h with rfl | ⟨b, off, rfl, hb, _, hk⟩
  · simp at hj
  · obtain ⟨cs, h1, h2⟩ := hk j hj
    exact ⟨b, off, cs, rfl, hS _ _ h1, fun W' hW i hi => (hW.cell (p := ⟨b, off + j * n + i, none⟩) hb).trans (h2 i hi), hf _ (List.getElem_mem hj) cs h1⟩
set_option maxHeartbeats 1000000 in
theorem indexC_Type1 {α : Type} {g : Nat} (eg : ∀ args w, (callFunc g args).run Try.prog w = .ok (.enter g args) w) {p : α → Bool} {W : World} {A : Option Addr} {l : List α} (c : Nat) {p1 : Value} (h : EAskC 2 g (fun v => #[v, p1]) ShType p W A l) (hl : l.length ≤ 9223372036854775807) :
    Calls Try.prog 50 #[.slice A l.length c, .func (.func g) #[] #[p1]] W fun e w' => e = .returned (.int .i64 (atN p l 0)) ∧ Below W.heap.size W w' := by
  obtain ⟨v, hv⟩ : ∃ v, v = atN p l 0 := ⟨_, rfl⟩
  rw [← hv]
  have HV := Lib.hid hv
  have HR := Lib.hid h
  clear h hv
  go_enter Try.func50, Try.ntmps50
  go_wp2_with fail
  go_loopw [8] (fun x wr => ∃ j : Nat, j ≤ l.length ∧ x = .int .i64 j ∧ Hid (v = atN p (l.drop j) j) ∧ Hid (Below W.heap.size W wr)) (fun x _ => l.length - (intOf x).toNat)
  case atStart => exact ⟨0, by omega, rfl, Lib.hid (by rw [HV.out]; rfl), Lib.hid (Below.refl _ _)⟩
  case round =>
    obtain ⟨j, hj, rfl, H, BW⟩ := hrel
    by_cases hlt : j < l.length
    · have HD := Lib.hid (atN_drop (p := p) hlt)
      obtain ⟨b, off, cs, rfl, ⟨s0, A1, n1, c1, rfl⟩, hc, hf⟩ := HR.out j hlt
      have hc' := hc wr BW.out
      have z0 : wr.cell? ⟨b, off + j * 2, none⟩ = some (strV s0) := hc' 0 (by decide)
      have z1 : wr.cell? ⟨b, off + j * 2 + 1, none⟩ = some (.slice A1 n1 c1) := hc' 1 (by decide)
      have HC := Lib.hid (hf wr BW.out)
      have HC : Hid (Calls Try.prog g #[.agg #[strV s0, .slice A1 n1 c1], p1] wr fun e w' => e = .returned (.bool (p l[j])) ∧ Below wr.heap.size wr w') := HC
      obtain ⟨q, hq⟩ : ∃ q, p l[j] = q := ⟨_, rfl⟩
      rw [hq] at HC HD
      clear hc hc' hf hq
      cases q
      · have HN : Hid (v = atN p (l.drop (j + 1)) (j + 1)) := Lib.hid (by rw [H.out, HD.out]; rfl)
        go_wp2_with (go_at_fn g; refine HC.out.mono ?_; rintro e w2 ⟨rfl, hb2⟩)
        go_roundw
        case rel => exact ⟨j + 1, by omega, by go_num, HN, Lib.hid (hop BW.out hb2)⟩
        case measure => simp [intOf]; omega
      · have HN : Hid (v = (j : Int)) := Lib.hid (by rw [H.out, HD.out]; rfl)
        go_wp2_with (go_at_fn g; refine HC.out.mono ?_; rintro e w2 ⟨rfl, hb2⟩)
        go_ret
        exact ⟨by rw [HN.out]; rfl, hop BW.out hb2⟩
    · have HN : Hid (v = -1) := Lib.hid (by rw [H.out, List.drop_of_length_le (by omega)]; rfl)
      go_wp2_with fail
      go_ret
      exact ⟨by rw [HN.out]; rfl, BW.out⟩
set_option maxHeartbeats 1000000 in
theorem indexC_Rel1 {α : Type} {g : Nat} (eg : ∀ args w, (callFunc g args).run Try.prog w = .ok (.enter g args) w) {p : α → Bool} {W : World} {A : Option Addr} {l : List α} (c : Nat) {p1 : Value} (h : EAskC 6 g (fun v => #[v, p1]) ShRel p W A l) (hl : l.length ≤ 9223372036854775807) :
    Calls Try.prog 72 #[.slice A l.length c, .func (.func g) #[] #[p1]] W fun e w' => e = .returned (.int .i64 (atN p l 0)) ∧ Below W.heap.size W w' := by
  obtain ⟨v, hv⟩ : ∃ v, v = atN p l 0 := ⟨_, rfl⟩
  rw [← hv]
  have HV := Lib.hid hv
  have HR := Lib.hid h
  clear h hv
  go_enter Try.func72, Try.ntmps72
  go_wp2_with fail
  go_loopw [8] (fun x wr => ∃ j : Nat, j ≤ l.length ∧ x = .int .i64 j ∧ Hid (v = atN p (l.drop j) j) ∧ Hid (Below W.heap.size W wr)) (fun x _ => l.length - (intOf x).toNat)
  case atStart => exact ⟨0, by omega, rfl, Lib.hid (by rw [HV.out]; rfl), Lib.hid (Below.refl _ _)⟩
  case round =>
    obtain ⟨j, hj, rfl, H, BW⟩ := hrel
    by_cases hlt : j < l.length
    · have HD := Lib.hid (atN_drop (p := p) hlt)
      obtain ⟨b, off, cs, rfl, ⟨s0, A1, n1, c1, k, s2, s3, A2, n2, c2, rfl⟩, hc, hf⟩ := HR.out j hlt
      have hc' := hc wr BW.out
      have z0 : wr.cell? ⟨b, off + j * 6, none⟩ = some (strV s0) := hc' 0 (by decide)
      have z1 : wr.cell? ⟨b, off + j * 6 + 1, none⟩ = some (.slice A1 n1 c1) := hc' 1 (by decide)
      have z2 : wr.cell? ⟨b, off + j * 6 + 2, none⟩ = some (.int .i64 k) := hc' 2 (by decide)
      have z3 : wr.cell? ⟨b, off + j * 6 + 3, none⟩ = some (strV s2) := hc' 3 (by decide)
      have z4 : wr.cell? ⟨b, off + j * 6 + 4, none⟩ = some (strV s3) := hc' 4 (by decide)
      have z5 : wr.cell? ⟨b, off + j * 6 + 5, none⟩ = some (.slice A2 n2 c2) := hc' 5 (by decide)
      have HC := Lib.hid (hf wr BW.out)
      have HC : Hid (Calls Try.prog g #[.agg #[strV s0, .slice A1 n1 c1, .int .i64 k, strV s2, strV s3, .slice A2 n2 c2], p1] wr fun e w' => e = .returned (.bool (p l[j])) ∧ Below wr.heap.size wr w') := HC
      obtain ⟨q, hq⟩ : ∃ q, p l[j] = q := ⟨_, rfl⟩
      rw [hq] at HC HD
      clear hc hc' hf hq
      cases q
      · have HN : Hid (v = atN p (l.drop (j + 1)) (j + 1)) := Lib.hid (by rw [H.out, HD.out]; rfl)
        go_wp2_with (go_at_fn g; refine HC.out.mono ?_; rintro e w2 ⟨rfl, hb2⟩)
        go_roundw
        case rel => exact ⟨j + 1, by omega, by go_num, HN, Lib.hid (hop BW.out hb2)⟩
        case measure => simp [intOf]; omega
      · have HN : Hid (v = (j : Int)) := Lib.hid (by rw [H.out, HD.out]; rfl)
        go_wp2_with (go_at_fn g; refine HC.out.mono ?_; rintro e w2 ⟨rfl, hb2⟩)
        go_ret
        exact ⟨by rw [HN.out]; rfl, hop BW.out hb2⟩
    · have HN : Hid (v = -1) := Lib.hid (by rw [H.out, List.drop_of_length_le (by omega)]; rfl)
      go_wp2_with fail
      go_ret
      exact ⟨by rw [HN.out]; rfl, BW.out⟩
end Go.Proofs.Ytehabjiacgibpaa
namespace Go.Proofs.Ytehabjiacgibpaa
open Go.RowKit
theorem RowAt.take {α : Type} {n : Nat} {R : World → (Nat → Prop) → α → List Value → Prop} {W : World} {F : Nat → Prop} {A : Option Addr} {l : List α} (h : RowAt n R W F A l) (i : Nat) : RowAt n R W F A (l.take i) := by
  rcases h with rfl | ⟨b, off, rfl, hb, hF, hk⟩
  · exact .inl (by simp)
  · refine .inr ⟨b, off, rfl, hb, hF, fun j hj => ?_⟩
    have hj' : j < l.length := by rw [List.length_take] at hj; omega
    obtain ⟨cs, h1, h2⟩ := hk j hj'
    exact ⟨cs, by rw [List.getElem_take]; exact h1, h2⟩
theorem TyAt.sh2 {W : World} {F : Nat → Prop} (x : Ty) (cs : List Value) (h : TyAt W F x cs) : ShType cs := TyAt.sh x cs h
theorem RlAt.shC {W : World} {F : Nat → Prop} (x : Rl) (cs : List Value) (h : RlAt W F x cs) : ShRel cs := by
  obtain ⟨a, A1, n1, c1, k, n, o, A2, n2, c2, rfl⟩ := h.shape
  exact ⟨a, A1, n1, c1, k, n, o, A2, n2, c2, rfl⟩
end Go.Proofs.Ytehabjiacgibpaa
namespace Go.Proofs.Ytehabjiacgibpaa
open Go.RowKit
theorem noRel_at (W : World) (F : Nat → Prop) : RlAt W F noRel [.string ⟨#[]⟩, .slice none 0 0, .int .i64 0, .string ⟨#[]⟩, .string ⟨#[]⟩, .slice none 0 0] :=
  ⟨none, 0, _, rfl, ⟨Nat.zero_le _, Nat.zero_le _⟩, .inl rfl, ExAt.of_row (k := 0) (n := []) (o := []) (ks := []) (A := none) (c := 0) ⟨⟨by decide, by decide⟩, Nat.zero_le _, Nat.zero_le _, Nat.zero_le _⟩ (.inl rfl)⟩
end Go.Proofs.Ytehabjiacgibpaa
