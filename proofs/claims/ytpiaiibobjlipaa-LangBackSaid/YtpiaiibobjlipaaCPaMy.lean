/-
  each over refs, relations, types: are all as they may be? By the contract of what asks it of one. Conditions: the list is there.
  May a ref, a relation, a type, a schema be, by the program? Conditions: they are there.
-/
import Derived.Test.YtpiaiibobjlipaaCPaSc
import Derived.Test.YtpiaiibobjlipaaCLaMay
import Derived.Test.YtpiaiibobjlipaaCPaEx
namespace Go.Proofs.Ytpiaiibobjlipaa
open Go.RowKit
def EAsk {α : Type} (n f : Nat) (Sh : List Value → Prop) (p : α → Bool) (W : World) (A : Option Addr) (l : List α) : Prop :=
  ∀ j (hj : j < l.length), ∃ b off cs, A = some ⟨b, off, none⟩ ∧ Sh cs ∧ (∀ W', Below W.heap.size W W' → ∀ i, i < n → W'.cell? ⟨b, off + j * n + i, none⟩ = cs[i]?) ∧
    ∀ W', Below W.heap.size W W' → Calls Try.prog f #[.agg cs.toArray] W' fun e w' => e = .returned (.bool (p l[j])) ∧ Below W'.heap.size W' w'
theorem EAsk.mono {α : Type} {n f : Nat} {Sh : List Value → Prop} {p : α → Bool} {W W1 : World} {A : Option Addr} {l : List α} (h : EAsk n f Sh p W A l) (hb : Below W.heap.size W W1) : EAsk n f Sh p W1 A l := by
  intro j hj
  obtain ⟨b, off, cs, h1, h2, h3, h4⟩ := h j hj
  exact ⟨b, off, cs, h1, h2, fun W' hW => h3 W' (hb.trans (hW.mono hb.size)), fun W' hW => h4 W' (hb.trans (hW.mono hb.size))⟩
theorem RowAt.asks {α : Type} {n f : Nat} {R : World → (Nat → Prop) → α → List Value → Prop} {Sh : List Value → Prop} {p : α → Bool} {W : World} {F : Nat → Prop} {A : Option Addr} {l : List α} (h : RowAt n R W F A l)
    (hS : ∀ x cs, R W F x cs → Sh cs) (hf : ∀ x ∈ l, ∀ cs, R W F x cs → ∀ W', Below W.heap.size W W' → Calls Try.prog f #[.agg cs.toArray] W' fun e w' => e = .returned (.bool (p x)) ∧ Below W'.heap.size W' w') : EAsk n f Sh p W A l := by
  intro j hj
  rcases h with rfl | ⟨b, off, rfl, hb, _, hk⟩
  · simp at hj
  · obtain ⟨cs, h1, h2⟩ := hk j hj
    exact ⟨b, off, cs, rfl, hS _ _ h1, fun W' hW i hi => (hW.cell (p := ⟨b, off + j * n + i, none⟩) hb).trans (h2 i hi), hf _ (List.getElem_mem hj) cs h1⟩
def ShRef (cs : List Value) : Prop := ∃ (s0 s1 : Txt), cs = [strV s0, strV s1]
set_option maxHeartbeats 1000000 in
theorem eachC_Ref {f : Nat} (ef : ∀ args w, (callFunc f args).run Try.prog w = .ok (.enter f args) w) {q : Bool} {W : World} (s0 s1 : Txt) {pb : Nat} (hp : pb < W.heap.size ∧ W.cell? ⟨pb, 0, none⟩ = some (.func (.func f) #[] #[]))
    (hf : ∀ W', Below W.heap.size W W' → Calls Try.prog f #[.agg #[strV s0, strV s1]] W' fun e w' => e = .returned (.bool q) ∧ Below W'.heap.size W' w') :
    Calls Try.prog 94 #[.agg #[strV s0, strV s1], .pointer (some ⟨pb, 0, none⟩)] W fun e w' => e = .returned (.bool (!q)) ∧ Below W.heap.size W w' := by
  have hb := (Below.refl W.heap.size W).alloc (Nat.le_refl _) (.cells #[strV s0, strV s1] 78)
  have HF := Lib.hid (hf _ hb)
  have HB := Lib.hid hb
  have hpa : (W.alloc (.cells #[strV s0, strV s1] 78)).cell? ⟨pb, 0, none⟩ = some (.func (.func f) #[] #[]) := by rw [hb.cell (p := ⟨pb, 0, none⟩) hp.1]; exact hp.2
  clear hf hb hp
  go_enter Try.func94, Try.ntmps94
  go_wp2_with (go_at_fn f; refine HF.out.mono ?_; rintro e w2 ⟨rfl, hb2⟩)
  go_ret
  exact ⟨rfl, HB.out.trans (hb2.mono HB.out.size)⟩
set_option maxHeartbeats 1000000 in
theorem eachI_Ref {α : Type} {f : Nat} (ef : ∀ args w, (callFunc f args).run Try.prog w = .ok (.enter f args) w) {p : α → Bool} {W : World} {A : Option Addr} {l : List α} (c : Nat) (h : EAsk 2 f ShRef p W A l) (hl : l.length ≤ 9223372036854775807) {pb : Nat} (hp : pb < W.heap.size ∧ W.cell? ⟨pb, 0, none⟩ = some (.func (.func f) #[] #[])) :
    Calls Try.prog 100 #[.slice A l.length c, .func (.func 94) #[] #[.pointer (some ⟨pb, 0, none⟩)]] W fun e w' => (∃ v : Int, e = .returned (.int .i64 v) ∧ (0 ≤ v ↔ l.all p = false)) ∧ Below W.heap.size W w' := by
  obtain ⟨v, hv⟩ : ∃ v, v = l.all p := ⟨_, rfl⟩
  rw [← hv]
  have HV := Lib.hid hv
  have HR := Lib.hid h
  have HP : Hid (∀ W', Below W.heap.size W W' → pb < W'.heap.size ∧ W'.cell? ⟨pb, 0, none⟩ = some (.func (.func f) #[] #[])) := Lib.hid (fun W' hW => ⟨Nat.lt_of_lt_of_le hp.1 hW.size, by rw [hW.cell (p := ⟨pb, 0, none⟩) hp.1]; exact hp.2⟩)
  clear h hp hv
  go_enter Try.func100, Try.ntmps100
  go_wp2_with fail
  go_loopw [8] (fun x wr => ∃ j : Nat, j ≤ l.length ∧ x = .int .i64 j ∧ Hid (v = (l.drop j).all p) ∧ Hid (Below W.heap.size W wr)) (fun x _ => l.length - (intOf x).toNat)
  case atStart => exact ⟨0, by omega, rfl, Lib.hid (by rw [HV.out]; rfl), Lib.hid (Below.refl _ _)⟩
  case round =>
    obtain ⟨j, hj, rfl, H, BW⟩ := hrel
    by_cases hlt : j < l.length
    · have HD := Lib.hid (all_drop (p := p) hlt)
      obtain ⟨b, off, cs, rfl, ⟨s0, s1, rfl⟩, hc, hf⟩ := HR.out j hlt
      have hc' := hc wr BW.out
      have z0 : wr.cell? ⟨b, off + j * 2, none⟩ = some (strV s0) := hc' 0 (by decide)
      have z1 : wr.cell? ⟨b, off + j * 2 + 1, none⟩ = some (strV s1) := hc' 1 (by decide)
      have HC := Lib.hid (eachC_Ref ef s0 s1 (HP.out wr BW.out) (fun W' hW => hf W' (BW.out.trans (hW.mono BW.out.size))))
      obtain ⟨q, hq⟩ : ∃ q, p l[j] = q := ⟨_, rfl⟩
      rw [hq] at HC HD
      clear hc hc' hf hq
      cases q
      · have HN : Hid (v = false) := Lib.hid (by rw [H.out, HD.out]; rfl)
        go_wp2_with (go_at_call 94; refine HC.out.mono ?_; rintro e w2 ⟨rfl, hb2⟩)
        go_ret
        exact ⟨⟨(j : Int), rfl, by rw [HN.out]; exact ⟨fun _ => rfl, fun _ => by omega⟩⟩, hop BW.out hb2⟩
      · have HN : Hid (v = (l.drop (j + 1)).all p) := Lib.hid (by rw [H.out, HD.out]; rfl)
        go_wp2_with (go_at_call 94; refine HC.out.mono ?_; rintro e w2 ⟨rfl, hb2⟩)
        go_roundw
        case rel => exact ⟨j + 1, by omega, by go_num, HN, Lib.hid (hop BW.out hb2)⟩
        case measure => simp [intOf]; omega
    · have HN : Hid (v = true) := Lib.hid (by rw [H.out, List.drop_of_length_le (by omega)]; rfl)
      go_wp2_with fail
      go_ret
      exact ⟨⟨-1, rfl, by rw [HN.out]; exact ⟨fun h => absurd h (by decide), fun h => nomatch h⟩⟩, BW.out⟩
set_option maxHeartbeats 1000000 in
theorem eachF_Ref {α : Type} {f : Nat} (ef : ∀ args w, (callFunc f args).run Try.prog w = .ok (.enter f args) w) {p : α → Bool} {W : World} {A : Option Addr} {l : List α} (c : Nat) (h : EAsk 2 f ShRef p W A l) (hl : l.length ≤ 9223372036854775807) {pb : Nat} (hp : pb < W.heap.size ∧ W.cell? ⟨pb, 0, none⟩ = some (.func (.func f) #[] #[])) :
    Calls Try.prog 93 #[.slice A l.length c, .func (.func 94) #[] #[.pointer (some ⟨pb, 0, none⟩)]] W fun e w' => e = .returned (.bool (!l.all p)) ∧ Below W.heap.size W w' := by
  have HI := Lib.hid (eachI_Ref ef c h hl hp)
  clear h hp
  generalize l.all p = q at *
  go_enter Try.func93, Try.ntmps93
  cases q
  · go_wp2_with (go_at_call 100; refine HI.out.mono ?_; rintro e w2 ⟨⟨v, rfl, hv⟩, hb2⟩; have hv' := hv.2 rfl; clear hv)
    go_ret
    exact ⟨rfl, hb2⟩
  · go_wp2_with (go_at_call 100; refine HI.out.mono ?_; rintro e w2 ⟨⟨v, rfl, hv⟩, hb2⟩; have hv' : ¬ 0 ≤ v := fun h0 => absurd (hv.1 h0) (by decide); clear hv)
    go_ret
    exact ⟨congrArg (fun b => Ending.returned (Value.bool b)) (decide_eq_false (by omega)), hb2⟩
set_option maxHeartbeats 1000000 in
theorem each_Ref {α : Type} {f : Nat} (ef : ∀ args w, (callFunc f args).run Try.prog w = .ok (.enter f args) w) {p : α → Bool} {W : World} {A : Option Addr} {l : List α} (c : Nat) (h : EAsk 2 f ShRef p W A l) (hl : l.length ≤ 9223372036854775807) :
    Calls Try.prog 83 #[.slice A l.length c, .func (.func f) #[] #[]] W fun e w' => e = .returned (.bool (l.all p)) ∧ Below W.heap.size W w' := by
  have hmf : ∀ (fn : Fn) (first cap : Array Value) (w : World), (Instr.makeFunc fn first cap).run Try.prog w = .ok (.func fn first cap) w := fun _ _ _ _ => rfl
  obtain ⟨W1, hW1⟩ : ∃ W1, W1 = W.alloc (.cells #[.func (.func f) #[] #[]] 110) := ⟨_, rfl⟩
  have hb1 : Below W.heap.size W W1 := by rw [hW1]; exact (Below.refl _ _).alloc (Nat.le_refl _) _
  have hp1 : Blk W1 W.heap.size [.func (.func f) #[] #[]] 110 := by rw [hW1]; exact Blk.new _ _ _
  have HI := Lib.hid (eachF_Ref ef c (h.mono hb1) hl ⟨hp1.lt, hp1.cell (i := 0) (by simp)⟩)
  have HB := Lib.hid hb1
  rw [hW1] at HI
  have HW := Lib.hid hW1
  clear h hp1 hb1 hW1
  generalize l.all p = q at *
  go_enter Try.func83, Try.ntmps83
  go_wp2_with (go_at_call 93; refine HI.out.mono ?_; rintro e w2 ⟨rfl, hb2⟩)
  go_ret
  rw [← HW.out] at hb2
  exact ⟨by cases q <;> rfl, HB.out.trans (hb2.mono HB.out.size)⟩
def ShRel (cs : List Value) : Prop := ∃ (s0 : Txt) (A1 : Option Addr) (n1 c1 : Nat) (k : Int) (s2 s3 : Txt) (A2 : Option Addr) (n2 c2 : Nat), cs = [strV s0, .slice A1 n1 c1, .int .i64 k, strV s2, strV s3, .slice A2 n2 c2]
set_option maxHeartbeats 1000000 in
theorem eachC_Rel {f : Nat} (ef : ∀ args w, (callFunc f args).run Try.prog w = .ok (.enter f args) w) {q : Bool} {W : World} (s0 : Txt) (A1 : Option Addr) (n1 c1 : Nat) (k : Int) (s2 s3 : Txt) (A2 : Option Addr) (n2 c2 : Nat) {pb : Nat} (hp : pb < W.heap.size ∧ W.cell? ⟨pb, 0, none⟩ = some (.func (.func f) #[] #[]))
    (hf : ∀ W', Below W.heap.size W W' → Calls Try.prog f #[.agg #[strV s0, .slice A1 n1 c1, .int .i64 k, strV s2, strV s3, .slice A2 n2 c2]] W' fun e w' => e = .returned (.bool q) ∧ Below W'.heap.size W' w') :
    Calls Try.prog 82 #[.agg #[strV s0, .slice A1 n1 c1, .int .i64 k, strV s2, strV s3, .slice A2 n2 c2], .pointer (some ⟨pb, 0, none⟩)] W fun e w' => e = .returned (.bool (!q)) ∧ Below W.heap.size W w' := by
  have hb := (Below.refl W.heap.size W).alloc (Nat.le_refl _) (.cells #[strV s0, .slice A1 n1 c1, .int .i64 k, strV s2, strV s3, .slice A2 n2 c2] 48)
  have HF := Lib.hid (hf _ hb)
  have HB := Lib.hid hb
  have hpa : (W.alloc (.cells #[strV s0, .slice A1 n1 c1, .int .i64 k, strV s2, strV s3, .slice A2 n2 c2] 48)).cell? ⟨pb, 0, none⟩ = some (.func (.func f) #[] #[]) := by rw [hb.cell (p := ⟨pb, 0, none⟩) hp.1]; exact hp.2
  clear hf hb hp
  go_enter Try.func82, Try.ntmps82
  go_wp2_with (go_at_fn f; refine HF.out.mono ?_; rintro e w2 ⟨rfl, hb2⟩)
  go_ret
  exact ⟨rfl, HB.out.trans (hb2.mono HB.out.size)⟩
set_option maxHeartbeats 1000000 in
theorem eachI_Rel {α : Type} {f : Nat} (ef : ∀ args w, (callFunc f args).run Try.prog w = .ok (.enter f args) w) {p : α → Bool} {W : World} {A : Option Addr} {l : List α} (c : Nat) (h : EAsk 6 f ShRel p W A l) (hl : l.length ≤ 9223372036854775807) {pb : Nat} (hp : pb < W.heap.size ∧ W.cell? ⟨pb, 0, none⟩ = some (.func (.func f) #[] #[])) :
    Calls Try.prog 92 #[.slice A l.length c, .func (.func 82) #[] #[.pointer (some ⟨pb, 0, none⟩)]] W fun e w' => (∃ v : Int, e = .returned (.int .i64 v) ∧ (0 ≤ v ↔ l.all p = false)) ∧ Below W.heap.size W w' := by
  obtain ⟨v, hv⟩ : ∃ v, v = l.all p := ⟨_, rfl⟩
  rw [← hv]
  have HV := Lib.hid hv
  have HR := Lib.hid h
  have HP : Hid (∀ W', Below W.heap.size W W' → pb < W'.heap.size ∧ W'.cell? ⟨pb, 0, none⟩ = some (.func (.func f) #[] #[])) := Lib.hid (fun W' hW => ⟨Nat.lt_of_lt_of_le hp.1 hW.size, by rw [hW.cell (p := ⟨pb, 0, none⟩) hp.1]; exact hp.2⟩)
  clear h hp hv
  go_enter Try.func92, Try.ntmps92
  go_wp2_with fail
  go_loopw [8] (fun x wr => ∃ j : Nat, j ≤ l.length ∧ x = .int .i64 j ∧ Hid (v = (l.drop j).all p) ∧ Hid (Below W.heap.size W wr)) (fun x _ => l.length - (intOf x).toNat)
  case atStart => exact ⟨0, by omega, rfl, Lib.hid (by rw [HV.out]; rfl), Lib.hid (Below.refl _ _)⟩
  case round =>
    obtain ⟨j, hj, rfl, H, BW⟩ := hrel
    by_cases hlt : j < l.length
    · have HD := Lib.hid (all_drop (p := p) hlt)
      obtain ⟨b, off, cs, rfl, ⟨s0, A1, n1, c1, k, s2, s3, A2, n2, c2, rfl⟩, hc, hf⟩ := HR.out j hlt
      have hc' := hc wr BW.out
      have z0 : wr.cell? ⟨b, off + j * 6, none⟩ = some (strV s0) := hc' 0 (by decide)
      have z1 : wr.cell? ⟨b, off + j * 6 + 1, none⟩ = some (.slice A1 n1 c1) := hc' 1 (by decide)
      have z2 : wr.cell? ⟨b, off + j * 6 + 2, none⟩ = some (.int .i64 k) := hc' 2 (by decide)
      have z3 : wr.cell? ⟨b, off + j * 6 + 3, none⟩ = some (strV s2) := hc' 3 (by decide)
      have z4 : wr.cell? ⟨b, off + j * 6 + 4, none⟩ = some (strV s3) := hc' 4 (by decide)
      have z5 : wr.cell? ⟨b, off + j * 6 + 5, none⟩ = some (.slice A2 n2 c2) := hc' 5 (by decide)
      have HC := Lib.hid (eachC_Rel ef s0 A1 n1 c1 k s2 s3 A2 n2 c2 (HP.out wr BW.out) (fun W' hW => hf W' (BW.out.trans (hW.mono BW.out.size))))
      obtain ⟨q, hq⟩ : ∃ q, p l[j] = q := ⟨_, rfl⟩
      rw [hq] at HC HD
      clear hc hc' hf hq
      cases q
      · have HN : Hid (v = false) := Lib.hid (by rw [H.out, HD.out]; rfl)
        go_wp2_with (go_at_call 82; refine HC.out.mono ?_; rintro e w2 ⟨rfl, hb2⟩)
        go_ret
        exact ⟨⟨(j : Int), rfl, by rw [HN.out]; exact ⟨fun _ => rfl, fun _ => by omega⟩⟩, hop BW.out hb2⟩
      · have HN : Hid (v = (l.drop (j + 1)).all p) := Lib.hid (by rw [H.out, HD.out]; rfl)
        go_wp2_with (go_at_call 82; refine HC.out.mono ?_; rintro e w2 ⟨rfl, hb2⟩)
        go_roundw
        case rel => exact ⟨j + 1, by omega, by go_num, HN, Lib.hid (hop BW.out hb2)⟩
        case measure => simp [intOf]; omega
    · have HN : Hid (v = true) := Lib.hid (by rw [H.out, List.drop_of_length_le (by omega)]; rfl)
      go_wp2_with fail
      go_ret
      exact ⟨⟨-1, rfl, by rw [HN.out]; exact ⟨fun h => absurd h (by decide), fun h => nomatch h⟩⟩, BW.out⟩
set_option maxHeartbeats 1000000 in
theorem eachF_Rel {α : Type} {f : Nat} (ef : ∀ args w, (callFunc f args).run Try.prog w = .ok (.enter f args) w) {p : α → Bool} {W : World} {A : Option Addr} {l : List α} (c : Nat) (h : EAsk 6 f ShRel p W A l) (hl : l.length ≤ 9223372036854775807) {pb : Nat} (hp : pb < W.heap.size ∧ W.cell? ⟨pb, 0, none⟩ = some (.func (.func f) #[] #[])) :
    Calls Try.prog 81 #[.slice A l.length c, .func (.func 82) #[] #[.pointer (some ⟨pb, 0, none⟩)]] W fun e w' => e = .returned (.bool (!l.all p)) ∧ Below W.heap.size W w' := by
  have HI := Lib.hid (eachI_Rel ef c h hl hp)
  clear h hp
  generalize l.all p = q at *
  go_enter Try.func81, Try.ntmps81
  cases q
  · go_wp2_with (go_at_call 92; refine HI.out.mono ?_; rintro e w2 ⟨⟨v, rfl, hv⟩, hb2⟩; have hv' := hv.2 rfl; clear hv)
    go_ret
    exact ⟨rfl, hb2⟩
  · go_wp2_with (go_at_call 92; refine HI.out.mono ?_; rintro e w2 ⟨⟨v, rfl, hv⟩, hb2⟩; have hv' : ¬ 0 ≤ v := fun h0 => absurd (hv.1 h0) (by decide); clear hv)
    go_ret
    exact ⟨congrArg (fun b => Ending.returned (Value.bool b)) (decide_eq_false (by omega)), hb2⟩
set_option maxHeartbeats 1000000 in
theorem each_Rel {α : Type} {f : Nat} (ef : ∀ args w, (callFunc f args).run Try.prog w = .ok (.enter f args) w) {p : α → Bool} {W : World} {A : Option Addr} {l : List α} (c : Nat) (h : EAsk 6 f ShRel p W A l) (hl : l.length ≤ 9223372036854775807) :
    Calls Try.prog 62 #[.slice A l.length c, .func (.func f) #[] #[]] W fun e w' => e = .returned (.bool (l.all p)) ∧ Below W.heap.size W w' := by
  have hmf : ∀ (fn : Fn) (first cap : Array Value) (w : World), (Instr.makeFunc fn first cap).run Try.prog w = .ok (.func fn first cap) w := fun _ _ _ _ => rfl
  obtain ⟨W1, hW1⟩ : ∃ W1, W1 = W.alloc (.cells #[.func (.func f) #[] #[]] 81) := ⟨_, rfl⟩
  have hb1 : Below W.heap.size W W1 := by rw [hW1]; exact (Below.refl _ _).alloc (Nat.le_refl _) _
  have hp1 : Blk W1 W.heap.size [.func (.func f) #[] #[]] 81 := by rw [hW1]; exact Blk.new _ _ _
  have HI := Lib.hid (eachF_Rel ef c (h.mono hb1) hl ⟨hp1.lt, hp1.cell (i := 0) (by simp)⟩)
  have HB := Lib.hid hb1
  rw [hW1] at HI
  have HW := Lib.hid hW1
  clear h hp1 hb1 hW1
  generalize l.all p = q at *
  go_enter Try.func62, Try.ntmps62
  go_wp2_with (go_at_call 81; refine HI.out.mono ?_; rintro e w2 ⟨rfl, hb2⟩)
  go_ret
  rw [← HW.out] at hb2
  exact ⟨by cases q <;> rfl, HB.out.trans (hb2.mono HB.out.size)⟩
def ShType (cs : List Value) : Prop := ∃ (s0 : Txt) (A1 : Option Addr) (n1 c1 : Nat), cs = [strV s0, .slice A1 n1 c1]
set_option maxHeartbeats 1000000 in
theorem eachC_Type {f : Nat} (ef : ∀ args w, (callFunc f args).run Try.prog w = .ok (.enter f args) w) {q : Bool} {W : World} (s0 : Txt) (A1 : Option Addr) (n1 c1 : Nat) {pb : Nat} (hp : pb < W.heap.size ∧ W.cell? ⟨pb, 0, none⟩ = some (.func (.func f) #[] #[]))
    (hf : ∀ W', Below W.heap.size W W' → Calls Try.prog f #[.agg #[strV s0, .slice A1 n1 c1]] W' fun e w' => e = .returned (.bool q) ∧ Below W'.heap.size W' w') :
    Calls Try.prog 60 #[.agg #[strV s0, .slice A1 n1 c1], .pointer (some ⟨pb, 0, none⟩)] W fun e w' => e = .returned (.bool (!q)) ∧ Below W.heap.size W w' := by
  have hb := (Below.refl W.heap.size W).alloc (Nat.le_refl _) (.cells #[strV s0, .slice A1 n1 c1] 45)
  have HF := Lib.hid (hf _ hb)
  have HB := Lib.hid hb
  have hpa : (W.alloc (.cells #[strV s0, .slice A1 n1 c1] 45)).cell? ⟨pb, 0, none⟩ = some (.func (.func f) #[] #[]) := by rw [hb.cell (p := ⟨pb, 0, none⟩) hp.1]; exact hp.2
  clear hf hb hp
  go_enter Try.func60, Try.ntmps60
  go_wp2_with (go_at_fn f; refine HF.out.mono ?_; rintro e w2 ⟨rfl, hb2⟩)
  go_ret
  exact ⟨rfl, HB.out.trans (hb2.mono HB.out.size)⟩
set_option maxHeartbeats 1000000 in
theorem eachI_Type {α : Type} {f : Nat} (ef : ∀ args w, (callFunc f args).run Try.prog w = .ok (.enter f args) w) {p : α → Bool} {W : World} {A : Option Addr} {l : List α} (c : Nat) (h : EAsk 2 f ShType p W A l) (hl : l.length ≤ 9223372036854775807) {pb : Nat} (hp : pb < W.heap.size ∧ W.cell? ⟨pb, 0, none⟩ = some (.func (.func f) #[] #[])) :
    Calls Try.prog 75 #[.slice A l.length c, .func (.func 60) #[] #[.pointer (some ⟨pb, 0, none⟩)]] W fun e w' => (∃ v : Int, e = .returned (.int .i64 v) ∧ (0 ≤ v ↔ l.all p = false)) ∧ Below W.heap.size W w' := by
  obtain ⟨v, hv⟩ : ∃ v, v = l.all p := ⟨_, rfl⟩
  rw [← hv]
  have HV := Lib.hid hv
  have HR := Lib.hid h
  have HP : Hid (∀ W', Below W.heap.size W W' → pb < W'.heap.size ∧ W'.cell? ⟨pb, 0, none⟩ = some (.func (.func f) #[] #[])) := Lib.hid (fun W' hW => ⟨Nat.lt_of_lt_of_le hp.1 hW.size, by rw [hW.cell (p := ⟨pb, 0, none⟩) hp.1]; exact hp.2⟩)
  clear h hp hv
  go_enter Try.func75, Try.ntmps75
  go_wp2_with fail
  go_loopw [8] (fun x wr => ∃ j : Nat, j ≤ l.length ∧ x = .int .i64 j ∧ Hid (v = (l.drop j).all p) ∧ Hid (Below W.heap.size W wr)) (fun x _ => l.length - (intOf x).toNat)
  case atStart => exact ⟨0, by omega, rfl, Lib.hid (by rw [HV.out]; rfl), Lib.hid (Below.refl _ _)⟩
  case round =>
    obtain ⟨j, hj, rfl, H, BW⟩ := hrel
    by_cases hlt : j < l.length
    · have HD := Lib.hid (all_drop (p := p) hlt)
      obtain ⟨b, off, cs, rfl, ⟨s0, A1, n1, c1, rfl⟩, hc, hf⟩ := HR.out j hlt
      have hc' := hc wr BW.out
      have z0 : wr.cell? ⟨b, off + j * 2, none⟩ = some (strV s0) := hc' 0 (by decide)
      have z1 : wr.cell? ⟨b, off + j * 2 + 1, none⟩ = some (.slice A1 n1 c1) := hc' 1 (by decide)
      have HC := Lib.hid (eachC_Type ef s0 A1 n1 c1 (HP.out wr BW.out) (fun W' hW => hf W' (BW.out.trans (hW.mono BW.out.size))))
      obtain ⟨q, hq⟩ : ∃ q, p l[j] = q := ⟨_, rfl⟩
      rw [hq] at HC HD
      clear hc hc' hf hq
      cases q
      · have HN : Hid (v = false) := Lib.hid (by rw [H.out, HD.out]; rfl)
        go_wp2_with (go_at_call 60; refine HC.out.mono ?_; rintro e w2 ⟨rfl, hb2⟩)
        go_ret
        exact ⟨⟨(j : Int), rfl, by rw [HN.out]; exact ⟨fun _ => rfl, fun _ => by omega⟩⟩, hop BW.out hb2⟩
      · have HN : Hid (v = (l.drop (j + 1)).all p) := Lib.hid (by rw [H.out, HD.out]; rfl)
        go_wp2_with (go_at_call 60; refine HC.out.mono ?_; rintro e w2 ⟨rfl, hb2⟩)
        go_roundw
        case rel => exact ⟨j + 1, by omega, by go_num, HN, Lib.hid (hop BW.out hb2)⟩
        case measure => simp [intOf]; omega
    · have HN : Hid (v = true) := Lib.hid (by rw [H.out, List.drop_of_length_le (by omega)]; rfl)
      go_wp2_with fail
      go_ret
      exact ⟨⟨-1, rfl, by rw [HN.out]; exact ⟨fun h => absurd h (by decide), fun h => nomatch h⟩⟩, BW.out⟩
set_option maxHeartbeats 1000000 in
theorem eachF_Type {α : Type} {f : Nat} (ef : ∀ args w, (callFunc f args).run Try.prog w = .ok (.enter f args) w) {p : α → Bool} {W : World} {A : Option Addr} {l : List α} (c : Nat) (h : EAsk 2 f ShType p W A l) (hl : l.length ≤ 9223372036854775807) {pb : Nat} (hp : pb < W.heap.size ∧ W.cell? ⟨pb, 0, none⟩ = some (.func (.func f) #[] #[])) :
    Calls Try.prog 59 #[.slice A l.length c, .func (.func 60) #[] #[.pointer (some ⟨pb, 0, none⟩)]] W fun e w' => e = .returned (.bool (!l.all p)) ∧ Below W.heap.size W w' := by
  have HI := Lib.hid (eachI_Type ef c h hl hp)
  clear h hp
  generalize l.all p = q at *
  go_enter Try.func59, Try.ntmps59
  cases q
  · go_wp2_with (go_at_call 75; refine HI.out.mono ?_; rintro e w2 ⟨⟨v, rfl, hv⟩, hb2⟩; have hv' := hv.2 rfl; clear hv)
    go_ret
    exact ⟨rfl, hb2⟩
  · go_wp2_with (go_at_call 75; refine HI.out.mono ?_; rintro e w2 ⟨⟨v, rfl, hv⟩, hb2⟩; have hv' : ¬ 0 ≤ v := fun h0 => absurd (hv.1 h0) (by decide); clear hv)
    go_ret
    exact ⟨congrArg (fun b => Ending.returned (Value.bool b)) (decide_eq_false (by omega)), hb2⟩
set_option maxHeartbeats 1000000 in
theorem each_Type {α : Type} {f : Nat} (ef : ∀ args w, (callFunc f args).run Try.prog w = .ok (.enter f args) w) {p : α → Bool} {W : World} {A : Option Addr} {l : List α} (c : Nat) (h : EAsk 2 f ShType p W A l) (hl : l.length ≤ 9223372036854775807) :
    Calls Try.prog 36 #[.slice A l.length c, .func (.func f) #[] #[]] W fun e w' => e = .returned (.bool (l.all p)) ∧ Below W.heap.size W w' := by
  have hmf : ∀ (fn : Fn) (first cap : Array Value) (w : World), (Instr.makeFunc fn first cap).run Try.prog w = .ok (.func fn first cap) w := fun _ _ _ _ => rfl
  obtain ⟨W1, hW1⟩ : ∃ W1, W1 = W.alloc (.cells #[.func (.func f) #[] #[]] 80) := ⟨_, rfl⟩
  have hb1 : Below W.heap.size W W1 := by rw [hW1]; exact (Below.refl _ _).alloc (Nat.le_refl _) _
  have hp1 : Blk W1 W.heap.size [.func (.func f) #[] #[]] 80 := by rw [hW1]; exact Blk.new _ _ _
  have HI := Lib.hid (eachF_Type ef c (h.mono hb1) hl ⟨hp1.lt, hp1.cell (i := 0) (by simp)⟩)
  have HB := Lib.hid hb1
  rw [hW1] at HI
  have HW := Lib.hid hW1
  clear h hp1 hb1 hW1
  generalize l.all p = q at *
  go_enter Try.func36, Try.ntmps36
  go_wp2_with (go_at_call 59; refine HI.out.mono ?_; rintro e w2 ⟨rfl, hb2⟩)
  go_ret
  rw [← HW.out] at hb2
  exact ⟨by cases q <;> rfl, HB.out.trans (hb2.mono HB.out.size)⟩
end Go.Proofs.Ytpiaiibobjlipaa
namespace Go.Proofs.Ytpiaiibobjlipaa
open Go.RowKit
set_option maxRecDepth 100000 in
set_option maxHeartbeats 1000000 in
theorem pmayRef_any (x : Rf) (W : World) (F : Nat → Prop) (cs : List Value) (h : RfAt W F x cs) :
    Calls Try.prog 84 #[.agg cs.toArray] W fun e w' => e = .returned (.bool (mayRf x)) ∧ Below W.heap.size W w' := by
  obtain ⟨rfl, s1, s2⟩ := h
  obtain ⟨p1, p2⟩ := x
  dsimp only at *
  show Calls _ _ #[.agg #[strV p1, strV p2]] _ _
  obtain ⟨W1, hW⟩ : ∃ W1, W1 = W.alloc (.cells #[strV p1, strV p2] 78) := ⟨_, rfl⟩
  have HK0 : Hid (Blk W1 W.heap.size [strV p1, strV p2] 78) := by rw [hW]; exact Lib.hid (Blk.new W _ _)
  have HB0 : Hid (Below W.heap.size W W1) := by rw [hW]; exact Lib.hid ((Below.refl W.heap.size W).alloc (Nat.le_refl _) _)
  have HW := Lib.hid hW
  have HN1 := Lib.hid (fun W => name_any p1 W s1)
  have HN2 := Lib.hid (fun W => name_any p2 W s2)
  have hm : mayRf (p1, p2) = (nameL p1 && (p2.isEmpty || nameL p2)) := rfl
  rw [hm]
  obtain ⟨q1, hq1⟩ : ∃ q, nameL p1 = q := ⟨_, rfl⟩
  obtain ⟨q2, hq2⟩ : ∃ q, nameL p2 = q := ⟨_, rfl⟩
  rw [hq1] at HN1
  rw [hq2] at HN2
  rw [hq1, hq2]
  clear hq1 hq2 hm hW
  cases q1
  · go_enter Try.func84, Try.ntmps84
    go_wp2_with (go_at_call 61; rw [← HW.out]; refine (HN1.out _).mono ?_; rintro e w2 ⟨rfl, hb2⟩)
    go_ret
    exact ⟨rfl, HB0.out.trans (hb2.mono HB0.out.size)⟩
  · by_cases hp : p2 = []
    · subst hp
      go_enter Try.func84, Try.ntmps84
      go_wp2_with (go_at_call 61; rw [← HW.out]; refine (HN1.out _).mono ?_; rintro e w2 ⟨rfl, hb2⟩; have x2 := (HK0.out.below hb2 HK0.out.lt).cell (i := 1) (by simp); simp only [List.getElem_cons_succ, List.getElem_cons_zero] at x2)
      go_ret
      exact ⟨rfl, HB0.out.trans (hb2.mono HB0.out.size)⟩
    · have he := nonempty hp
      have hie : p2.isEmpty = false := by cases p2; exact absurd rfl hp; rfl
      rw [hie]
      go_enter Try.func84, Try.ntmps84
      go_wp2_with (first
        | (go_at_call 61; rw [← HW.out]; refine (HN1.out _).mono ?_; rintro e w2 ⟨rfl, hb2⟩; have x2 := (HK0.out.below hb2 HK0.out.lt).cell (i := 1) (by simp); simp only [List.getElem_cons_succ, List.getElem_cons_zero] at x2)
        | (go_at_call 61; refine (HN2.out _).mono ?_; rintro e w3 ⟨rfl, hb3⟩))
      go_ret
      have hb := HB0.out.trans (hb2.mono HB0.out.size)
      exact ⟨rfl, hb.trans (hb3.mono hb.size)⟩
theorem RfAt.sh {W : World} {F : Nat → Prop} (x : Rf) (cs : List Value) (h : RfAt W F x cs) : ShRef cs := ⟨_, _, h.1⟩
theorem RlAt.sh {W : World} {F : Nat → Prop} (x : Rl) (cs : List Value) (h : RlAt W F x cs) : ShRel cs := by
  obtain ⟨A, c, k, n, o, E, m, d, rfl, _⟩ := h.six
  exact ⟨_, _, _, _, _, _, _, _, _, _, rfl⟩
theorem TyAt.sh {W : World} {F : Nat → Prop} (x : Ty) (cs : List Value) (h : TyAt W F x cs) : ShType cs := by
  obtain ⟨A, c, rfl, _⟩ := h
  exact ⟨_, _, _, _, rfl⟩
set_option maxRecDepth 100000 in
set_option maxHeartbeats 1000000 in
theorem pmayRel_any (x : Rl) (W : World) (F : Nat → Prop) (cs : List Value) (hx : RlAt W F x cs) :
    Calls Try.prog 63 #[.agg cs.toArray] W fun r w' => r = .returned (.bool (mayR x)) ∧ Below W.heap.size W w' := by
  obtain ⟨A, c, k, n, o, E, m, d, rfl, ⟨hn, hl⟩, hr, he⟩ := hx.six
  have hef : ∀ args w, (callFunc 84 args).run Try.prog w = .ok (.enter 84 args) w := fun _ _ => rfl
  obtain ⟨a, rs, ex⟩ := x
  dsimp only at *
  show Calls _ _ #[.agg #[strV a, .slice A rs.length c, .int .i64 k, strV n, strV o, .slice E m d]] _ _
  obtain ⟨W1, hW⟩ : ∃ W1, W1 = W.alloc (.cells #[strV a, .slice A rs.length c, .int .i64 k, strV n, strV o, .slice E m d] 48) := ⟨_, rfl⟩
  have HK0 : Hid (Blk W1 W.heap.size [strV a, .slice A rs.length c, .int .i64 k, strV n, strV o, .slice E m d] 48) := by rw [hW]; exact Lib.hid (Blk.new W _ _)
  have HB0 : Hid (Below W.heap.size W W1) := by rw [hW]; exact Lib.hid ((Below.refl W.heap.size W).alloc (Nat.le_refl _) _)
  have HNa := Lib.hid (fun W => name_any a W hn)
  have hea : EAsk 2 84 ShRef mayRf W A rs := RowAt.asks hr RfAt.sh (fun x _ cs hcs W' _ => pmayRef_any x W' F cs hcs)
  have HR := Lib.hid (fun W' (hW' : Below W.heap.size W W') => each_Ref hef c (hea.mono hW') hl)
  have HE := Lib.hid (fun W' (hW' : Below W.heap.size W W') => pmayExpr_any ex W' F _ 12 (he.below hW') (by omega))
  have HW := Lib.hid hW
  have hm : mayR ⟨a, rs, ex⟩ = (nameL a && (rs.all mayRf && (decide (0 < rs.length) || mayE ex 12))) := rfl
  rw [hm]
  obtain ⟨q, hq⟩ : ∃ q, nameL a = q := ⟨_, rfl⟩
  rw [hq] at HNa
  rw [hq]
  clear hr he hx hW hea hm hq
  by_cases h0 : rs.length = 0
  · have hd : ((rs.length : Int) == 0) = true := beq_iff_eq.2 (by omega)
    have h1 : decide (0 < rs.length) = false := decide_eq_false (by omega)
    have h2 : rs = [] := List.length_eq_zero_iff.1 h0
    have HV : Hid ((nameL a && (rs.all mayRf && (decide (0 < rs.length) || mayE ex 12))) = (nameL a && mayE ex 12)) := by
      rw [h1, h2]; exact Lib.hid rfl
    have hv : (q && (rs.all mayRf && (decide (0 < rs.length) || mayE ex 12))) = (q && mayE ex 12) := by rw [h1, h2]; rfl
    rw [hv]
    clear hv h1 h2 HV h0
    generalize mayE ex 12 = z at *
    cases q
    · go_enter Try.func63, Try.ntmps63
      go_wp2_with (go_at_call 61; rw [← HW.out]; refine (HNa.out _).mono ?_; rintro e w2 ⟨rfl, hb2⟩)
      go_ret
      exact ⟨rfl, HB0.out.trans (hb2.mono HB0.out.size)⟩
    · go_enter Try.func63, Try.ntmps63
      go_wp2_with (first
        | (go_at_call 61; rw [← HW.out]; refine (HNa.out _).mono ?_; rintro e w2 ⟨rfl, hb2⟩; have x2 := (HK0.out.below hb2 HK0.out.lt).cell (i := 2) (by simp); have x3 := (HK0.out.below hb2 HK0.out.lt).cell (i := 3) (by simp); have x4 := (HK0.out.below hb2 HK0.out.lt).cell (i := 4) (by simp); have x5 := (HK0.out.below hb2 HK0.out.lt).cell (i := 5) (by simp); simp only [List.getElem_cons_succ, List.getElem_cons_zero] at x2 x3 x4 x5; have HB2 := Lib.hid (HB0.out.trans (hb2.mono HB0.out.size)); have HE2 := Lib.hid (HE.out _ HB2.out); clear hb2)
        | (go_at_call 40; refine HE2.out.mono ?_; rintro e w3 ⟨rfl, hb3⟩))
      go_ret
      exact ⟨rfl, HB2.out.trans (hb3.mono HB2.out.size)⟩
  · have hd : ((rs.length : Int) == 0) = false := beq_eq_false_iff_ne.2 (by omega)
    have h1 : decide (0 < rs.length) = true := decide_eq_true (by omega)
    have hv : (q && (rs.all mayRf && (decide (0 < rs.length) || mayE ex 12))) = (q && rs.all mayRf) := by rw [h1]; simp
    rw [hv]
    clear hv h1
    generalize rs.all mayRf = z at *
    cases q
    · go_enter Try.func63, Try.ntmps63
      go_wp2_with (go_at_call 61; rw [← HW.out]; refine (HNa.out _).mono ?_; rintro e w2 ⟨rfl, hb2⟩)
      go_ret
      exact ⟨rfl, HB0.out.trans (hb2.mono HB0.out.size)⟩
    · go_enter Try.func63, Try.ntmps63
      go_wp2_with (first
        | (go_at_call 61; rw [← HW.out]; refine (HNa.out _).mono ?_; rintro e w2 ⟨rfl, hb2⟩; have x1 := (HK0.out.below hb2 HK0.out.lt).cell (i := 1) (by simp); simp only [List.getElem_cons_succ, List.getElem_cons_zero] at x1; have HB2 := Lib.hid (HB0.out.trans (hb2.mono HB0.out.size)); have HR2 := Lib.hid (HR.out _ HB2.out); clear hb2)
        | (go_at_call 83; refine HR2.out.mono ?_; rintro e w3 ⟨rfl, hb3⟩))
      go_ret
      exact ⟨rfl, HB2.out.trans (hb3.mono HB2.out.size)⟩
set_option maxRecDepth 100000 in
set_option maxHeartbeats 1000000 in
theorem pmayType_any (x : Ty) (W : World) (F : Nat → Prop) (cs : List Value) (hx : TyAt W F x cs) :
    Calls Try.prog 37 #[.agg cs.toArray] W fun r w' => r = .returned (.bool (mayT x)) ∧ Below W.heap.size W w' := by
  obtain ⟨A, c, rfl, ⟨hn, hl⟩, hr⟩ := hx
  have hef : ∀ args w, (callFunc 63 args).run Try.prog w = .ok (.enter 63 args) w := fun _ _ => rfl
  obtain ⟨a, rs⟩ := x
  dsimp only at *
  show Calls _ _ #[.agg #[strV a, .slice A rs.length c]] _ _
  obtain ⟨W1, hW⟩ : ∃ W1, W1 = W.alloc (.cells #[strV a, .slice A rs.length c] 45) := ⟨_, rfl⟩
  have HK0 : Hid (Blk W1 W.heap.size [strV a, .slice A rs.length c] 45) := by rw [hW]; exact Lib.hid (Blk.new W _ _)
  have HB0 : Hid (Below W.heap.size W W1) := by rw [hW]; exact Lib.hid ((Below.refl W.heap.size W).alloc (Nat.le_refl _) _)
  have HNa := Lib.hid (fun W => name_any a W hn)
  have hea : EAsk 6 63 ShRel mayR W A rs := RowAt.asks hr RlAt.sh (fun x _ cs hcs W' hW' => pmayRel_any x W' F cs (hcs.below hW'))
  have HR := Lib.hid (fun W' (hW' : Below W.heap.size W W') => each_Rel hef c (hea.mono hW') hl)
  have HW := Lib.hid hW
  have hm : mayT ⟨a, rs⟩ = (nameL a && rs.all mayR) := rfl
  rw [hm]
  obtain ⟨q, hq⟩ : ∃ q, nameL a = q := ⟨_, rfl⟩
  rw [hq] at HNa
  rw [hq]
  clear hr hW hea hm hq
  generalize rs.all mayR = z at *
  cases q
  · go_enter Try.func37, Try.ntmps37
    go_wp2_with (go_at_call 61; rw [← HW.out]; refine (HNa.out _).mono ?_; rintro e w2 ⟨rfl, hb2⟩)
    go_ret
    exact ⟨rfl, HB0.out.trans (hb2.mono HB0.out.size)⟩
  · go_enter Try.func37, Try.ntmps37
    go_wp2_with (first
      | (go_at_call 61; rw [← HW.out]; refine (HNa.out _).mono ?_; rintro e w2 ⟨rfl, hb2⟩; have x1 := (HK0.out.below hb2 HK0.out.lt).cell (i := 1) (by simp); simp only [List.getElem_cons_succ, List.getElem_cons_zero] at x1; have HB2 := Lib.hid (HB0.out.trans (hb2.mono HB0.out.size)); have HR2 := Lib.hid (HR.out _ HB2.out); clear hb2)
      | (go_at_call 62; refine HR2.out.mono ?_; rintro e w3 ⟨rfl, hb3⟩))
    go_ret
    exact ⟨rfl, HB2.out.trans (hb3.mono HB2.out.size)⟩
set_option maxRecDepth 100000 in
set_option maxHeartbeats 1000000 in
theorem pmay_any (s : Sc) (W : World) (F : Nat → Prop) (A : Option Addr) (c : Nat) (hs : ScAt W F A s) (hl : s.length ≤ 9223372036854775807) :
    Calls Try.prog 16 #[.agg #[.slice A s.length c]] W fun r w' => r = .returned (.bool (mayS s)) ∧ Below W.heap.size W w' := by
  have hef : ∀ args w, (callFunc 37 args).run Try.prog w = .ok (.enter 37 args) w := fun _ _ => rfl
  obtain ⟨W1, hW⟩ : ∃ W1, W1 = W.alloc (.cells #[.slice A s.length c] 25) := ⟨_, rfl⟩
  have HB0 : Hid (Below W.heap.size W W1) := by rw [hW]; exact Lib.hid ((Below.refl W.heap.size W).alloc (Nat.le_refl _) _)
  have hr : RowAt 2 TyAt W F A s := hs
  have hea : EAsk 2 37 ShType mayT W A s := RowAt.asks hr TyAt.sh (fun x _ cs hcs W' hW' => pmayType_any x W' F cs (hcs.below hW'))
  have HR := Lib.hid (each_Type hef c (hea.mono HB0.out) hl)
  have HW := Lib.hid hW
  have hm : mayS s = s.all mayT := rfl
  rw [hm]
  clear hr hs hW hea hm
  generalize s.all mayT = z at *
  go_enter Try.func16, Try.ntmps16
  go_wp2_with (go_at_call 36; rw [← HW.out]; refine HR.out.mono ?_; rintro e w3 ⟨rfl, hb3⟩)
  go_ret
  exact ⟨rfl, HB0.out.trans (hb3.mono HB0.out.size)⟩
end Go.Proofs.Ytpiaiibobjlipaa
