/-
  each over refs, relations, types: are all as they may be? By the contract of what asks it of one. Conditions: the list is there.
  What the program's Name and ID come to. Condition: a string's length fits an int.
  What the program's Name comes to, on a list. Condition: a string's length fits an int.
-/
import Derived.Test.YtdnhbledndgbcaaGreatCRlTy
import Derived.Test.YtdnhbledndgbcaaGreatCRuT
import Derived.Shelf.Abstract
import Derived.Test.YtdnhbledndgbcaaGreatCNmRefN
namespace Go.Proofs.YtdnhbledndgbcaaGreat
open Go.RowKit
def EAsk {α : Type} (n f : Nat) (Sh : List Value → Prop) (p : α → Bool) (W : World) (A : Option Addr) (l : List α) : Prop :=
  ∀ j (hj : j < l.length), ∃ b off cs, A = some ⟨b, off, none⟩ ∧ Sh cs ∧ (∀ W', Below W.heap.size W W' → ∀ i, i < n → W'.cell? ⟨b, off + j * n + i, none⟩ = cs[i]?) ∧
    ∀ W', Below W.heap.size W W' → Calls Tryz.prog f #[.agg cs.toArray] W' fun e w' => e = .returned (.bool (p l[j])) ∧ Below W'.heap.size W' w'
theorem EAsk.mono {α : Type} {n f : Nat} {Sh : List Value → Prop} {p : α → Bool} {W W1 : World} {A : Option Addr} {l : List α} (h : EAsk n f Sh p W A l) (hb : Below W.heap.size W W1) : EAsk n f Sh p W1 A l := by
  intro j hj
  obtain ⟨b, off, cs, h1, h2, h3, h4⟩ := h j hj
  exact ⟨b, off, cs, h1, h2, fun W' hW => h3 W' (hb.trans (hW.mono hb.size)), fun W' hW => h4 W' (hb.trans (hW.mono hb.size))⟩
theorem RowAt.asks {α : Type} {n f : Nat} {R : World → (Nat → Prop) → α → List Value → Prop} {Sh : List Value → Prop} {p : α → Bool} {W : World} {F : Nat → Prop} {A : Option Addr} {l : List α} (h : RowAt n R W F A l)
    (hS : ∀ x cs, R W F x cs → Sh cs) (hf : ∀ x ∈ l, ∀ cs, R W F x cs → ∀ W', Below W.heap.size W W' → Calls Tryz.prog f #[.agg cs.toArray] W' fun e w' => e = .returned (.bool (p x)) ∧ Below W'.heap.size W' w') : EAsk n f Sh p W A l := by
  intro j hj
  rcases h with rfl | ⟨b, off, rfl, hb, _, hk⟩
  · simp at hj
  · obtain ⟨cs, h1, h2⟩ := hk j hj
    exact ⟨b, off, cs, rfl, hS _ _ h1, fun W' hW i hi => (hW.cell (p := ⟨b, off + j * n + i, none⟩) hb).trans (h2 i hi), hf _ (List.getElem_mem hj) cs h1⟩
def ShRef (cs : List Value) : Prop := ∃ (s0 s1 : Txt), cs = [strV s0, strV s1]
set_option maxHeartbeats 1000000 in
theorem eachC_Ref {f : Nat} (ef : ∀ args w, (callFunc f args).run Tryz.prog w = .ok (.enter f args) w) {q : Bool} {W : World} (s0 s1 : Txt) {pb : Nat} (hp : pb < W.heap.size ∧ W.cell? ⟨pb, 0, none⟩ = some (.func (.func f) #[] #[]))
    (hf : ∀ W', Below W.heap.size W W' → Calls Tryz.prog f #[.agg #[strV s0, strV s1]] W' fun e w' => e = .returned (.bool q) ∧ Below W'.heap.size W' w') :
    Calls Tryz.prog 107 #[.agg #[strV s0, strV s1], .pointer (some ⟨pb, 0, none⟩)] W fun e w' => e = .returned (.bool (!q)) ∧ Below W.heap.size W w' := by
  have hb := (Below.refl W.heap.size W).alloc (Nat.le_refl _) (.cells #[strV s0, strV s1] 40)
  have HF := Lib.hid (hf _ hb)
  have HB := Lib.hid hb
  have hpa : (W.alloc (.cells #[strV s0, strV s1] 40)).cell? ⟨pb, 0, none⟩ = some (.func (.func f) #[] #[]) := by rw [hb.cell (p := ⟨pb, 0, none⟩) hp.1]; exact hp.2
  clear hf hb hp
  go_enter Tryz.func107, Tryz.ntmps107
  go_wp2_with (go_at_fn f; refine HF.out.mono ?_; rintro e w2 ⟨rfl, hb2⟩)
  go_ret
  exact ⟨rfl, HB.out.trans (hb2.mono HB.out.size)⟩
set_option maxHeartbeats 1000000 in
theorem eachI_Ref {α : Type} {f : Nat} (ef : ∀ args w, (callFunc f args).run Tryz.prog w = .ok (.enter f args) w) {p : α → Bool} {W : World} {A : Option Addr} {l : List α} (c : Nat) (h : EAsk 2 f ShRef p W A l) (hl : l.length ≤ 9223372036854775807) {pb : Nat} (hp : pb < W.heap.size ∧ W.cell? ⟨pb, 0, none⟩ = some (.func (.func f) #[] #[])) :
    Calls Tryz.prog 74 #[.slice A l.length c, .func (.func 107) #[] #[.pointer (some ⟨pb, 0, none⟩)]] W fun e w' => (∃ v : Int, e = .returned (.int .i64 v) ∧ (0 ≤ v ↔ l.all p = false)) ∧ Below W.heap.size W w' := by
  obtain ⟨v, hv⟩ : ∃ v, v = l.all p := ⟨_, rfl⟩
  rw [← hv]
  have HV := Lib.hid hv
  have HR := Lib.hid h
  have HP : Hid (∀ W', Below W.heap.size W W' → pb < W'.heap.size ∧ W'.cell? ⟨pb, 0, none⟩ = some (.func (.func f) #[] #[])) := Lib.hid (fun W' hW => ⟨Nat.lt_of_lt_of_le hp.1 hW.size, by rw [hW.cell (p := ⟨pb, 0, none⟩) hp.1]; exact hp.2⟩)
  clear h hp hv
  go_enter Tryz.func74, Tryz.ntmps74
  go_wp2_with fail
  go_loopw [8] (fun x wr => ∃ j : Nat, j ≤ l.length ∧ x = .int .i64 j ∧ Hid (v = (l.drop j).all p) ∧ Hid (Below W.heap.size W wr)) (fun x _ => l.length - (intOf x).toNat)
  case atStart => exact ⟨0, by omega, rfl, Lib.hid (by rw [HV.out]; rfl), Lib.hid (Below.refl _ _)⟩
  case round =>
    obtain ⟨j, hj, rfl, H, BW⟩ := hrel
    by_cases hlt : j < l.length
    · have HD := Lib.hid (all_drop (p := p) hlt)
      obtain ⟨b, off, cs, rfl, ⟨s0, s1, rfl⟩, hc, hf⟩ := HR.out j hlt
      have hc' := hc wr BW.out
      have z0 : wr.cell? ⟨b, off + j * 2, none⟩ = some (strV s0) := hc' 0 (by decide)
      have z1 : wr.cell? ⟨b, off + j * 2 + 1, none⟩ = some (strV s1) := hc' 1 (by decide)
      have HC := Lib.hid (eachC_Ref ef s0 s1 (HP.out wr BW.out) (fun W' hW => hf W' (BW.out.trans (hW.mono BW.out.size))))
      obtain ⟨q, hq⟩ : ∃ q, p l[j] = q := ⟨_, rfl⟩
      rw [hq] at HC HD
      clear hc hc' hf hq
      cases q
      · have HN : Hid (v = false) := Lib.hid (by rw [H.out, HD.out]; rfl)
        go_wp2_with (go_at_call 107; refine HC.out.mono ?_; rintro e w2 ⟨rfl, hb2⟩)
        go_ret
        exact ⟨⟨(j : Int), rfl, by rw [HN.out]; exact ⟨fun _ => rfl, fun _ => by omega⟩⟩, hop BW.out hb2⟩
      · have HN : Hid (v = (l.drop (j + 1)).all p) := Lib.hid (by rw [H.out, HD.out]; rfl)
        go_wp2_with (go_at_call 107; refine HC.out.mono ?_; rintro e w2 ⟨rfl, hb2⟩)
        go_roundw
        case rel => exact ⟨j + 1, by omega, by go_num, HN, Lib.hid (hop BW.out hb2)⟩
        case measure => simp [intOf]; omega
    · have HN : Hid (v = true) := Lib.hid (by rw [H.out, List.drop_of_length_le (by omega)]; rfl)
      go_wp2_with fail
      go_ret
      exact ⟨⟨-1, rfl, by rw [HN.out]; exact ⟨fun h => absurd h (by decide), fun h => nomatch h⟩⟩, BW.out⟩
set_option maxHeartbeats 1000000 in
theorem eachF_Ref {α : Type} {f : Nat} (ef : ∀ args w, (callFunc f args).run Tryz.prog w = .ok (.enter f args) w) {p : α → Bool} {W : World} {A : Option Addr} {l : List α} (c : Nat) (h : EAsk 2 f ShRef p W A l) (hl : l.length ≤ 9223372036854775807) {pb : Nat} (hp : pb < W.heap.size ∧ W.cell? ⟨pb, 0, none⟩ = some (.func (.func f) #[] #[])) :
    Calls Tryz.prog 106 #[.slice A l.length c, .func (.func 107) #[] #[.pointer (some ⟨pb, 0, none⟩)]] W fun e w' => e = .returned (.bool (!l.all p)) ∧ Below W.heap.size W w' := by
  have HI := Lib.hid (eachI_Ref ef c h hl hp)
  clear h hp
  generalize l.all p = q at *
  go_enter Tryz.func106, Tryz.ntmps106
  cases q
  · go_wp2_with (go_at_call 74; refine HI.out.mono ?_; rintro e w2 ⟨⟨v, rfl, hv⟩, hb2⟩; have hv' := hv.2 rfl; clear hv)
    go_ret
    exact ⟨rfl, hb2⟩
  · go_wp2_with (go_at_call 74; refine HI.out.mono ?_; rintro e w2 ⟨⟨v, rfl, hv⟩, hb2⟩; have hv' : ¬ 0 ≤ v := fun h0 => absurd (hv.1 h0) (by decide); clear hv)
    go_ret
    exact ⟨congrArg (fun b => Ending.returned (Value.bool b)) (decide_eq_false (by omega)), hb2⟩
set_option maxHeartbeats 1000000 in
theorem each_Ref {α : Type} {f : Nat} (ef : ∀ args w, (callFunc f args).run Tryz.prog w = .ok (.enter f args) w) {p : α → Bool} {W : World} {A : Option Addr} {l : List α} (c : Nat) (h : EAsk 2 f ShRef p W A l) (hl : l.length ≤ 9223372036854775807) :
    Calls Tryz.prog 103 #[.slice A l.length c, .func (.func f) #[] #[]] W fun e w' => e = .returned (.bool (l.all p)) ∧ Below W.heap.size W w' := by
  have hmf : ∀ (fn : Fn) (first cap : Array Value) (w : World), (Instr.makeFunc fn first cap).run Tryz.prog w = .ok (.func fn first cap) w := fun _ _ _ _ => rfl
  obtain ⟨W1, hW1⟩ : ∃ W1, W1 = W.alloc (.cells #[.func (.func f) #[] #[]] 119) := ⟨_, rfl⟩
  have hb1 : Below W.heap.size W W1 := by rw [hW1]; exact (Below.refl _ _).alloc (Nat.le_refl _) _
  have hp1 : Blk W1 W.heap.size [.func (.func f) #[] #[]] 119 := by rw [hW1]; exact Blk.new _ _ _
  have HI := Lib.hid (eachF_Ref ef c (h.mono hb1) hl ⟨hp1.lt, hp1.cell (i := 0) (by simp)⟩)
  have HB := Lib.hid hb1
  rw [hW1] at HI
  have HW := Lib.hid hW1
  clear h hp1 hb1 hW1
  generalize l.all p = q at *
  go_enter Tryz.func103, Tryz.ntmps103
  go_wp2_with (go_at_call 106; refine HI.out.mono ?_; rintro e w2 ⟨rfl, hb2⟩)
  go_ret
  rw [← HW.out] at hb2
  exact ⟨by cases q <;> rfl, HB.out.trans (hb2.mono HB.out.size)⟩
def ShRel (cs : List Value) : Prop := ∃ (s0 : Txt) (A1 : Option Addr) (n1 c1 : Nat) (k : Int) (s2 s3 : Txt) (A2 : Option Addr) (n2 c2 : Nat), cs = [strV s0, .slice A1 n1 c1, .int .i64 k, strV s2, strV s3, .slice A2 n2 c2]
set_option maxHeartbeats 1000000 in
theorem eachC_Rel {f : Nat} (ef : ∀ args w, (callFunc f args).run Tryz.prog w = .ok (.enter f args) w) {q : Bool} {W : World} (s0 : Txt) (A1 : Option Addr) (n1 c1 : Nat) (k : Int) (s2 s3 : Txt) (A2 : Option Addr) (n2 c2 : Nat) {pb : Nat} (hp : pb < W.heap.size ∧ W.cell? ⟨pb, 0, none⟩ = some (.func (.func f) #[] #[]))
    (hf : ∀ W', Below W.heap.size W W' → Calls Tryz.prog f #[.agg #[strV s0, .slice A1 n1 c1, .int .i64 k, strV s2, strV s3, .slice A2 n2 c2]] W' fun e w' => e = .returned (.bool q) ∧ Below W'.heap.size W' w') :
    Calls Tryz.prog 101 #[.agg #[strV s0, .slice A1 n1 c1, .int .i64 k, strV s2, strV s3, .slice A2 n2 c2], .pointer (some ⟨pb, 0, none⟩)] W fun e w' => e = .returned (.bool (!q)) ∧ Below W.heap.size W w' := by
  have hb := (Below.refl W.heap.size W).alloc (Nat.le_refl _) (.cells #[strV s0, .slice A1 n1 c1, .int .i64 k, strV s2, strV s3, .slice A2 n2 c2] 46)
  have HF := Lib.hid (hf _ hb)
  have HB := Lib.hid hb
  have hpa : (W.alloc (.cells #[strV s0, .slice A1 n1 c1, .int .i64 k, strV s2, strV s3, .slice A2 n2 c2] 46)).cell? ⟨pb, 0, none⟩ = some (.func (.func f) #[] #[]) := by rw [hb.cell (p := ⟨pb, 0, none⟩) hp.1]; exact hp.2
  clear hf hb hp
  go_enter Tryz.func101, Tryz.ntmps101
  go_wp2_with (go_at_fn f; refine HF.out.mono ?_; rintro e w2 ⟨rfl, hb2⟩)
  go_ret
  exact ⟨rfl, HB.out.trans (hb2.mono HB.out.size)⟩
set_option maxHeartbeats 1000000 in
theorem eachI_Rel {α : Type} {f : Nat} (ef : ∀ args w, (callFunc f args).run Tryz.prog w = .ok (.enter f args) w) {p : α → Bool} {W : World} {A : Option Addr} {l : List α} (c : Nat) (h : EAsk 6 f ShRel p W A l) (hl : l.length ≤ 9223372036854775807) {pb : Nat} (hp : pb < W.heap.size ∧ W.cell? ⟨pb, 0, none⟩ = some (.func (.func f) #[] #[])) :
    Calls Tryz.prog 22 #[.slice A l.length c, .func (.func 101) #[] #[.pointer (some ⟨pb, 0, none⟩)]] W fun e w' => (∃ v : Int, e = .returned (.int .i64 v) ∧ (0 ≤ v ↔ l.all p = false)) ∧ Below W.heap.size W w' := by
  obtain ⟨v, hv⟩ : ∃ v, v = l.all p := ⟨_, rfl⟩
  rw [← hv]
  have HV := Lib.hid hv
  have HR := Lib.hid h
  have HP : Hid (∀ W', Below W.heap.size W W' → pb < W'.heap.size ∧ W'.cell? ⟨pb, 0, none⟩ = some (.func (.func f) #[] #[])) := Lib.hid (fun W' hW => ⟨Nat.lt_of_lt_of_le hp.1 hW.size, by rw [hW.cell (p := ⟨pb, 0, none⟩) hp.1]; exact hp.2⟩)
  clear h hp hv
  go_enter Tryz.func22, Tryz.ntmps22
  go_wp2_with fail
  go_loopw [8] (fun x wr => ∃ j : Nat, j ≤ l.length ∧ x = .int .i64 j ∧ Hid (v = (l.drop j).all p) ∧ Hid (Below W.heap.size W wr)) (fun x _ => l.length - (intOf x).toNat)
  case atStart => exact ⟨0, by omega, rfl, Lib.hid (by rw [HV.out]; rfl), Lib.hid (Below.refl _ _)⟩
  case round =>
    obtain ⟨j, hj, rfl, H, BW⟩ := hrel
    by_cases hlt : j < l.length
    · have HD := Lib.hid (all_drop (p := p) hlt)
      obtain ⟨b, off, cs, rfl, ⟨s0, A1, n1, c1, k, s2, s3, A2, n2, c2, rfl⟩, hc, hf⟩ := HR.out j hlt
      have hc' := hc wr BW.out
      have z0 : wr.cell? ⟨b, off + j * 6, none⟩ = some (strV s0) := hc' 0 (by decide)
      have z1 : wr.cell? ⟨b, off + j * 6 + 1, none⟩ = some (.slice A1 n1 c1) := hc' 1 (by decide)
      have z2 : wr.cell? ⟨b, off + j * 6 + 2, none⟩ = some (.int .i64 k) := hc' 2 (by decide)
      have z3 : wr.cell? ⟨b, off + j * 6 + 3, none⟩ = some (strV s2) := hc' 3 (by decide)
      have z4 : wr.cell? ⟨b, off + j * 6 + 4, none⟩ = some (strV s3) := hc' 4 (by decide)
      have z5 : wr.cell? ⟨b, off + j * 6 + 5, none⟩ = some (.slice A2 n2 c2) := hc' 5 (by decide)
      have HC := Lib.hid (eachC_Rel ef s0 A1 n1 c1 k s2 s3 A2 n2 c2 (HP.out wr BW.out) (fun W' hW => hf W' (BW.out.trans (hW.mono BW.out.size))))
      obtain ⟨q, hq⟩ : ∃ q, p l[j] = q := ⟨_, rfl⟩
      rw [hq] at HC HD
      clear hc hc' hf hq
      cases q
      · have HN : Hid (v = false) := Lib.hid (by rw [H.out, HD.out]; rfl)
        go_wp2_with (go_at_call 101; refine HC.out.mono ?_; rintro e w2 ⟨rfl, hb2⟩)
        go_ret
        exact ⟨⟨(j : Int), rfl, by rw [HN.out]; exact ⟨fun _ => rfl, fun _ => by omega⟩⟩, hop BW.out hb2⟩
      · have HN : Hid (v = (l.drop (j + 1)).all p) := Lib.hid (by rw [H.out, HD.out]; rfl)
        go_wp2_with (go_at_call 101; refine HC.out.mono ?_; rintro e w2 ⟨rfl, hb2⟩)
        go_roundw
        case rel => exact ⟨j + 1, by omega, by go_num, HN, Lib.hid (hop BW.out hb2)⟩
        case measure => simp [intOf]; omega
    · have HN : Hid (v = true) := Lib.hid (by rw [H.out, List.drop_of_length_le (by omega)]; rfl)
      go_wp2_with fail
      go_ret
      exact ⟨⟨-1, rfl, by rw [HN.out]; exact ⟨fun h => absurd h (by decide), fun h => nomatch h⟩⟩, BW.out⟩
set_option maxHeartbeats 1000000 in
theorem eachF_Rel {α : Type} {f : Nat} (ef : ∀ args w, (callFunc f args).run Tryz.prog w = .ok (.enter f args) w) {p : α → Bool} {W : World} {A : Option Addr} {l : List α} (c : Nat) (h : EAsk 6 f ShRel p W A l) (hl : l.length ≤ 9223372036854775807) {pb : Nat} (hp : pb < W.heap.size ∧ W.cell? ⟨pb, 0, none⟩ = some (.func (.func f) #[] #[])) :
    Calls Tryz.prog 56 #[.slice A l.length c, .func (.func 101) #[] #[.pointer (some ⟨pb, 0, none⟩)]] W fun e w' => e = .returned (.bool (!l.all p)) ∧ Below W.heap.size W w' := by
  have HI := Lib.hid (eachI_Rel ef c h hl hp)
  clear h hp
  generalize l.all p = q at *
  go_enter Tryz.func56, Tryz.ntmps56
  cases q
  · go_wp2_with (go_at_call 22; refine HI.out.mono ?_; rintro e w2 ⟨⟨v, rfl, hv⟩, hb2⟩; have hv' := hv.2 rfl; clear hv)
    go_ret
    exact ⟨rfl, hb2⟩
  · go_wp2_with (go_at_call 22; refine HI.out.mono ?_; rintro e w2 ⟨⟨v, rfl, hv⟩, hb2⟩; have hv' : ¬ 0 ≤ v := fun h0 => absurd (hv.1 h0) (by decide); clear hv)
    go_ret
    exact ⟨congrArg (fun b => Ending.returned (Value.bool b)) (decide_eq_false (by omega)), hb2⟩
set_option maxHeartbeats 1000000 in
theorem each_Rel {α : Type} {f : Nat} (ef : ∀ args w, (callFunc f args).run Tryz.prog w = .ok (.enter f args) w) {p : α → Bool} {W : World} {A : Option Addr} {l : List α} (c : Nat) (h : EAsk 6 f ShRel p W A l) (hl : l.length ≤ 9223372036854775807) :
    Calls Tryz.prog 89 #[.slice A l.length c, .func (.func f) #[] #[]] W fun e w' => e = .returned (.bool (l.all p)) ∧ Below W.heap.size W w' := by
  have hmf : ∀ (fn : Fn) (first cap : Array Value) (w : World), (Instr.makeFunc fn first cap).run Tryz.prog w = .ok (.func fn first cap) w := fun _ _ _ _ => rfl
  obtain ⟨W1, hW1⟩ : ∃ W1, W1 = W.alloc (.cells #[.func (.func f) #[] #[]] 63) := ⟨_, rfl⟩
  have hb1 : Below W.heap.size W W1 := by rw [hW1]; exact (Below.refl _ _).alloc (Nat.le_refl _) _
  have hp1 : Blk W1 W.heap.size [.func (.func f) #[] #[]] 63 := by rw [hW1]; exact Blk.new _ _ _
  have HI := Lib.hid (eachF_Rel ef c (h.mono hb1) hl ⟨hp1.lt, hp1.cell (i := 0) (by simp)⟩)
  have HB := Lib.hid hb1
  rw [hW1] at HI
  have HW := Lib.hid hW1
  clear h hp1 hb1 hW1
  generalize l.all p = q at *
  go_enter Tryz.func89, Tryz.ntmps89
  go_wp2_with (go_at_call 56; refine HI.out.mono ?_; rintro e w2 ⟨rfl, hb2⟩)
  go_ret
  rw [← HW.out] at hb2
  exact ⟨by cases q <;> rfl, HB.out.trans (hb2.mono HB.out.size)⟩
def ShType (cs : List Value) : Prop := ∃ (s0 : Txt) (A1 : Option Addr) (n1 c1 : Nat), cs = [strV s0, .slice A1 n1 c1]
set_option maxHeartbeats 1000000 in
theorem eachC_Type {f : Nat} (ef : ∀ args w, (callFunc f args).run Tryz.prog w = .ok (.enter f args) w) {q : Bool} {W : World} (s0 : Txt) (A1 : Option Addr) (n1 c1 : Nat) {pb : Nat} (hp : pb < W.heap.size ∧ W.cell? ⟨pb, 0, none⟩ = some (.func (.func f) #[] #[]))
    (hf : ∀ W', Below W.heap.size W W' → Calls Tryz.prog f #[.agg #[strV s0, .slice A1 n1 c1]] W' fun e w' => e = .returned (.bool q) ∧ Below W'.heap.size W' w') :
    Calls Tryz.prog 87 #[.agg #[strV s0, .slice A1 n1 c1], .pointer (some ⟨pb, 0, none⟩)] W fun e w' => e = .returned (.bool (!q)) ∧ Below W.heap.size W w' := by
  have hb := (Below.refl W.heap.size W).alloc (Nat.le_refl _) (.cells #[strV s0, .slice A1 n1 c1] 38)
  have HF := Lib.hid (hf _ hb)
  have HB := Lib.hid hb
  have hpa : (W.alloc (.cells #[strV s0, .slice A1 n1 c1] 38)).cell? ⟨pb, 0, none⟩ = some (.func (.func f) #[] #[]) := by rw [hb.cell (p := ⟨pb, 0, none⟩) hp.1]; exact hp.2
  clear hf hb hp
  go_enter Tryz.func87, Tryz.ntmps87
  go_wp2_with (go_at_fn f; refine HF.out.mono ?_; rintro e w2 ⟨rfl, hb2⟩)
  go_ret
  exact ⟨rfl, HB.out.trans (hb2.mono HB.out.size)⟩
set_option maxHeartbeats 1000000 in
theorem eachI_Type {α : Type} {f : Nat} (ef : ∀ args w, (callFunc f args).run Tryz.prog w = .ok (.enter f args) w) {p : α → Bool} {W : World} {A : Option Addr} {l : List α} (c : Nat) (h : EAsk 2 f ShType p W A l) (hl : l.length ≤ 9223372036854775807) {pb : Nat} (hp : pb < W.heap.size ∧ W.cell? ⟨pb, 0, none⟩ = some (.func (.func f) #[] #[])) :
    Calls Tryz.prog 20 #[.slice A l.length c, .func (.func 87) #[] #[.pointer (some ⟨pb, 0, none⟩)]] W fun e w' => (∃ v : Int, e = .returned (.int .i64 v) ∧ (0 ≤ v ↔ l.all p = false)) ∧ Below W.heap.size W w' := by
  obtain ⟨v, hv⟩ : ∃ v, v = l.all p := ⟨_, rfl⟩
  rw [← hv]
  have HV := Lib.hid hv
  have HR := Lib.hid h
  have HP : Hid (∀ W', Below W.heap.size W W' → pb < W'.heap.size ∧ W'.cell? ⟨pb, 0, none⟩ = some (.func (.func f) #[] #[])) := Lib.hid (fun W' hW => ⟨Nat.lt_of_lt_of_le hp.1 hW.size, by rw [hW.cell (p := ⟨pb, 0, none⟩) hp.1]; exact hp.2⟩)
  clear h hp hv
  go_enter Tryz.func20, Tryz.ntmps20
  go_wp2_with fail
  go_loopw [8] (fun x wr => ∃ j : Nat, j ≤ l.length ∧ x = .int .i64 j ∧ Hid (v = (l.drop j).all p) ∧ Hid (Below W.heap.size W wr)) (fun x _ => l.length - (intOf x).toNat)
  case atStart => exact ⟨0, by omega, rfl, Lib.hid (by rw [HV.out]; rfl), Lib.hid (Below.refl _ _)⟩
  case round =>
    obtain ⟨j, hj, rfl, H, BW⟩ := hrel
    by_cases hlt : j < l.length
    · have HD := Lib.hid (all_drop (p := p) hlt)
      obtain ⟨b, off, cs, rfl, ⟨s0, A1, n1, c1, rfl⟩, hc, hf⟩ := HR.out j hlt
      have hc' := hc wr BW.out
      have z0 : wr.cell? ⟨b, off + j * 2, none⟩ = some (strV s0) := hc' 0 (by decide)
      have z1 : wr.cell? ⟨b, off + j * 2 + 1, none⟩ = some (.slice A1 n1 c1) := hc' 1 (by decide)
      have HC := Lib.hid (eachC_Type ef s0 A1 n1 c1 (HP.out wr BW.out) (fun W' hW => hf W' (BW.out.trans (hW.mono BW.out.size))))
      obtain ⟨q, hq⟩ : ∃ q, p l[j] = q := ⟨_, rfl⟩
      rw [hq] at HC HD
      clear hc hc' hf hq
      cases q
      · have HN : Hid (v = false) := Lib.hid (by rw [H.out, HD.out]; rfl)
        go_wp2_with (go_at_call 87; refine HC.out.mono ?_; rintro e w2 ⟨rfl, hb2⟩)
        go_ret
        exact ⟨⟨(j : Int), rfl, by rw [HN.out]; exact ⟨fun _ => rfl, fun _ => by omega⟩⟩, hop BW.out hb2⟩
      · have HN : Hid (v = (l.drop (j + 1)).all p) := Lib.hid (by rw [H.out, HD.out]; rfl)
        go_wp2_with (go_at_call 87; refine HC.out.mono ?_; rintro e w2 ⟨rfl, hb2⟩)
        go_roundw
        case rel => exact ⟨j + 1, by omega, by go_num, HN, Lib.hid (hop BW.out hb2)⟩
        case measure => simp [intOf]; omega
    · have HN : Hid (v = true) := Lib.hid (by rw [H.out, List.drop_of_length_le (by omega)]; rfl)
      go_wp2_with fail
      go_ret
      exact ⟨⟨-1, rfl, by rw [HN.out]; exact ⟨fun h => absurd h (by decide), fun h => nomatch h⟩⟩, BW.out⟩
set_option maxHeartbeats 1000000 in
theorem eachF_Type {α : Type} {f : Nat} (ef : ∀ args w, (callFunc f args).run Tryz.prog w = .ok (.enter f args) w) {p : α → Bool} {W : World} {A : Option Addr} {l : List α} (c : Nat) (h : EAsk 2 f ShType p W A l) (hl : l.length ≤ 9223372036854775807) {pb : Nat} (hp : pb < W.heap.size ∧ W.cell? ⟨pb, 0, none⟩ = some (.func (.func f) #[] #[])) :
    Calls Tryz.prog 53 #[.slice A l.length c, .func (.func 87) #[] #[.pointer (some ⟨pb, 0, none⟩)]] W fun e w' => e = .returned (.bool (!l.all p)) ∧ Below W.heap.size W w' := by
  have HI := Lib.hid (eachI_Type ef c h hl hp)
  clear h hp
  generalize l.all p = q at *
  go_enter Tryz.func53, Tryz.ntmps53
  cases q
  · go_wp2_with (go_at_call 20; refine HI.out.mono ?_; rintro e w2 ⟨⟨v, rfl, hv⟩, hb2⟩; have hv' := hv.2 rfl; clear hv)
    go_ret
    exact ⟨rfl, hb2⟩
  · go_wp2_with (go_at_call 20; refine HI.out.mono ?_; rintro e w2 ⟨⟨v, rfl, hv⟩, hb2⟩; have hv' : ¬ 0 ≤ v := fun h0 => absurd (hv.1 h0) (by decide); clear hv)
    go_ret
    exact ⟨congrArg (fun b => Ending.returned (Value.bool b)) (decide_eq_false (by omega)), hb2⟩
set_option maxHeartbeats 1000000 in
theorem each_Type {α : Type} {f : Nat} (ef : ∀ args w, (callFunc f args).run Tryz.prog w = .ok (.enter f args) w) {p : α → Bool} {W : World} {A : Option Addr} {l : List α} (c : Nat) (h : EAsk 2 f ShType p W A l) (hl : l.length ≤ 9223372036854775807) :
    Calls Tryz.prog 72 #[.slice A l.length c, .func (.func f) #[] #[]] W fun e w' => e = .returned (.bool (l.all p)) ∧ Below W.heap.size W w' := by
  have hmf : ∀ (fn : Fn) (first cap : Array Value) (w : World), (Instr.makeFunc fn first cap).run Tryz.prog w = .ok (.func fn first cap) w := fun _ _ _ _ => rfl
  obtain ⟨W1, hW1⟩ : ∃ W1, W1 = W.alloc (.cells #[.func (.func f) #[] #[]] 61) := ⟨_, rfl⟩
  have hb1 : Below W.heap.size W W1 := by rw [hW1]; exact (Below.refl _ _).alloc (Nat.le_refl _) _
  have hp1 : Blk W1 W.heap.size [.func (.func f) #[] #[]] 61 := by rw [hW1]; exact Blk.new _ _ _
  have HI := Lib.hid (eachF_Type ef c (h.mono hb1) hl ⟨hp1.lt, hp1.cell (i := 0) (by simp)⟩)
  have HB := Lib.hid hb1
  rw [hW1] at HI
  have HW := Lib.hid hW1
  clear h hp1 hb1 hW1
  generalize l.all p = q at *
  go_enter Tryz.func72, Tryz.ntmps72
  go_wp2_with (go_at_call 53; refine HI.out.mono ?_; rintro e w2 ⟨rfl, hb2⟩)
  go_ret
  rw [← HW.out] at hb2
  exact ⟨by cases q <;> rfl, HB.out.trans (hb2.mono HB.out.size)⟩
end Go.Proofs.YtdnhbledndgbcaaGreat
namespace Go.Proofs.YtdnhbledndgbcaaGreat
open Go.RowKit
theorem low_any (c : UInt8) (w : World) : Calls Tryz.prog 98 #[.int .u8 (c.toNat : Int)] w fun e w' => e = .returned (.bool (lowB c)) ∧ Below w.heap.size w w' := by
  unfold lowB
  have hx := c.toNat_lt
  generalize c.toNat = x at *
  obtain ⟨v, hv⟩ : ∃ v, v = (decide (97 ≤ x) && decide (x ≤ 122)) := ⟨_, rfl⟩
  have hc : (x < 97 ∧ Hid (v = false)) ∨ (97 ≤ x ∧ x ≤ 122 ∧ decide ((x : Int) ≤ 122) = true ∧ Hid (v = true)) ∨ (97 ≤ x ∧ 122 < x ∧ decide ((x : Int) ≤ 122) = false ∧ Hid (v = false)) := by
    by_cases h1 : 97 ≤ x
    · by_cases h2 : x ≤ 122
      · exact .inr (.inl ⟨h1, h2, decide_eq_true (by omega), Lib.hid (by rw [hv, decide_eq_true h1, decide_eq_true h2]; rfl)⟩)
      · exact .inr (.inr ⟨h1, by omega, decide_eq_false (by omega), Lib.hid (by rw [hv, decide_eq_false h2, Bool.and_false])⟩)
    · exact .inl ⟨by omega, Lib.hid (by rw [hv, decide_eq_false h1, Bool.false_and])⟩
  rw [← hv]
  clear hv
  rcases hc with ⟨h1, H⟩ | ⟨h1, h2, h3, H⟩ | ⟨h1, h2, h3, H⟩
  all_goals go_enter Tryz.func98, Tryz.ntmps98
  all_goals go_wp2_with fail
  all_goals go_ret
  all_goals exact ⟨by rw [H.out]; first | rfl | (simp [h3]; done), Below.refl _ _⟩
theorem dig_any (c : UInt8) (w : World) : Calls Tryz.prog 99 #[.int .u8 (c.toNat : Int)] w fun e w' => e = .returned (.bool (numB c)) ∧ Below w.heap.size w w' := by
  unfold numB
  have hx := c.toNat_lt
  generalize c.toNat = x at *
  obtain ⟨v, hv⟩ : ∃ v, v = (decide (48 ≤ x) && decide (x ≤ 57)) := ⟨_, rfl⟩
  have hc : (x < 48 ∧ Hid (v = false)) ∨ (48 ≤ x ∧ x ≤ 57 ∧ decide ((x : Int) ≤ 57) = true ∧ Hid (v = true)) ∨ (48 ≤ x ∧ 57 < x ∧ decide ((x : Int) ≤ 57) = false ∧ Hid (v = false)) := by
    by_cases h1 : 48 ≤ x
    · by_cases h2 : x ≤ 57
      · exact .inr (.inl ⟨h1, h2, decide_eq_true (by omega), Lib.hid (by rw [hv, decide_eq_true h1, decide_eq_true h2]; rfl)⟩)
      · exact .inr (.inr ⟨h1, by omega, decide_eq_false (by omega), Lib.hid (by rw [hv, decide_eq_false h2, Bool.and_false])⟩)
    · exact .inl ⟨by omega, Lib.hid (by rw [hv, decide_eq_false h1, Bool.false_and])⟩
  rw [← hv]
  clear hv
  rcases hc with ⟨h1, H⟩ | ⟨h1, h2, h3, H⟩ | ⟨h1, h2, h3, H⟩
  all_goals go_enter Tryz.func99, Tryz.ntmps99
  all_goals go_wp2_with fail
  all_goals go_ret
  all_goals exact ⟨by rw [H.out]; first | rfl | (simp [h3]; done), Below.refl _ _⟩
def resL (l : List UInt8) : Bool := l == typeW || (l == relW || l == defW)
theorem reserved_any (s : ByteArray) (w : World) : Calls Tryz.prog 100 #[.string s] w fun e w' => e = .returned (.bool (resL s.data.toList)) ∧ Below w.heap.size w w' := by
  rw [← toList_data]
  generalize hl : s.toList = l
  have hc : l = typeW ∨ l = relW ∨ l = defW ∨ (¬ l = typeW ∧ ¬ l = relW ∧ ¬ l = defW) := by
    by_cases h1 : l = typeW
    · exact .inl h1
    · by_cases h2 : l = relW
      · exact .inr (.inl h2)
      · by_cases h3 : l = defW
        · exact .inr (.inr (.inl h3))
        · exact .inr (.inr (.inr ⟨h1, h2, h3⟩))
  subst hl
  rcases hc with h | h | h | ⟨h1, h2, h3⟩
  · rw [h]
    have e1 : s.toList = [116, 121, 112, 101] := h
    clear h
    go_enter Tryz.func100, Tryz.ntmps100
    go_wp2_with fail
    go_ret
    exact ⟨rfl, Below.refl _ _⟩
  · rw [h]
    have e1 : s.toList = [114, 101, 108, 97, 116, 105, 111, 110] := h
    clear h
    go_enter Tryz.func100, Tryz.ntmps100
    go_wp2_with fail
    go_ret
    exact ⟨rfl, Below.refl _ _⟩
  · rw [h]
    have e1 : s.toList = [100, 101, 102, 105, 110, 101] := h
    clear h
    go_enter Tryz.func100, Tryz.ntmps100
    go_wp2_with fail
    go_ret
    exact ⟨rfl, Below.refl _ _⟩
  · have n1 : (s.toList == [116, 121, 112, 101]) = false := beq_eq_false_iff_ne.2 h1
    have n2 : (s.toList == [114, 101, 108, 97, 116, 105, 111, 110]) = false := beq_eq_false_iff_ne.2 h2
    have n3 : (s.toList == [100, 101, 102, 105, 110, 101]) = false := beq_eq_false_iff_ne.2 h3
    have hR : Hid (resL s.toList = false) := Lib.hid (by simp [resL, h1, h2, h3])
    clear h1 h2 h3
    go_enter Tryz.func100, Tryz.ntmps100
    go_wp2_with fail
    go_ret
    exact ⟨by rw [hR.out]; rfl, Below.refl _ _⟩
theorem nameC_any (c : UInt8) (w : World) : Calls Tryz.prog 97 #[.int .u8 (c.toNat : Int)] w fun e w' => e = .returned (.bool (nmB c)) ∧ Below w.heap.size w w' := by
  have HL := Lib.hid (fun W => low_any c W)
  have HD := Lib.hid (fun W => dig_any c W)
  have hn : nmB c = (lowB c || (numB c || decide (c.toNat = 95))) := by unfold nmB; cases lowB c <;> cases numB c <;> simp
  rw [hn]
  clear hn
  have hx := c.toNat_lt
  generalize lowB c = a at *
  generalize numB c = b at *
  generalize c.toNat = x at *
  cases a
  · cases b
    · by_cases h95 : x = 95
      · subst h95
        have HL2 : Hid (∀ W, Calls Tryz.prog 98 #[.int .u8 95] W fun e w' => e = .returned (.bool false) ∧ Below W.heap.size W w') := HL
        have HD2 : Hid (∀ W, Calls Tryz.prog 99 #[.int .u8 95] W fun e w' => e = .returned (.bool false) ∧ Below W.heap.size W w') := HD
        clear HL HD
        show Calls _ _ #[.int .u8 95] _ _
        go_enter Tryz.func97, Tryz.ntmps97
        go_wp2_with (first
          | (go_at_call 98; with_reducible refine (HL2.out _).mono ?_; rintro e w1 ⟨rfl, hb1⟩; have HB1 := Lib.hid hb1; clear hb1)
          | (go_at_call 99; with_reducible refine (HD2.out _).mono ?_; rintro e w2 ⟨rfl, hb2⟩; have HB2 := Lib.hid hb2; clear hb2))
        go_ret
        exact ⟨rfl, hop HB1.out HB2.out⟩
      · have e1 : ¬ (x : Int) = 95 := by omega
        have e2 : decide (x = 95) = false := decide_eq_false h95
        rw [e2]
        clear h95 e2
        go_enter Tryz.func97, Tryz.ntmps97
        go_wp2_with (first
          | (go_at_call 98; with_reducible refine (HL.out _).mono ?_; rintro e w1 ⟨rfl, hb1⟩; have HB1 := Lib.hid hb1; clear hb1)
          | (go_at_call 99; with_reducible refine (HD.out _).mono ?_; rintro e w2 ⟨rfl, hb2⟩; have HB2 := Lib.hid hb2; clear hb2))
        go_ret
        exact ⟨by simp [e1], hop HB1.out HB2.out⟩
    · go_enter Tryz.func97, Tryz.ntmps97
      go_wp2_with (first
        | (go_at_call 98; with_reducible refine (HL.out _).mono ?_; rintro e w1 ⟨rfl, hb1⟩; have HB1 := Lib.hid hb1; clear hb1)
        | (go_at_call 99; with_reducible refine (HD.out _).mono ?_; rintro e w2 ⟨rfl, hb2⟩; have HB2 := Lib.hid hb2; clear hb2))
      go_ret
      exact ⟨by simp, hop HB1.out HB2.out⟩
  · go_enter Tryz.func97, Tryz.ntmps97
    go_wp2_with (go_at_call 98; with_reducible refine (HL.out _).mono ?_; rintro e w1 ⟨rfl, hb1⟩; have HB1 := Lib.hid hb1; clear hb1)
    go_ret
    exact ⟨by simp, HB1.out⟩
def consL (p : UInt8 → Bool) (most : Nat) (l : List UInt8) : Bool := !decide (l.length = 0 ∨ most < l.length) && l.all p
set_option maxHeartbeats 800000 in
theorem consists_any (g : Nat) (p : UInt8 → Bool) (most : Nat) (s : ByteArray) (w : World) (eg : ∀ args w, (callFunc g args).run Tryz.prog w = .ok (.enter g args) w) (hm : s.size ≤ 9223372036854775807) (hmo : most ≤ 1000)
    (hf : ∀ W (c : UInt8), Calls Tryz.prog g #[.int .u8 (c.toNat : Int)] W fun e w' => e = .returned (.bool (p c)) ∧ Below W.heap.size W w') :
    Calls Tryz.prog 96 #[.string s, .int .i64 most, .func (.func g) #[] #[]] w fun e w' => e = .returned (.bool (consL p most s.data.toList)) ∧ Below w.heap.size w w' := by
  have HF := Lib.hid hf
  clear hf
  by_cases hb : s.data.toList.length = 0 ∨ most < s.data.toList.length
  · have hC : consL p most s.data.toList = false := by rw [consL, decide_eq_true hb]; rfl
    rw [hC]
    rw [size_list] at hb
    clear hC
    have hc : s.size < 1 ∨ (1 ≤ s.size ∧ most < s.size) := by omega
    clear hb
    rcases hc with h1 | ⟨h1, h2⟩
    all_goals go_enter Tryz.func96, Tryz.ntmps96
    all_goals go_wp2_with fail
    all_goals go_ret
    all_goals exact ⟨rfl, Below.refl _ _⟩
  · have hC : consL p most s.data.toList = s.data.toList.all p := by rw [consL, decide_eq_false hb]; rfl
    rw [hC]
    rw [size_list] at hb
    clear hC
    obtain ⟨v, hv⟩ : ∃ v, v = s.data.toList.all p := ⟨_, rfl⟩
    rw [← hv]
    have HV := Lib.hid hv
    have h1 : 1 ≤ s.size := by omega
    have h2 : s.size ≤ most := by omega
    have h3 : decide (most < s.size) = false := decide_eq_false (by omega)
    have h4 : decide ((s.size : Int) < 1) = false := decide_eq_false (by omega)
    clear hb hv
    go_enter Tryz.func96, Tryz.ntmps96
    go_wp2_with fail
    go_loopw [19] (fun i wr => ∃ k : Nat, k ≤ s.size ∧ i = .int .i64 k ∧ Hid ((s.data.toList.take k).all p = true) ∧ Hid (Below w.heap.size w wr)) (fun i _ => s.size - (intOf i).toNat)
    case atStart => exact ⟨0, by omega, rfl, Lib.hid rfl, Lib.hid (Below.refl _ _)⟩
    case round =>
      obtain ⟨k, hk, rfl, H, BW⟩ := hrel
      by_cases hlt : k < s.size
      · have hx := s[k].toNat_lt
        have HN := Lib.hid (all_next (p := p) s k hlt H.out)
        have hc := HF.out wr s[k]
        obtain ⟨q, hq⟩ : ∃ q, q = p s[k] := ⟨_, rfl⟩
        rw [← hq] at hc
        have HQ := Lib.hid hq
        clear hq
        cases q
        · have HG : Hid (v = false) := Lib.hid (by rw [HV.out]; exact HN.out.2 HQ.out.symm)
          clear HN
          go_wp2_with (go_at_fn g; refine hc.mono ?_; rintro e w' ⟨rfl, hb'⟩)
          go_ret
          exact ⟨by rw [HG.out]; rfl, hop BW.out hb'⟩
        · have HG := Lib.hid (HN.out.1 HQ.out.symm)
          clear HN
          go_wp2_with (go_at_fn g; refine hc.mono ?_; rintro e w' ⟨rfl, hb'⟩)
          go_roundw
          case rel => exact ⟨k + 1, by omega, by go_num, HG, Lib.hid (hop BW.out hb')⟩
          case measure => simp [intOf]; omega
      · have HG : Hid (v = true) := Lib.hid (by rw [HV.out]; exact all_end s k hlt H.out)
        go_wp2_with fail
        go_ret
        exact ⟨by rw [HG.out]; rfl, BW.out⟩
end Go.Proofs.YtdnhbledndgbcaaGreat
namespace Go.Proofs.YtdnhbledndgbcaaGreat
open Go.RowKit
theorem nameL_of (l : List UInt8) : nameL l = (consL nmB 16 l && (lowB (l.getD 0 0) && !resL l)) := by
  unfold nameL consL resL nameBad
  by_cases h1 : l.length = 0
  · simp [h1]
  · by_cases h2 : 16 < l.length
    · simp [h2]
    · by_cases h3 : l = typeW
      · simp [h3]
      · by_cases h4 : l = relW
        · simp [h4]
        · by_cases h5 : l = defW
          · simp [h5]
          · simp only [h1, h2, h3, h4, h5, or_self, decide_false, Bool.not_false, Bool.true_and, beq_eq_false_iff_ne.2 h3, beq_eq_false_iff_ne.2 h4, beq_eq_false_iff_ne.2 h5, Bool.or_self, Bool.and_true]
            exact Bool.and_comm _ _
theorem consL_len {p : UInt8 → Bool} {m : Nat} {l : List UInt8} (h : consL p m l = true) : 0 < l.length := by
  unfold consL at h
  by_cases hb : l.length = 0 ∨ m < l.length
  · rw [decide_eq_true hb] at h; cases h
  · omega
theorem enter_nameC (args : Array Value) (w : World) : (callFunc 97 args).run Tryz.prog w = .ok (.enter 97 args) w := by simp [go_sem]
set_option maxHeartbeats 400000 in
theorem name_of (s : ByteArray) (w : World) (hm : s.size ≤ 9223372036854775807) :
    Calls Tryz.prog 88 #[.string s] w fun e w' => e = .returned (.bool (nameL s.data.toList)) ∧ Below w.heap.size w w' := by
  rw [nameL_of]
  have hC := fun W => consists_any 97 nmB 16 s W enter_nameC hm (by omega) (fun W c => nameC_any c W)
  have hR := fun W => reserved_any s W
  have hl := fun h : consL nmB 16 s.data.toList = true => consL_len h
  generalize consL nmB 16 s.data.toList = x at *
  generalize resL s.data.toList = y at *
  have HC : Hid (∀ W, Calls Tryz.prog 96 #[.string s, .int .i64 16, .func (.func 97) #[] #[]] W fun e w' => e = .returned (.bool x) ∧ Below W.heap.size W w') := Lib.hid hC
  have HR := Lib.hid hR
  clear hC hR
  cases x
  · clear hl
    go_enter Tryz.func88, Tryz.ntmps88
    go_wp2_with (go_at_call 96; with_reducible refine (HC.out _).mono ?_; rintro e w1 ⟨rfl, hb1⟩; have HB1 := Lib.hid hb1; clear hb1)
    go_ret
    exact ⟨rfl, HB1.out⟩
  · have h0 : 0 < s.size := by have := hl rfl; rwa [size_list] at this
    rw [getD_list s 0 h0]
    clear hl
    have hx := s[0].toNat_lt
    have HL := Lib.hid (fun W => low_any s[0] W)
    generalize lowB s[0] = z at *
    cases z
    · go_enter Tryz.func88, Tryz.ntmps88
      go_wp2_with (first
        | (go_at_call 96; with_reducible refine (HC.out _).mono ?_; rintro e w1 ⟨rfl, hb1⟩; have HB1 := Lib.hid hb1; clear hb1)
        | (go_at_call 98; with_reducible refine (HL.out _).mono ?_; rintro e w2 ⟨rfl, hb2⟩; have HB2 := Lib.hid (hop HB1.out hb2); clear hb2))
      go_ret
      exact ⟨rfl, HB2.out⟩
    · cases y
      all_goals go_enter Tryz.func88, Tryz.ntmps88
      all_goals go_wp2_with (first
        | (go_at_call 96; with_reducible refine (HC.out _).mono ?_; rintro e w1 ⟨rfl, hb1⟩; have HB1 := Lib.hid hb1; clear hb1)
        | (go_at_call 98; with_reducible refine (HL.out _).mono ?_; rintro e w2 ⟨rfl, hb2⟩; have HB2 := Lib.hid (hop HB1.out hb2); clear hb2)
        | (go_at_call 100; with_reducible refine (HR.out _).mono ?_; rintro e w3 ⟨rfl, hb3⟩; have HB3 := Lib.hid (hop HB2.out hb3); clear hb3))
      all_goals go_ret
      all_goals exact ⟨rfl, HB3.out⟩
theorem name_any (l : Txt) (w : World) (hm : l.length ≤ 9223372036854775807) :
    Calls Tryz.prog 88 #[strV l] w fun e w' => e = .returned (.bool (nameL l)) ∧ Below w.heap.size w w' := by
  have h := name_of ⟨l.toArray⟩ w (by simpa [ByteArray.size] using hm)
  simpa using h
end Go.Proofs.YtdnhbledndgbcaaGreat
