/-
  The program's repetitions: the first name that stands for two things. Conditions: the schema is there; its types are no more than its row has room for.
-/
import Derived.Test.YtdnhbledndgbcaaGreatCRuF0
import Derived.Test.YtdnhbledndgbcaaGreatCRoI
import Derived.Deep.QuietTactic
import Derived.BigQuiet
namespace Go.Proofs.YtdnhbledndgbcaaGreat
open Go.RowKit
def nameT (s : Sc) (i : Nat) : Txt := ((s[i]?).map (·.name)).getD []
def nameR (rs : List Rl) (j : Nat) : Txt := ((rs[j]?).map (·.name)).getD []
def repT (s : Sc) (i : Nat) : Nat := if (s.take i).any (fun (t : Ty) => decide (t.name = nameT s i)) then 7 else 0
def repR (s : Sc) (i j : Nat) : Nat := if ((ofT s (i : Int)).take j).any (fun (r : Rl) => decide (r.name = nameR (ofT s (i : Int)) j)) then 7 else 0
def repN (s : Sc) : Fa := orFs [ftN (repT s) s 0, frN (repR s) s 0]
theorem nameT_at {s : Sc} {i : Nat} (h : i < s.length) : nameT s i = s[i].name := by unfold nameT; rw [List.getElem?_eq_getElem h]; rfl
theorem nameR_at {rs : List Rl} {i : Nat} (h : i < rs.length) : nameR rs i = rs[i].name := by unfold nameR; rw [List.getElem?_eq_getElem h]; rfl
theorem RowAt.take {α : Type} {n : Nat} {R : World → (Nat → Prop) → α → List Value → Prop} {W : World} {F : Nat → Prop} {A : Option Addr} {l : List α} (h : RowAt n R W F A l) (i : Nat) : RowAt n R W F A (l.take i) := by
  rcases h with rfl | ⟨b, off, rfl, hb, hF, hk⟩
  · exact .inl (by simp)
  · refine .inr ⟨b, off, rfl, hb, hF, fun j hj => ?_⟩
    have hj' : j < l.length := by rw [List.length_take] at hj; omega
    obtain ⟨cs, h1, h2⟩ := hk j hj'
    exact ⟨cs, by rw [List.getElem_take]; exact h1, h2⟩
set_option maxRecDepth 100000 in
set_option maxHeartbeats 1000000 in
theorem repCC_any (s : Sc) (F : Nat → Prop) (A : Option Addr) (c : Nat) (W : World) {b b2 : Nat} {i : Nat} (hi : i < s.length) (hb : b < W.heap.size ∧ W.cell? ⟨b, 0, none⟩ = some (.slice A s.length c)) (hb2 : b2 < W.heap.size ∧ W.cell? ⟨b2, 0, none⟩ = some (.int .i64 (i : Int))) (hs : ScAt W F A s) (_ : s.length ≤ 9223372036854775807) (x : Ty) (cs : List Value) (hx : TyAt W F x cs) :
    Calls Tryz.prog 54 #[.agg cs.toArray, .pointer (some ⟨b, 0, none⟩), .pointer (some ⟨b2, 0, none⟩)] W fun r w' => r = .returned (.bool (decide (x.name = nameT s i))) ∧ Below W.heap.size W w' := by
  obtain ⟨B, d, rfl, _, _⟩ := hx
  show Calls _ _ #[.agg #[strV x.name, .slice B x.rels.length d], _, _] _ _
  obtain ⟨v, hv⟩ : ∃ v, v = decide (x.name = nameT s i) := ⟨_, rfl⟩
  rw [← hv]
  rw [nameT_at hi] at hv
  obtain ⟨g, off, B2, d2, rfl, _, _, hc⟩ := RowAt.ty hs hi
  have hb0 := (Below.refl W.heap.size W).alloc (Nat.le_refl _) (.cells #[strV x.name, .slice B x.rels.length d] 38)
  obtain ⟨z0, z1⟩ := hc _ hb0
  have y0 := (hb0.cell (p := ⟨b, 0, none⟩) hb.1).trans hb.2
  have y1 := (hb0.cell (p := ⟨b2, 0, none⟩) hb2.1).trans hb2.2
  have HV := Lib.hid hv
  have HB0 := Lib.hid hb0
  clear hc hv hs hb hb2 hb0
  generalize s[i].name = nm at *
  generalize x.name = xn at *
  generalize x.rels.length = xl at *
  by_cases he : xn = nm
  · have HV2 : Hid (v = true) := Lib.hid (by rw [HV.out]; exact decide_eq_true he)
    subst he
    go_enter Tryz.func54, Tryz.ntmps54
    go_wp2_with fail
    go_quiet (fail)
    go_wp2_with fail
    go_ret
    exact ⟨by rw [HV2.out]; (first | rfl | simp), by first | exact HB0.out | exact below_drewN HB0.out _⟩
  · have HV2 : Hid (v = false) := Lib.hid (by rw [HV.out]; exact decide_eq_false he)
    go_enter Tryz.func54, Tryz.ntmps54
    go_wp2_with fail
    go_quiet (fail)
    go_wp2_with fail
    go_ret
    exact ⟨by rw [HV2.out]; (first | rfl | simp [he]), by first | exact HB0.out | exact below_drewN HB0.out _⟩
theorem TyAt.sh2 {W : World} {F : Nat → Prop} (x : Ty) (cs : List Value) (h : TyAt W F x cs) : ShType cs := TyAt.sh x cs h
set_option maxRecDepth 100000 in
theorem enter_repCC (args : Array Value) (w : World) : (callFunc 54 args).run Tryz.prog w = .ok (.enter 54 args) w := rfl
set_option maxRecDepth 100000 in
set_option maxHeartbeats 1000000 in
theorem repC_any (s : Sc) (F : Nat → Prop) (A : Option Addr) (c : Nat) (W : World) {b : Nat} {i : Nat} (hi : i < s.length) (hb : b < W.heap.size ∧ W.cell? ⟨b, 0, none⟩ = some (.slice A s.length c)) (hs : ScAt W F A s) (hl : s.length ≤ 9223372036854775807) (hcap : s.length ≤ c) :
    Calls Tryz.prog 52 #[.int .i64 (i : Int), .pointer (some ⟨b, 0, none⟩)] W fun r w' => r = .returned (.int .i64 (repT s i : Int)) ∧ Below W.heap.size W w' := by
  have hmf : ∀ (fn : Fn) (first cap : Array Value) (w : World), (Instr.makeFunc fn first cap).run Tryz.prog w = .ok (.func fn first cap) w := fun _ _ _ _ => rfl
  obtain ⟨v, hv⟩ : ∃ v, v = repT s i := ⟨_, rfl⟩
  rw [← hv]
  unfold repT at hv
  obtain ⟨W1, hW⟩ : ∃ W1, W1 = W.alloc (.cells #[.int .i64 (i : Int)] 3) := ⟨_, rfl⟩
  have hb0 : Below W.heap.size W W1 := by rw [hW]; exact (Below.refl W.heap.size W).alloc (Nat.le_refl _) _
  have hk : Blk W1 W.heap.size [.int .i64 (i : Int)] 3 := by rw [hW]; exact Blk.new _ _ _
  have hp : ∀ w, Below W1.heap.size W1 w → (b < w.heap.size ∧ w.cell? ⟨b, 0, none⟩ = some (.slice A s.length c)) ∧ (W.heap.size < w.heap.size ∧ w.cell? ⟨W.heap.size, 0, none⟩ = some (.int .i64 (i : Int))) ∧ ScAt w F A s := fun w hw => by
    have h1 := hb0.trans (hw.mono hb0.size)
    have h2 := hk.below hw hk.lt
    exact ⟨⟨Nat.lt_of_lt_of_le hb.1 h1.size, (h1.cell (p := ⟨b, 0, none⟩) hb.1).trans hb.2⟩, ⟨h2.lt, h2.cell (i := 0) (by simp)⟩, hs.below h1⟩
  have hrow : RowAt 2 TyAt W1 F A (s.take i) := RowAt.take (hp W1 (Below.refl _ _)).2.2 i
  have hask : EAskC 2 54 (fun v => #[v, .pointer (some ⟨b, 0, none⟩), .pointer (some ⟨W.heap.size, 0, none⟩)]) ShType (fun (t : Ty) => decide (t.name = nameT s i)) W1 A (s.take i) :=
    RowAt.asksC hrow TyAt.sh2 (fun x _ cs hcs w hw => repCC_any s F A c w hi (hp w hw).1 (hp w hw).2.1 (hp w hw).2.2 hl x cs (hcs.below hw))
  have hlen : (s.take i).length = i := by rw [List.length_take]; omega
  have hcall := anyC_Type2 enter_repCC c hask (by omega)
  rw [hlen] at hcall
  have HC := Lib.hid hcall
  have HB0 := Lib.hid hb0
  have y1 := (hp W1 (Below.refl _ _)).2.1.2
  have y0 := (hp W1 (Below.refl _ _)).1.2
  rw [hW] at y0 y1
  have HW := Lib.hid hW
  have HV := Lib.hid hv
  have hic : i ≤ c := by omega
  clear hv hcall hask hrow hp hk hb hs hW hb0 hlen
  obtain ⟨q, hq⟩ : ∃ q, (s.take i).any (fun (t : Ty) => decide (t.name = nameT s i)) = q := ⟨_, rfl⟩
  rw [hq] at HV HC
  clear hq
  obtain ⟨e, he⟩ : ∃ e, (if q then 7 else 0 : Nat) = e := ⟨_, rfl⟩
  rw [he] at HV
  have HWN : Hid (∀ w, Calls Tryz.prog 33 #[.bool q, .int .i64 7] w fun r w' => r = .returned (.int .i64 (e : Int)) ∧ Below w.heap.size w w') := Lib.hid (fun w => by rw [← he]; exact when_any q 7 w)
  clear he
  go_enter Tryz.func52, Tryz.ntmps52
  go_wp2_with (first
    | (go_at_call 53; rw [← HW.out]; refine HC.out.mono ?_; rintro r w5 ⟨rfl, hb5⟩; have HB5 := Lib.hid hb5; clear hb5)
    | (go_at_call 33; refine (HWN.out _).mono ?_; rintro r w6 ⟨rfl, hb6⟩; have HB6 := Lib.hid (hop HB5.out hb6); clear hb6))
  go_ret
  exact ⟨by rw [HV.out]; rfl, HB0.out.trans (HB6.out.mono HB0.out.size)⟩
theorem RlAt.shC {W : World} {F : Nat → Prop} (x : Rl) (cs : List Value) (h : RlAt W F x cs) : ShRel cs := by
  obtain ⟨a, A1, n1, c1, k, n, o, A2, n2, c2, rfl⟩ := h.shape
  exact ⟨a, A1, n1, c1, k, n, o, A2, n2, c2, rfl⟩
set_option maxRecDepth 100000 in
theorem enter_repRCC (args : Array Value) (w : World) : (callFunc 57 args).run Tryz.prog w = .ok (.enter 57 args) w := rfl
set_option maxRecDepth 100000 in
set_option maxHeartbeats 1000000 in
theorem repRCC_any (rs : List Rl) (F : Nat → Prop) (A : Option Addr) (c : Nat) (W : World) {b b2 : Nat} {i : Nat} (hi : i < rs.length) (hb : b < W.heap.size ∧ W.cell? ⟨b, 0, none⟩ = some (.slice A rs.length c)) (hb2 : b2 < W.heap.size ∧ W.cell? ⟨b2, 0, none⟩ = some (.int .i64 (i : Int))) (hs : RowAt 6 RlAt W F A rs) (_ : rs.length ≤ 9223372036854775807) (x : Rl) (cs : List Value) (hx : RlAt W F x cs) :
    Calls Tryz.prog 57 #[.agg cs.toArray, .pointer (some ⟨b, 0, none⟩), .pointer (some ⟨b2, 0, none⟩)] W fun r w' => r = .returned (.bool (decide (x.name = nameR rs i))) ∧ Below W.heap.size W w' := by
  obtain ⟨A3, c3, k3, n3, o3, A4, m4, c4, rfl, _⟩ := hx.six
  generalize x.refs.length = xl
  show Calls _ _ #[.agg #[strV x.name, .slice A3 xl c3, .int .i64 k3, strV n3, strV o3, .slice A4 m4 c4], _, _] _ _
  obtain ⟨v, hv⟩ : ∃ v, v = decide (x.name = nameR rs i) := ⟨_, rfl⟩
  rw [← hv]
  rw [nameR_at hi] at hv
  obtain ⟨g, off, B2, d2, k2, p2, q2, E2, m2, c2, rfl, _, _, _, hc⟩ := RowAt.rl hs hi
  have hb0 := (Below.refl W.heap.size W).alloc (Nat.le_refl _) (.cells #[strV x.name, .slice A3 xl c3, .int .i64 k3, strV n3, strV o3, .slice A4 m4 c4] 46)
  obtain ⟨z0, _⟩ := hc _ hb0
  have y0 := (hb0.cell (p := ⟨b, 0, none⟩) hb.1).trans hb.2
  have y1 := (hb0.cell (p := ⟨b2, 0, none⟩) hb2.1).trans hb2.2
  have HV := Lib.hid hv
  have HB0 := Lib.hid hb0
  clear hc hv hs hb hb2 hb0
  generalize rs[i].name = nm at *
  generalize x.name = xn at *
  by_cases he : xn = nm
  · have HV2 : Hid (v = true) := Lib.hid (by rw [HV.out]; exact decide_eq_true he)
    subst he
    go_enter Tryz.func57, Tryz.ntmps57
    go_wp2_with fail
    go_quiet (fail)
    go_wp2_with fail
    go_ret
    exact ⟨by rw [HV2.out]; (first | rfl | simp), by first | exact HB0.out | exact below_drewN HB0.out _⟩
  · have HV2 : Hid (v = false) := Lib.hid (by rw [HV.out]; exact decide_eq_false he)
    go_enter Tryz.func57, Tryz.ntmps57
    go_wp2_with fail
    go_quiet (fail)
    go_wp2_with fail
    go_ret
    exact ⟨by rw [HV2.out]; (first | rfl | simp [he]), by first | exact HB0.out | exact below_drewN HB0.out _⟩
set_option maxRecDepth 100000 in
set_option maxHeartbeats 1000000 in
theorem repR_any (s : Sc) (F : Nat → Prop) (A : Option Addr) (c : Nat) (W : World) {b : Nat} {i j : Nat} (hi : i < s.length) (hj : j < s[i].rels.length) (hb : b < W.heap.size ∧ W.cell? ⟨b, 0, none⟩ = some (.slice A s.length c)) (hs : ScAt W F A s) (_ : s.length ≤ 9223372036854775807) :
    Calls Tryz.prog 55 #[.int .i64 (i : Int), .int .i64 (j : Int), .pointer (some ⟨b, 0, none⟩)] W fun r w' => r = .returned (.int .i64 (repR s i j : Int)) ∧ Below W.heap.size W w' := by
  have hmf : ∀ (fn : Fn) (first cap : Array Value) (w : World), (Instr.makeFunc fn first cap).run Tryz.prog w = .ok (.func fn first cap) w := fun _ _ _ _ => rfl
  obtain ⟨v, hv⟩ : ∃ v, v = repR s i j := ⟨_, rfl⟩
  rw [← hv]
  unfold repR at hv
  rw [ofT_at hi] at hv
  obtain ⟨g, off, B, d, rfl, ⟨⟨_, hcap⟩, hrl⟩, hr, hc⟩ := RowAt.tyc hs hi
  obtain ⟨z0, z1⟩ := hc _ ((Below.refl W.heap.size W).alloc (Nat.le_refl _) (.cells #[.int .i64 (j : Int)] 3))
  have HX1 : Hid (z0 = z0) := Lib.hid rfl
  generalize s[i].rels = rs at *
  obtain ⟨W1, hW⟩ : ∃ W1, W1 = (W.alloc (.cells #[.int .i64 (j : Int)] 3)).alloc (.cells #[.slice B rs.length d] 36) := ⟨_, rfl⟩
  have hb0 : Below W.heap.size W W1 := by rw [hW]; exact ((Below.refl W.heap.size W).alloc (Nat.le_refl _) _).alloc (by simp) _
  have hk : Blk W1 W.heap.size [.int .i64 (j : Int)] 3 := by rw [hW]; exact (Blk.new _ _ _).alloc _
  have hk2 : Blk W1 (W.heap.size + 1) [.slice B rs.length d] 36 := by
    rw [hW]
    have := Blk.new (W.alloc (.cells #[.int .i64 (j : Int)] 3)) [.slice B rs.length d] 36
    rw [World.size_alloc] at this
    exact this
  have hp : ∀ w, Below W1.heap.size W1 w → (W.heap.size + 1 < w.heap.size ∧ w.cell? ⟨W.heap.size + 1, 0, none⟩ = some (.slice B rs.length d)) ∧ (W.heap.size < w.heap.size ∧ w.cell? ⟨W.heap.size, 0, none⟩ = some (.int .i64 (j : Int))) ∧ RowAt 6 RlAt w F B rs := fun w hw => by
    have h1 := hb0.trans (hw.mono hb0.size)
    have h2 := hk.below hw hk.lt
    have h3 := hk2.below hw hk2.lt
    exact ⟨⟨h3.lt, h3.cell (i := 0) (by simp)⟩, ⟨h2.lt, h2.cell (i := 0) (by simp)⟩, RowAt.moved (Spared.of_below h1 F) (fun _ h => .inl h) (fun _ _ _ h => h.moved (Spared.of_below h1 F) (fun _ h => .inl h)) hr⟩
  have hrow : RowAt 6 RlAt W1 F B (rs.take j) := RowAt.take (hp W1 (Below.refl _ _)).2.2 j
  have hask : EAskC 6 57 (fun v => #[v, .pointer (some ⟨W.heap.size + 1, 0, none⟩), .pointer (some ⟨W.heap.size, 0, none⟩)]) ShRel (fun (t : Rl) => decide (t.name = nameR rs j)) W1 B (rs.take j) :=
    RowAt.asksC hrow RlAt.shC (fun x _ cs hcs w hw => repRCC_any rs F B d w hj (hp w hw).1 (hp w hw).2.1 (hp w hw).2.2 hrl x cs (hcs.below hw))
  have hlen : (rs.take j).length = j := by rw [List.length_take]; omega
  have hcall := anyC_Rel2 enter_repRCC d hask (by omega)
  rw [hlen] at hcall
  have HC := Lib.hid hcall
  have HB0 := Lib.hid hb0
  have y1 := (hp W1 (Below.refl _ _)).2.1.2
  have y2 := (hp W1 (Below.refl _ _)).1.2
  have y0 := (((Below.refl W.heap.size W).alloc (Nat.le_refl _) (.cells #[.int .i64 (j : Int)] 3)).cell (p := ⟨b, 0, none⟩) hb.1).trans hb.2
  rw [hW] at y1 y2
  have HW := Lib.hid hW
  have HV := Lib.hid hv
  have hic : j ≤ d := by omega
  clear hv hcall hask hrow hp hk hk2 hb hs hr hc hW hb0 hlen HX1
  obtain ⟨q, hq⟩ : ∃ q, (rs.take j).any (fun (t : Rl) => decide (t.name = nameR rs j)) = q := ⟨_, rfl⟩
  rw [hq] at HV HC
  clear hq
  obtain ⟨e, he⟩ : ∃ e, (if q then 7 else 0 : Nat) = e := ⟨_, rfl⟩
  rw [he] at HV
  have HWN : Hid (∀ w, Calls Tryz.prog 33 #[.bool q, .int .i64 7] w fun r w' => r = .returned (.int .i64 (e : Int)) ∧ Below w.heap.size w w') := Lib.hid (fun w => by rw [← he]; exact when_any q 7 w)
  clear he
  go_enter Tryz.func55, Tryz.ntmps55
  go_wp2_with (first
    | (go_at_call 56; rw [← HW.out]; refine HC.out.mono ?_; rintro r w5 ⟨rfl, hb5⟩; have HB5 := Lib.hid hb5; clear hb5)
    | (go_at_call 33; refine (HWN.out _).mono ?_; rintro r w6 ⟨rfl, hb6⟩; have HB6 := Lib.hid (hop HB5.out hb6); clear hb6))
  go_ret
  exact ⟨by rw [HV.out]; rfl, HB0.out.trans (HB6.out.mono HB0.out.size)⟩
theorem fas_two (w : World) (t : TypeId) (a b : Fa) : FasAt (w.alloc (.cells #[.int .i64 a.1, .int .i64 a.2.1, .int .i64 (a.2.2 : Int), .int .i64 b.1, .int .i64 b.2.1, .int .i64 (b.2.2 : Int)] t)) w.heap.size [a, b] := by
  have hk : Blk (w.alloc (.cells #[.int .i64 a.1, .int .i64 a.2.1, .int .i64 (a.2.2 : Int), .int .i64 b.1, .int .i64 b.2.1, .int .i64 (b.2.2 : Int)] t)) w.heap.size [.int .i64 a.1, .int .i64 a.2.1, .int .i64 (a.2.2 : Int), .int .i64 b.1, .int .i64 b.2.1, .int .i64 (b.2.2 : Int)] t := Blk.new _ _ _
  refine ⟨hk.lt, fun j hj => ?_⟩
  simp only [List.length_cons, List.length_nil] at hj
  rcases (by omega : j = 0 ∨ j = 1) with rfl | rfl
  · exact ⟨hk.cell (i := 0) (by simp), hk.cell (i := 1) (by simp), hk.cell (i := 2) (by simp)⟩
  · exact ⟨hk.cell (i := 3) (by simp), hk.cell (i := 4) (by simp), hk.cell (i := 5) (by simp)⟩
set_option maxRecDepth 100000 in
theorem enter_repC (args : Array Value) (w : World) : (callFunc 52 args).run Tryz.prog w = .ok (.enter 52 args) w := rfl
set_option maxRecDepth 100000 in
theorem enter_repR (args : Array Value) (w : World) : (callFunc 55 args).run Tryz.prog w = .ok (.enter 55 args) w := rfl
set_option maxRecDepth 100000 in
set_option maxHeartbeats 2000000 in
theorem rep_any (s : Sc) (F : Nat → Prop) (A : Option Addr) (c : Nat) (hl : s.length ≤ 9223372036854775807) (hcap : s.length ≤ c) (W : World) (hs : ScAt W F A s) :
    Calls Tryz.prog 28 #[.agg #[.slice A s.length c]] W fun r w' => r = .returned (faV (repN s)) ∧ Below W.heap.size W w' := by
  have hmf : ∀ (fn : Fn) (first cap : Array Value) (w : World), (Instr.makeFunc fn first cap).run Tryz.prog w = .ok (.func fn first cap) w := fun _ _ _ _ => rfl
  obtain ⟨v, hv⟩ : ∃ v, v = repN s := ⟨_, rfl⟩
  rw [← hv]
  unfold repN at hv
  obtain ⟨W1, hW⟩ : ∃ W1, W1 = (W.alloc (.cells #[.slice A s.length c] 24)).alloc (.cells #[.int .i64 0, .int .i64 0, .int .i64 0] 33) := ⟨_, rfl⟩
  have HKA : Hid (Blk W1 W.heap.size [.slice A s.length c] 24) := by rw [hW]; exact Lib.hid ((Blk.new W _ _).alloc _)
  have HKE : Hid (Blk W1 (W.heap.size + 1) [.int .i64 0, .int .i64 0, .int .i64 0] 33) := by
    rw [hW]
    have := Blk.new (W.alloc (.cells #[.slice A s.length c] 24)) [.int .i64 0, .int .i64 0, .int .i64 0] 33
    rw [World.size_alloc] at this
    exact Lib.hid this
  have HB0 : Hid (Below W.heap.size W W1) := by rw [hW]; exact Lib.hid (((Below.refl _ _).alloc (Nat.le_refl _) _).alloc (by simp) _)
  have HW := Lib.hid hW
  have HX : Hid (∀ w, Below W1.heap.size W1 w → w.cell? ⟨W.heap.size, 0, none⟩ = some (.slice A s.length c) ∧ w.cell? ⟨W.heap.size + 1, 0, none⟩ = some (.int .i64 0) ∧ w.cell? ⟨W.heap.size + 1, 1, none⟩ = some (.int .i64 0) ∧ w.cell? ⟨W.heap.size + 1, 2, none⟩ = some (.int .i64 0) ∧ w.frozen? ⟨W.heap.size + 1, 0, none⟩ = false ∧ w.frozen? ⟨W.heap.size + 1, 1, none⟩ = false ∧ w.frozen? ⟨W.heap.size + 1, 2, none⟩ = false) := Lib.hid (fun w hw => by
    have h1 := HKA.out.below hw HKA.out.lt
    have h2 := HKE.out.below hw HKE.out.lt
    exact ⟨h1.cell (i := 0) (by simp), h2.cell (i := 0) (by simp), h2.cell (i := 1) (by simp), h2.cell (i := 2) (by simp), h2.free 0, h2.free 1, h2.free 2⟩)
  have HF : Hid (∀ w, Below W1.heap.size W1 w → Below W.heap.size W w) := Lib.hid (fun w hw => HB0.out.trans (hw.mono HB0.out.size))
  have hp : ∀ w, Below W1.heap.size W1 w → (W.heap.size < w.heap.size ∧ w.cell? ⟨W.heap.size, 0, none⟩ = some (.slice A s.length c)) ∧ ScAt w F A s := fun w hw =>
    ⟨⟨(HKA.out.below hw HKA.out.lt).lt, (HX.out w hw).1⟩, hs.below (HF.out w hw)⟩
  have HFT := Lib.hid (firstType1_any s A c hl W1 enter_repC (p1 := .pointer (some ⟨W.heap.size, 0, none⟩)) (repT s) (fun w hw i hi => repC_any s F A c w hi (hp w hw).1 (hp w hw).2 hl hcap))
  have HFR : Hid (∀ w, Below W1.heap.size W1 w → Calls Tryz.prog 31 #[.agg #[.slice A s.length c], .func (.func 55) #[] #[.pointer (some ⟨W.heap.size, 0, none⟩)]] w fun r w' => r = .returned (faV (frN (repR s) s 0)) ∧ Below w.heap.size w w') := Lib.hid (fun w hw =>
    firstRel1_any s F A c hl w (hp w hw).2 enter_repR (repR s) (fun w' hw' i hi k hk => repR_any s F A c w' hi hk (hp w' (hop hw hw')).1 (hp w' (hop hw hw')).2 hl))
  have HV := Lib.hid hv
  clear hW hs hv hp
  generalize ftN (repT s) s 0 = z at *
  generalize frN (repR s) s 0 = y at *
  obtain ⟨z1, z2, z3⟩ := z
  obtain ⟨y1, y2, y3⟩ := y
  have HFR : Hid (∀ w, Below W1.heap.size W1 w → Calls Tryz.prog 31 #[.agg #[.slice A s.length c], .func (.func 55) #[] #[.pointer (some ⟨W.heap.size, 0, none⟩)]] w fun r w' => r = .returned (.agg #[.int .i64 y1, .int .i64 y2, .int .i64 (y3 : Int)]) ∧ Below w.heap.size w w') := HFR
  have HFT : Hid (Calls Tryz.prog 50 #[.agg #[.slice A s.length c], .func (.func 52) #[] #[.pointer (some ⟨W.heap.size, 0, none⟩)]] W1 fun r w' => r = .returned (.agg #[.int .i64 z1, .int .i64 z2, .int .i64 (z3 : Int)]) ∧ Below W1.heap.size W1 w') := HFT
  obtain ⟨u1, u2, u3⟩ := v
  have HOR : Hid (∀ w, Calls Tryz.prog 27 #[.slice (some ⟨w.heap.size, 0, none⟩) 2 2] (w.alloc (.cells #[.int .i64 z1, .int .i64 z2, .int .i64 (z3 : Int), .int .i64 y1, .int .i64 y2, .int .i64 (y3 : Int)] 33)) fun r w' => r = .returned (.agg #[.int .i64 u1, .int .i64 u2, .int .i64 (u3 : Int)]) ∧ Below w.heap.size w w') := Lib.hid (fun w => by
    have h := orFs_any (w.alloc (.cells #[.int .i64 z1, .int .i64 z2, .int .i64 (z3 : Int), .int .i64 y1, .int .i64 y2, .int .i64 (y3 : Int)] 33)) w.heap.size 2 [(z1, z2, z3), (y1, y2, y3)] (fas_two w 33 (z1, z2, z3) (y1, y2, y3)) (by simp)
    rw [← HV.out] at h
    exact h.mono (fun r w' hh => ⟨hh.1, ((Below.refl w.heap.size w).alloc (Nat.le_refl _) _).trans (hh.2.mono (by simp))⟩))
  clear HV
  go_enter Tryz.func28, Tryz.ntmps28
  go_wp2_with (go_at_call 50; rw [← HW.out]; refine HFT.out.mono ?_; rintro r w5 ⟨rfl, hb5⟩; have HB5 := Lib.hid hb5; obtain ⟨x0, _⟩ := HX.out w5 hb5; clear hb5)
  obtain ⟨w6, hw6⟩ : ∃ w6, w6 = w5.alloc (.cells #[.int .i64 z1, .int .i64 z2, .int .i64 (z3 : Int)] 33) := ⟨_, rfl⟩
  rw [← hw6]
  have hk6 : Blk w6 w5.heap.size [.int .i64 z1, .int .i64 z2, .int .i64 (z3 : Int)] 33 := by rw [hw6]; exact Blk.new _ _ _
  have HB6 : Hid (Below W1.heap.size W1 w6) := by rw [hw6]; exact Lib.hid (HB5.out.alloc HB5.out.size _)
  have hN : ∀ w : World, Below w6.heap.size w6 w → (w.cell? ⟨W.heap.size, 0, none⟩ = some (.slice A s.length c) ∧ w.cell? ⟨w5.heap.size, 0, none⟩ = some (.int .i64 z1) ∧ w.cell? ⟨w5.heap.size, 1, none⟩ = some (.int .i64 z2) ∧ w.cell? ⟨w5.heap.size, 2, none⟩ = some (.int .i64 (z3 : Int))) := fun w hw => by
    have h := hk6.below hw hk6.lt
    exact ⟨(HX.out w (hop HB6.out hw)).1, h.cell (i := 0) (by simp), h.cell (i := 1) (by simp), h.cell (i := 2) (by simp)⟩
  have hS0 := hN w6.drew (Below.refl _ _).drew
  have hne : w5.heap.size ≠ W.heap.size + 1 := by
    have h1 := HB5.out.size
    have h2 := HKE.out.lt
    omega
  have HST : Hid (∀ w : World, (w.cell? ⟨W.heap.size, 0, none⟩ = some (.slice A s.length c) ∧ w.cell? ⟨w5.heap.size, 0, none⟩ = some (.int .i64 z1) ∧ w.cell? ⟨w5.heap.size, 1, none⟩ = some (.int .i64 z2) ∧ w.cell? ⟨w5.heap.size, 2, none⟩ = some (.int .i64 (z3 : Int))) → ((((w.setCell ⟨W.heap.size + 1, 0, none⟩ (.int .i64 u1)).setCell ⟨W.heap.size + 1, 1, none⟩ (.int .i64 u2)).setCell ⟨W.heap.size + 1, 2, none⟩ (.int .i64 (u3 : Int))).cell? ⟨W.heap.size, 0, none⟩ = some (.slice A s.length c) ∧ (((w.setCell ⟨W.heap.size + 1, 0, none⟩ (.int .i64 u1)).setCell ⟨W.heap.size + 1, 1, none⟩ (.int .i64 u2)).setCell ⟨W.heap.size + 1, 2, none⟩ (.int .i64 (u3 : Int))).cell? ⟨w5.heap.size, 0, none⟩ = some (.int .i64 z1) ∧ (((w.setCell ⟨W.heap.size + 1, 0, none⟩ (.int .i64 u1)).setCell ⟨W.heap.size + 1, 1, none⟩ (.int .i64 u2)).setCell ⟨W.heap.size + 1, 2, none⟩ (.int .i64 (u3 : Int))).cell? ⟨w5.heap.size, 1, none⟩ = some (.int .i64 z2) ∧ (((w.setCell ⟨W.heap.size + 1, 0, none⟩ (.int .i64 u1)).setCell ⟨W.heap.size + 1, 1, none⟩ (.int .i64 u2)).setCell ⟨W.heap.size + 1, 2, none⟩ (.int .i64 (u3 : Int))).cell? ⟨w5.heap.size, 2, none⟩ = some (.int .i64 (z3 : Int)))) := Lib.hid (fun w hw => by
    have hh : ∀ k, k ≠ W.heap.size + 1 → (((w.setCell ⟨W.heap.size + 1, 0, none⟩ (.int .i64 u1)).setCell ⟨W.heap.size + 1, 1, none⟩ (.int .i64 u2)).setCell ⟨W.heap.size + 1, 2, none⟩ (.int .i64 (u3 : Int))).heap[k]? = w.heap[k]? := fun k hk => by
      rw [Below.heap_setCell _ _ _ _ hk, Below.heap_setCell _ _ _ _ hk, Below.heap_setCell _ _ _ _ hk]
    exact ⟨(World.cell?_of_block (hh _ (Nat.ne_of_lt (Nat.lt_succ_self _)))).trans hw.1, (World.cell?_of_block (hh _ hne)).trans hw.2.1, (World.cell?_of_block (hh _ hne)).trans hw.2.2.1, (World.cell?_of_block (hh _ hne)).trans hw.2.2.2⟩)
  have HN := Lib.hid hN
  have HB6D := Lib.hid (Below.refl w6.heap.size w6).drew
  clear hN hk6 x0 hw6 hne
  go_region_held_law (fun (w : World) => (w.cell? ⟨W.heap.size, 0, none⟩ = some (.slice A s.length c) ∧ w.cell? ⟨w5.heap.size, 0, none⟩ = some (.int .i64 z1) ∧ w.cell? ⟨w5.heap.size, 1, none⟩ = some (.int .i64 z2) ∧ w.cell? ⟨w5.heap.size, 2, none⟩ = some (.int .i64 (z3 : Int))))
    (first | with_reducible assumption | (apply HST.out; assumption))
    (first
      | (go_at_call 31; refine (HFR.out _ HB6.out.drew).mono ?_; rintro r w7 ⟨rfl, hb7⟩; have HB7 := Lib.hid (undrew hb7); have hS7 := HN.out w7 HB7.out; have hS7' := HN.out _ (HB7.out.alloc HB7.out.size (.cells #[.int .i64 z1, .int .i64 z2, .int .i64 (z3 : Int), .int .i64 y1, .int .i64 y2, .int .i64 (y3 : Int)] 33)); clear hb7)
      | (go_at_call 27; with_reducible refine (HOR.out _).mono ?_; rintro r w8 ⟨rfl, hb8⟩; have HB8 := Lib.hid (hop HB7.out hb8); have hS8 := HN.out w8 HB8.out; obtain ⟨_, v0, v1, v2, f0, f1, f2⟩ := HX.out w8 (hop HB6.out HB8.out)))
  go_wp2_with fail
  refine bodyPost_ret (v := .agg #[.int .i64 u1, .int .i64 u2, .int .i64 (u3 : Int)]) (by simp [results, Tryz.results28, go_sem, v0, v1, v2]) rfl ?_
  have hb9 := HF.out w8 (hop HB6.out HB8.out)
  exact ⟨rfl, ((hb9.setCell (p := ⟨W.heap.size + 1, 0, none⟩) (Nat.le_succ _) _).setCell (p := ⟨W.heap.size + 1, 1, none⟩) (Nat.le_succ _) _).setCell (p := ⟨W.heap.size + 1, 2, none⟩) (Nat.le_succ _) _⟩
end Go.Proofs.YtdnhbledndgbcaaGreat
