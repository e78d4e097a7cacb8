/-
  What sort's order2_func, median_func, medianAdjacent_func and choosePivot_func come to, whatever program holds them, where 'less' may lay blocks. Conditions: the places asked for lie within the row.
-/
import Derived.Test.YtehabjiacgibpaaGreatCSoW
import Derived.Shelf.SlSortFuncK.PivotK
namespace Go.Proofs.YtehabjiacgibpaaGreat
open Go.Shelf Go.RowKit Go.Lib
section
variable {P : Program} {ρ : Ren} {α : Type} [Inhabited α] {enc : α → List Value} {k : Nat} {w0 W w' wr : World} {blk off : Nat} {lt : α → α → Bool} {g : Nat} {lb : Array Value} {sf : Nat} {sb : Array Value} {size : Nat} {d dk : Array α} {cb s : Nat}
structure Sp (enc : α → List Value) (k g : Nat) (lb : Array Value) (sf : Nat) (sb : Array Value) (blk off size : Nat) (w0 : World) (cb s : Nat) (W : World) (dk : Array α) (wr : World) : Prop where
  at_ : SoAt enc k w0 blk off dk wr
  len : dk.size = size
  own : W.grownBy wr (some cb)
  new : w0.heap.size ≤ cb
  old : cb < W.heap.size
  c0 : wr.cell? ⟨W.heap.size, 0, none⟩ = some (.func (.func g) #[] lb)
  c1 : wr.cell? ⟨W.heap.size, 1, none⟩ = some (.func (.func sf) #[] sb)
  cnt : wr.cell? ⟨cb, 0, none⟩ = some (.int .i64 (s : Int))
  frz : wr.frozen? ⟨cb, 0, none⟩ = false
  room : W.heap.size < wr.heap.size
theorem Sp.start (h : SoAt enc k w0 blk off d W) (hs : d.size = size) (hn : w0.heap.size ≤ cb) (ho : cb < W.heap.size) (hc : W.cell? ⟨cb, 0, none⟩ = some (.int .i64 (s : Int))) (hf : W.frozen? ⟨cb, 0, none⟩ = false) (t : TypeId) :
    Sp enc k g lb sf sb blk off size w0 cb s W d (W.alloc (.cells #[.func (.func g) #[] lb, .func (.func sf) #[] sb] t)) := by
  have hb := (Below.refl W.heap.size W).alloc (Nat.le_refl _) (.cells #[.func (.func g) #[] lb, .func (.func sf) #[] sb] t)
  exact ⟨h.below hb, hs, only_of_below hb _, hn, ho, by simp, by simp, (hb.cell (p := ⟨cb, 0, none⟩) ho).trans hc, (hb.frozen (p := ⟨cb, 0, none⟩) ho).trans hf, by simp⟩
theorem Sp.below (h : Sp enc k g lb sf sb blk off size w0 cb s W dk wr) (hb : Below wr.heap.size wr w') : Sp enc k g lb sf sb blk off size w0 cb s W dk w' :=
  ⟨h.at_.below hb, h.len, only_below h.own hb, h.new, h.old, (hb.cell (p := ⟨W.heap.size, 0, none⟩) h.room).trans h.c0, (hb.cell (p := ⟨W.heap.size, 1, none⟩) h.room).trans h.c1,
    (hb.cell (p := ⟨cb, 0, none⟩) (Nat.lt_trans h.old h.room)).trans h.cnt, (hb.frozen (p := ⟨cb, 0, none⟩) (Nat.lt_trans h.old h.room)).trans h.frz, Nat.lt_of_lt_of_le h.room hb.size⟩
theorem Sp.moved (h : Sp enc k g lb sf sb blk off size w0 cb s W dk wr) {s' : Nat} (h2 : Sp enc k g lb sf sb blk off size w0 cb s' wr dk w') : Sp enc k g lb sf sb blk off size w0 cb s' W dk w' := by
  have hne : ∀ o, (some (⟨W.heap.size, o, none⟩ : Addr).block) ≠ some cb := fun o e => by
    injection e with e
    have := h.old
    change W.heap.size = cb at e
    omega
  exact ⟨h2.at_, h.len, only_trans h.own h2.own, h.new, h.old, h2.own.cell h.c0 (hne 0), h2.own.cell h.c1 (hne 1), h2.cnt, h2.frz, Nat.lt_of_lt_of_le h.room h2.own.size⟩
theorem Sp.count (h : Sp enc k g lb sf sb blk off size w0 cb s W dk wr) : Sp enc k g lb sf sb blk off size w0 cb (s + 1) W dk (wr.setCell ⟨cb, 0, none⟩ (.int .i64 ((s : Int) + 1))) := by
  have hne : W.heap.size ≠ cb := by have := h.old; omega
  have hlt : cb < wr.heap.size := Nat.lt_trans h.old h.room
  have e : ∀ o, (wr.setCell ⟨cb, 0, none⟩ (.int .i64 ((s : Int) + 1))).cell? ⟨W.heap.size, o, none⟩ = wr.cell? ⟨W.heap.size, o, none⟩ := fun o =>
    World.cell?_of_block (w := wr) (a := ⟨W.heap.size, o, none⟩) (Below.heap_setCell _ _ _ _ hne)
  refine ⟨h.at_.setCell h.new 0 _, h.len, only_setCell h.own _ _, h.new, h.old, (e 0).trans h.c0, (e 1).trans h.c1, ?_, ?_, by simpa [World.setCell] using h.room⟩
  · exact World.cell?_setCell_same _ _ _ h.cnt
  · rw [World.frozen?_setCell]; exact h.frz
theorem Sp.lessB (H : SoHyp P enc k lt g lb sf sb blk off size w0) (h : Sp enc k g lb sf sb blk off size w0 cb s W dk wr) {i j : Nat} (hi : i < size) (hj : j < size) {v : Bool} (hv : lt dk[i]! dk[j]! = v) :
    Calls P g (#[.int .i64 i, .int .i64 j] ++ lb) wr fun e w' => e = .returned (.bool v) ∧ Sp enc k g lb sf sb blk off size w0 cb s W dk w' :=
  (H.less wr dk h.at_ h.len i j hi hj).mono fun e w2 ⟨he, hb⟩ => ⟨by rw [he, hv], h.below hb⟩
set_option maxHeartbeats 1000000 in
set_option maxRecDepth 100000 in
theorem order2_at (L : LaysGg.n39 P ρ) (H : SoHyp P enc k lt g lb sf sb blk off size w0) (a b : Nat) (W : World) (hS : SoAt enc k w0 blk off d W) (hd : d.size = size) (ha : a < size) (hb : b < size)
    (hn : w0.heap.size ≤ cb) (ho : cb < W.heap.size) (hc : W.cell? ⟨cb, 0, none⟩ = some (.int .i64 (s : Int))) (hf : W.frozen? ⟨cb, 0, none⟩ = false) (hs : s < 4611686018427387904) :
    Calls P (ρ.f 39) #[.agg #[.func (.func g) #[] lb, .func (.func sf) #[] sb], .int .i64 a, .int .i64 b, .pointer (some ⟨cb, 0, none⟩)] W fun e w' =>
      e = .returned (.tuple #[.int .i64 (Sort.order2 lt d a b s).1, .int .i64 (Sort.order2 lt d a b s).2.1]) ∧ Sp enc k g lb sf sb blk off size w0 cb (Sort.order2 lt d a b s).2.2 W d w' := by
  have mixed := L.mixed; have t0 := L.t0; have a0 := L.a0; have z0 := L.z0; have v0 := L.v0; have t3 := L.t3; have a3 := L.a3; have z3 := L.z3; have v3 := L.v3; have t4 := L.t4; have a4 := L.a4; have z4 := L.z4; have v4 := L.v4; have t26 := L.t26; have a26 := L.a26; have z26 := L.z26; have v26 := L.v26; have t37 := L.t37; have a37 := L.a37; have z37 := L.z37; have v37 := L.v37; have t44 := L.t44; have a44 := L.a44; have z44 := L.z44; have v44 := L.v44; have t64 := L.t64; have a64 := L.a64; have z64 := L.z64; have v64 := L.v64
  have u44 := run_underlying L.t44
  have eg := H.eg
  have hsz := H.sz
  have S0 := Sp.start (g := g) (lb := lb) (sf := sf) (sb := sb) hS hd hn ho hc hf (ρ.t 44)
  clear hS
  go_enter L.f39, BodyGg.n39_ntmps ρ
  cases hlv : lt d[b]! d[a]! with
  | true =>
    have hl := S0.lessB H hb ha hlv
    have e2 : Sort.order2 lt d a b s = (b, a, s + 1) := by simp [Sort.order2, hlv]
    clear S0
    go_wp2_with (go_at_fn g; refine hl.mono ?_; rintro e w2 ⟨rfl, S2⟩; have y0 := S2.cnt; have y1 := S2.frz)
    go_ret2
    rw [e2]
    exact ⟨rfl, S2.count⟩
  | false =>
    have hl := S0.lessB H hb ha hlv
    have e2 : Sort.order2 lt d a b s = (a, b, s) := by simp [Sort.order2, hlv]
    clear S0
    go_wp2_with (go_at_fn g; refine hl.mono ?_; rintro e w2 ⟨rfl, S2⟩)
    go_ret2
    rw [e2]
    exact ⟨rfl, S2⟩
set_option maxHeartbeats 1000000 in
set_option maxRecDepth 100000 in
theorem median_at (L : LaysGg.n38 P ρ) (H : SoHyp P enc k lt g lb sf sb blk off size w0) (a b c : Nat) (W : World) (hS : SoAt enc k w0 blk off d W) (hd : d.size = size) (ha : a < size) (hb : b < size) (hc' : c < size)
    (hn : w0.heap.size ≤ cb) (ho : cb < W.heap.size) (hc : W.cell? ⟨cb, 0, none⟩ = some (.int .i64 (s : Int))) (hf : W.frozen? ⟨cb, 0, none⟩ = false) (hs : s + 3 < 4611686018427387904) :
    Calls P (ρ.f 38) #[.agg #[.func (.func g) #[] lb, .func (.func sf) #[] sb], .int .i64 a, .int .i64 b, .int .i64 c, .pointer (some ⟨cb, 0, none⟩)] W fun e w' =>
      e = .returned (.int .i64 (Sort.median lt d a b c s).1) ∧ Sp enc k g lb sf sb blk off size w0 cb (Sort.median lt d a b c s).2 W d w' := by
  have mixed := L.mixed; have t0 := L.t0; have a0 := L.a0; have z0 := L.z0; have v0 := L.v0; have t3 := L.t3; have a3 := L.a3; have z3 := L.z3; have v3 := L.v3; have t4 := L.t4; have a4 := L.a4; have z4 := L.z4; have v4 := L.v4; have t26 := L.t26; have a26 := L.a26; have z26 := L.z26; have v26 := L.v26; have t37 := L.t37; have a37 := L.a37; have z37 := L.z37; have v37 := L.v37; have t44 := L.t44; have a44 := L.a44; have z44 := L.z44; have v44 := L.v44; have t64 := L.t64; have a64 := L.a64; have z64 := L.z64; have v64 := L.v64; have t67 := L.t67; have a67 := L.a67; have z67 := L.z67; have v67 := L.v67
  have u44 := run_underlying L.t44
  have eg := H.eg
  have hsz := H.sz
  have e39 : ∀ args w, (callFunc (ρ.f 39) args).run P w = .ok (.enter (ρ.f 39) args) w := enters_of L.f39 (by kernel_rfl) rfl
  have S0 := Sp.start (g := g) (lb := lb) (sf := sf) (sb := sb) hS hd hn ho hc hf (ρ.t 44)
  have l1 := order2_lt' lt d s ha hb
  have s1 := order2_swaps' lt d a b s
  have l2 := order2_lt' lt d (Sort.order2 lt d a b s).2.2 l1.2 hc'
  have s2 := order2_swaps' lt d (Sort.order2 lt d a b s).2.1 c (Sort.order2 lt d a b s).2.2
  have step : ∀ (wr : World) (t a' b' : Nat), Sp enc k g lb sf sb blk off size w0 cb t W d wr → a' < size → b' < size → t < 4611686018427387904 →
      Calls P (ρ.f 39) #[.agg #[.func (.func g) #[] lb, .func (.func sf) #[] sb], .int .i64 a', .int .i64 b', .pointer (some ⟨cb, 0, none⟩)] wr fun e w' =>
        e = .returned (.tuple #[.int .i64 (Sort.order2 lt d a' b' t).1, .int .i64 (Sort.order2 lt d a' b' t).2.1]) ∧ Sp enc k g lb sf sb blk off size w0 cb (Sort.order2 lt d a' b' t).2.2 W d w' := fun wr t a' b' S h1 h2 h3 =>
    (order2_at (P := P) (ρ := ρ) { L with } H a' b' wr S.at_ S.len h1 h2 S.new (Nat.lt_trans S.old S.room) S.cnt S.frz h3).mono fun _ _ ⟨he, S2⟩ => ⟨he, S.moved S2⟩
  have HS := Lib.hid step
  have y0 := S0.c0
  have y1 := S0.c1
  clear hS step
  go_enter L.f38, BodyGg.n38_ntmps ρ
  go_wp2_with (go_at_fn_of (ρ.f 39) (Value.int .i64 (b : Int)); refine (HS.out _ _ _ _ S0 ha hb (by omega)).mono ?_; rintro e w1 ⟨rfl, S1⟩; have z0 := S1.c0; have z1 := S1.c1)
  go_wp2_with (go_at_fn_of (ρ.f 39) (Value.int .i64 (c : Int)); refine (HS.out _ _ _ c S1 l1.2 hc' (by omega)).mono ?_; rintro e w2 ⟨rfl, S2⟩; have x0 := S2.c0; have x1 := S2.c1)
  go_wp2_with (go_at_fn_of (ρ.f 39) (Value.int .i64 ((Sort.order2 lt d a b s).1 : Int)); refine (HS.out _ _ _ _ S2 l1.1 l2.1 (by omega)).mono ?_; rintro e w3 ⟨rfl, S3⟩)
  go_ret
  exact ⟨rfl, S3⟩
set_option maxHeartbeats 1000000 in
set_option maxRecDepth 100000 in
theorem medianAdjacent_at (L : LaysGg.n37 P ρ) (H : SoHyp P enc k lt g lb sf sb blk off size w0) (a : Nat) (W : World) (hS : SoAt enc k w0 blk off d W) (hd : d.size = size) (ha1 : 1 ≤ a) (ha2 : a + 1 < size)
    (hn : w0.heap.size ≤ cb) (ho : cb < W.heap.size) (hc : W.cell? ⟨cb, 0, none⟩ = some (.int .i64 (s : Int))) (hf : W.frozen? ⟨cb, 0, none⟩ = false) (hs : s + 3 < 4611686018427387904) :
    Calls P (ρ.f 37) #[.agg #[.func (.func g) #[] lb, .func (.func sf) #[] sb], .int .i64 a, .pointer (some ⟨cb, 0, none⟩)] W fun e w' =>
      e = .returned (.int .i64 (Sort.medianAdjacent lt d a s).1) ∧ Sp enc k g lb sf sb blk off size w0 cb (Sort.medianAdjacent lt d a s).2 W d w' := by
  have mixed := L.mixed; have t0 := L.t0; have a0 := L.a0; have z0 := L.z0; have v0 := L.v0; have t3 := L.t3; have a3 := L.a3; have z3 := L.z3; have v3 := L.v3; have t4 := L.t4; have a4 := L.a4; have z4 := L.z4; have v4 := L.v4; have t26 := L.t26; have a26 := L.a26; have z26 := L.z26; have v26 := L.v26; have t37 := L.t37; have a37 := L.a37; have z37 := L.z37; have v37 := L.v37; have t44 := L.t44; have a44 := L.a44; have z44 := L.z44; have v44 := L.v44; have t64 := L.t64; have a64 := L.a64; have z64 := L.z64; have v64 := L.v64; have t67 := L.t67; have a67 := L.a67; have z67 := L.z67; have v67 := L.v67
  have u44 := run_underlying L.t44
  have eg := H.eg
  have hsz := H.sz
  have e38 : ∀ args w, (callFunc (ρ.f 38) args).run P w = .ok (.enter (ρ.f 38) args) w := enters_of L.f38 (by kernel_rfl) rfl
  have S0 := Sp.start (g := g) (lb := lb) (sf := sf) (sb := sb) hS hd hn ho hc hf (ρ.t 44)
  have hm := median_at (P := P) (ρ := ρ) { L with } H (a - 1) a (a + 1) _ S0.at_ S0.len (by omega) (by omega) ha2 S0.new (Nat.lt_trans S0.old S0.room) S0.cnt S0.frz hs
  rw [show ((a - 1 : Nat) : Int) = (a : Int) - 1 by omega, show ((a + 1 : Nat) : Int) = (a : Int) + 1 by omega] at hm
  have y0 := S0.c0
  have y1 := S0.c1
  clear hS
  go_enter L.f37, BodyGg.n37_ntmps ρ
  go_wp2_with (go_at_fn (ρ.f 38); refine hm.mono ?_; rintro e w2 ⟨rfl, S2⟩)
  go_ret
  exact ⟨rfl, S0.moved S2⟩
structure Sq (enc : α → List Value) (k g : Nat) (lb : Array Value) (sf : Nat) (sb : Array Value) (blk off size : Nat) (w0 : World) (s : Nat) (W : World) (dk : Array α) (wr : World) : Prop where
  at_ : SoAt enc k w0 blk off dk wr
  len : dk.size = size
  below : Below W.heap.size W wr
  new : w0.heap.size ≤ W.heap.size
  c0 : wr.cell? ⟨W.heap.size, 0, none⟩ = some (.func (.func g) #[] lb)
  c1 : wr.cell? ⟨W.heap.size, 1, none⟩ = some (.func (.func sf) #[] sb)
  cnt : wr.cell? ⟨W.heap.size + 1, 0, none⟩ = some (.int .i64 (s : Int))
  frz : wr.frozen? ⟨W.heap.size + 1, 0, none⟩ = false
  room : W.heap.size + 1 < wr.heap.size
theorem Sq.start (h : SoAt enc k w0 blk off d W) (hs : d.size = size) (t t' : TypeId) :
    Sq enc k g lb sf sb blk off size w0 0 W d ((W.alloc (.cells #[.func (.func g) #[] lb, .func (.func sf) #[] sb] t)).alloc (.cells #[.int .i64 0] t')) := by
  have hb := (Below.refl W.heap.size W).alloc (Nat.le_refl _) (.cells #[.func (.func g) #[] lb, .func (.func sf) #[] sb] t)
  have hb2 := hb.alloc (by simp) (.cells #[.int .i64 0] t')
  have e : ∀ o, ((W.alloc (.cells #[.func (.func g) #[] lb, .func (.func sf) #[] sb] t)).alloc (.cells #[.int .i64 0] t')).cell? ⟨W.heap.size, o, none⟩ = (W.alloc (.cells #[.func (.func g) #[] lb, .func (.func sf) #[] sb] t)).cell? ⟨W.heap.size, o, none⟩ := fun o =>
    World.cell?_alloc_past _ _ _ (by simp)
  refine ⟨h.below hb2, hs, hb2, h.grown.size, by rw [e]; simp, by rw [e]; simp, ?_, ?_, by simp⟩
  · rw [World.cell?_alloc_at _ _ _ _ (by simp)]; rfl
  · exact World.frozen?_alloc_at _ _ _ _ (by simp)
theorem Sq.moved (h : Sq enc k g lb sf sb blk off size w0 s W dk wr) {s' : Nat} (h2 : Sp enc k g lb sf sb blk off size w0 (W.heap.size + 1) s' wr dk w') : Sq enc k g lb sf sb blk off size w0 s' W dk w' := by
  have hne : ∀ o, (some (⟨W.heap.size, o, none⟩ : Addr).block) ≠ some (W.heap.size + 1) := fun o e => by
    injection e with e
    change W.heap.size = W.heap.size + 1 at e
    omega
  exact ⟨h2.at_, h.len, h.below.grown h2.own h.below.size (fun k hk => by injection hk with hk; omega), h.new, h2.own.cell h.c0 (hne 0), h2.own.cell h.c1 (hne 1), h2.cnt, h2.frz, Nat.lt_of_lt_of_le h.room h2.own.size⟩
set_option maxHeartbeats 2000000 in
set_option maxRecDepth 100000 in
theorem choose_at (L : LaysGg.n29 P ρ) (H : SoHyp P enc k lt g lb sf sb blk off size w0) (a b : Nat) (W : World) (hS : SoAt enc k w0 blk off d W) (hd : d.size = size) (hab : a < b) (hb : b ≤ size) :
    Calls P (ρ.f 29) #[.agg #[.func (.func g) #[] lb, .func (.func sf) #[] sb], .int .i64 a, .int .i64 b] W fun e w' =>
      e = .returned (.tuple #[.int .i64 (Sort.choosePivot lt d a b).1, .int .i64 (Sort.hintCode (Sort.choosePivot lt d a b).2)]) ∧ Below W.heap.size W w' := by
  have mixed := L.mixed; have t0 := L.t0; have a0 := L.a0; have z0 := L.z0; have v0 := L.v0; have t3 := L.t3; have a3 := L.a3; have z3 := L.z3; have v3 := L.v3; have t4 := L.t4; have a4 := L.a4; have z4 := L.z4; have v4 := L.v4; have t26 := L.t26; have a26 := L.a26; have z26 := L.z26; have v26 := L.v26; have t37 := L.t37; have a37 := L.a37; have z37 := L.z37; have v37 := L.v37; have t44 := L.t44; have a44 := L.a44; have z44 := L.z44; have v44 := L.v44; have t64 := L.t64; have a64 := L.a64; have z64 := L.z64; have v64 := L.v64; have t67 := L.t67; have a67 := L.a67; have z67 := L.z67; have v67 := L.v67; have t53 := L.t53; have a53 := L.a53; have z53 := L.z53; have v53 := L.v53
  have u44 := run_underlying L.t44
  have eg := H.eg
  have hsz := H.sz
  have e37 : ∀ args w, (callFunc (ρ.f 37) args).run P w = .ok (.enter (ρ.f 37) args) w := enters_of L.f37 (by kernel_rfl) rfl
  have e38 : ∀ args w, (callFunc (ρ.f 38) args).run P w = .ok (.enter (ρ.f 38) args) w := enters_of L.f38 (by kernel_rfl) rfl
  have S0 := Sq.start (g := g) (lb := lb) (sf := sf) (sb := sb) hS hd (ρ.t 44) (ρ.t 3)
  have y0 := S0.c0
  have y1 := S0.c1
  have y2 := S0.cnt
  have ma : ∀ (wr : World) (x s : Nat), Sq enc k g lb sf sb blk off size w0 s W d wr → 1 ≤ x → x + 1 < size → s + 3 < 4611686018427387904 → ∀ p s', Sort.medianAdjacent lt d x s = (p, s') → Calls P (ρ.f 37) #[.agg #[.func (.func g) #[] lb, .func (.func sf) #[] sb], .int .i64 x, .pointer (some ⟨W.heap.size + 1, 0, none⟩)] wr fun e w' => e = .returned (.int .i64 (p : Int)) ∧ Sq enc k g lb sf sb blk off size w0 s' W d w' := fun wr x s S h1 h2 h3 p s' hp => by
    have h := medianAdjacent_at (P := P) (ρ := ρ) { L with } H x wr S.at_ S.len h1 h2 (Nat.le_succ_of_le S.new) S.room S.cnt S.frz h3
    rw [hp] at h
    exact h.mono fun _ _ ⟨he, S2⟩ => ⟨he, S.moved S2⟩
  have md : ∀ (wr : World) (x y z s : Nat), Sq enc k g lb sf sb blk off size w0 s W d wr → x < size → y < size → z < size → s + 3 < 4611686018427387904 → ∀ p s', Sort.median lt d x y z s = (p, s') → Calls P (ρ.f 38) #[.agg #[.func (.func g) #[] lb, .func (.func sf) #[] sb], .int .i64 x, .int .i64 y, .int .i64 z, .pointer (some ⟨W.heap.size + 1, 0, none⟩)] wr fun e w' => e = .returned (.int .i64 (p : Int)) ∧ Sq enc k g lb sf sb blk off size w0 s' W d w' := fun wr x y z s S h1 h2 h3 h4 p s' hp => by
    have h := median_at (P := P) (ρ := ρ) { L with } H x y z wr S.at_ S.len h1 h2 h3 (Nat.le_succ_of_le S.new) S.room S.cnt S.frz h4
    rw [hp] at h
    exact h.mono fun _ _ ⟨he, S2⟩ => ⟨he, S.moved S2⟩
  have MA := Lib.hid ma
  have MD := Lib.hid md
  clear ma md hS
  rw [Sort.choosePivot_eq]
  obtain ⟨I, hI⟩ : ∃ I : Nat, I = a + (b - a) / 4 * 1 := ⟨_, rfl⟩
  obtain ⟨J, hJ⟩ : ∃ J : Nat, J = a + (b - a) / 4 * 2 := ⟨_, rfl⟩
  obtain ⟨K, hK⟩ : ∃ K : Nat, K = a + (b - a) / 4 * 3 := ⟨_, rfl⟩
  have eI : ((a : Int) + ((b : Int) - (a : Int)) / 4) = (I : Int) := by omega
  have eJ : ((a : Int) + ((b : Int) - (a : Int)) / 4 * 2) = (J : Int) := by omega
  have eK : ((a : Int) + ((b : Int) - (a : Int)) / 4 * 3) = (K : Int) := by omega
  -- what the last test makes of the count
  have fin : ∀ (p s : Nat) (w2 : World), Sq enc k g lb sf sb blk off size w0 s W d w2 → Sort.rawPivot lt d a b = (p, s) → ∀ Hc : Int, (s = 0 → Hc = 1) → (s = 12 → Hc = 2) → (s ≠ 0 → s ≠ 12 → Hc = 0) →
      Ending.returned (Value.tuple #[.int .i64 (p : Int), .int .i64 Hc]) = Ending.returned (Value.tuple #[.int .i64 ((Sort.rawPivot lt d a b).1 : Int), .int .i64 (Sort.hintCode (Sort.hintOf (Sort.rawPivot lt d a b).2))]) ∧ Below W.heap.size W w2 := fun p s w2 S hr Hc h0 h12 hx => by
    refine ⟨?_, S.below⟩
    rw [hr]
    show _ = Ending.returned (Value.tuple #[.int .i64 (p : Int), .int .i64 (Sort.hintCode (Sort.hintOf s))])
    have : Hc = Sort.hintCode (Sort.hintOf s) := by
      unfold Sort.hintOf
      by_cases e0 : s = 0
      · rw [if_pos e0, h0 e0]; rfl
      by_cases e12 : s = 12
      · rw [if_neg e0, if_pos e12, h12 e12]; rfl
      rw [if_neg e0, if_neg e12, hx e0 e12]; rfl
    rw [this]
  have FIN := Lib.hid fin
  clear fin
  by_cases h8 : b - a ≥ 8
  · by_cases h50 : b - a ≥ 50
    · obtain ⟨i1, s1, h1⟩ : ∃ i1 s1, Sort.medianAdjacent lt d I 0 = (i1, s1) := ⟨_, _, rfl⟩
      obtain ⟨j1, s2, h2⟩ : ∃ j1 s2, Sort.medianAdjacent lt d J s1 = (j1, s2) := ⟨_, _, rfl⟩
      obtain ⟨k1, s3, h3⟩ : ∃ k1 s3, Sort.medianAdjacent lt d K s2 = (k1, s3) := ⟨_, _, rfl⟩
      obtain ⟨p, s, h4⟩ : ∃ p s, Sort.median lt d i1 j1 k1 s3 = (p, s) := ⟨_, _, rfl⟩
      have hraw : Sort.rawPivot lt d a b = (p, s) := by simp only [Sort.rawPivot, if_pos h8, if_pos h50, ← hI, ← hJ, ← hK, h1, h2, h3, h4]
      have m1 := Sort.medianAdjacent_mem lt d I 0; rw [h1] at m1
      have m2 := Sort.medianAdjacent_mem lt d J s1; rw [h2] at m2
      have m3 := Sort.medianAdjacent_mem lt d K s2; rw [h3] at m3
      have n1 := Sort.medianAdjacent_count lt d I 0; rw [h1] at n1
      have n2 := Sort.medianAdjacent_count lt d J s1; rw [h2] at n2
      have n3 := Sort.medianAdjacent_count lt d K s2; rw [h3] at n3
      simp only [] at m1 m2 m3 n1 n2 n3
      have c1 := MA.out _ I 0 S0 (by omega) (by omega) (by omega) i1 s1 h1
      have C2 := Lib.hid (fun wr (S : Sq enc k g lb sf sb blk off size w0 s1 W d wr) => MA.out wr J s1 S (by omega) (by omega) (by omega) j1 s2 h2)
      have C3 := Lib.hid (fun wr (S : Sq enc k g lb sf sb blk off size w0 s2 W d wr) => MA.out wr K s2 S (by omega) (by omega) (by omega) k1 s3 h3)
      have C4 := Lib.hid (fun wr (S : Sq enc k g lb sf sb blk off size w0 s3 W d wr) => MD.out wr i1 j1 k1 s3 S (by omega) (by omega) (by omega) (by omega) p s h4)
      have HR := Lib.hid hraw
      clear h1 h2 h3 h4 MA MD hI hJ hK m1 m2 m3 hraw
      go_enter L.f29, BodyGg.n29_ntmps ρ
      go_wp2_with (first
        | (go_at_fn_of (ρ.f 37) (Value.int .i64 (I : Int)); refine c1.mono ?_; rintro e w1 ⟨rfl, S1⟩; have z0 := S1.c0; have z1 := S1.c1)
        | (go_at_fn_of (ρ.f 37) (Value.int .i64 (J : Int)); refine (C2.out _ S1).mono ?_; rintro e w2 ⟨rfl, S2⟩; have x0 := S2.c0; have x1 := S2.c1)
        | (go_at_fn_of (ρ.f 37) (Value.int .i64 (K : Int)); refine (C3.out _ S2).mono ?_; rintro e w3 ⟨rfl, S3⟩; have u0 := S3.c0; have u1 := S3.c1)
        | (go_at_fn (ρ.f 38); refine (C4.out _ S3).mono ?_; rintro e w4 ⟨rfl, S4⟩; have q2 := S4.cnt))
      all_goals
        go_ret2
        exact FIN.out p s _ S4 HR.out _ (by intro h1; first | rfl | (exfalso; first | omega | (have e0 : (s : Int) ≠ 0 := of_bne_int (by assumption); omega) | (have e1 : (s : Int) = 12 := of_beq_int (by assumption); omega))) (by intro h1; first | rfl | (exfalso; first | omega | (have e1 : (s : Int) ≠ 12 := of_bne_int (by assumption); omega) | (have e0 : (s : Int) = 0 := of_beq_int (by assumption); omega))) (by intro h1 h2; first | rfl | (exfalso; first | omega | (have e0 : (s : Int) = 0 := of_beq_int (by assumption); omega) | (have e1 : (s : Int) = 12 := of_beq_int (by assumption); omega)))
    · obtain ⟨p, s, h4⟩ : ∃ p s, Sort.median lt d I J K 0 = (p, s) := ⟨_, _, rfl⟩
      have hraw : Sort.rawPivot lt d a b = (p, s) := by simp only [Sort.rawPivot, if_pos h8, if_neg h50, ← hI, ← hJ, ← hK, h4]
      have c4 := MD.out _ I J K 0 S0 (by omega) (by omega) (by omega) (by omega) p s h4
      have HR := Lib.hid hraw
      clear h4 MA MD hI hJ hK hraw
      go_enter L.f29, BodyGg.n29_ntmps ρ
      go_wp2_with (first | (go_at_fn (ρ.f 38); refine c4.mono ?_; rintro e w4 ⟨rfl, S4⟩; have q2 := S4.cnt))
      all_goals
        go_ret2
        exact FIN.out p s _ S4 HR.out _ (by intro h1; first | rfl | (exfalso; first | omega | (have e0 : (s : Int) ≠ 0 := of_bne_int (by assumption); omega) | (have e1 : (s : Int) = 12 := of_beq_int (by assumption); omega))) (by intro h1; first | rfl | (exfalso; first | omega | (have e1 : (s : Int) ≠ 12 := of_bne_int (by assumption); omega) | (have e0 : (s : Int) = 0 := of_beq_int (by assumption); omega))) (by intro h1 h2; first | rfl | (exfalso; first | omega | (have e0 : (s : Int) = 0 := of_beq_int (by assumption); omega) | (have e1 : (s : Int) = 12 := of_beq_int (by assumption); omega)))
  · obtain ⟨p, hp⟩ : ∃ p : Nat, p = J := ⟨_, rfl⟩
    obtain ⟨s, hs⟩ : ∃ s : Nat, s = 0 := ⟨_, rfl⟩
    have hraw : Sort.rawPivot lt d a b = (p, s) := by simp only [Sort.rawPivot, if_neg h8, ← hJ, hp, hs]
    have HR := Lib.hid hraw
    subst hp
    clear MA MD hI hJ hK hraw
    go_enter L.f29, BodyGg.n29_ntmps ρ
    go_wp2
    all_goals
      go_ret2
      exact FIN.out p s _ (by rw [hs]; exact S0) HR.out _ (by intro h1; first | rfl | (exfalso; first | omega | (have e0 : (s : Int) ≠ 0 := of_bne_int (by assumption); omega) | (have e1 : (s : Int) = 12 := of_beq_int (by assumption); omega))) (by intro h1; first | rfl | (exfalso; first | omega | (have e1 : (s : Int) ≠ 12 := of_bne_int (by assumption); omega) | (have e0 : (s : Int) = 0 := of_beq_int (by assumption); omega))) (by intro h1 h2; first | rfl | (exfalso; first | omega | (have e0 : (s : Int) = 0 := of_beq_int (by assumption); omega) | (have e1 : (s : Int) = 12 := of_beq_int (by assumption); omega)))
end
end Go.Proofs.YtehabjiacgibpaaGreat
