/-
  A tree as it lies; New, Len, Size, Height, Sound, Get. Conditions: at most 100,000 pairs, of at most 1,000,000,000 bytes a key and a value.
-/
import Derived.Test.YtaeocbgmoijedaaTrCopy
import Derived.Test.YtaeocbgmoijedaaTrEach
namespace Go.Proofs.Ytaeocbgmoijedaa
open Go.RowKit

/-- a page as a root -/
structure Root (w : World) (F : Nat → Prop) (h : Nat) (p : Pg h) (L : List Kv) : Prop where
  ok : EOk w F (h + 1) p
  inner : Inner (h + 1) p
  flat : flats h p.els = L
  srt : Srt L
  top : p.els.length ≤ 8
  two : h ≠ 0 → 2 ≤ p.els.length
theorem Root.good {w : World} {F : Nat → Prop} {h : Nat} {p : Pg h} {L : List Kv} (r : Root w F h p L) : Good w F h p := ⟨r.ok, r.inner, by rw [r.flat]; exact r.srt, by have := r.top; omega, fun h => by have := r.two h; omega⟩
theorem Root.moved {w w' : World} {F G : Nat → Prop} {h : Nat} {p : Pg h} {L : List Kv} (r : Root w F h p L) (hs : Spared w w' F) (hG : ∀ i, G i → F i ∨ w.heap.size ≤ i) : Root w' G h p L := ⟨EOk.moved hs hG (h + 1) p r.ok, r.inner, r.flat, r.srt, r.top, r.two⟩
theorem four_pow (h : Nat) : h < 4 ^ h := by
  induction h with
  | zero => decide
  | succ h ih => rw [Nat.pow_succ]; omega
/-- how many pairs a high tree has at least -/
theorem Root.many {w : World} {F : Nat → Prop} {h : Nat} {p : Pg h} {L : List Kv} (r : Root w F h p L) (h0 : h ≠ 0) : 2 * 4 ^ h ≤ L.length := by
  have h2 := r.two h0
  rw [← r.flat]
  have hall : ∀ (l : List (El h)), (∀ x ∈ l, Full h x) → l.length * 4 ^ h ≤ (flats h l).length := by
    intro l
    induction l with
    | nil => intro _; simp [flats]
    | cons y l ih =>
      intro hl
      have i1 := ih (fun x hx => hl x (List.mem_cons_of_mem _ hx))
      have i2 := Full.many h y (hl y (List.mem_cons_self ..))
      rw [flats_cons, List.length_append, List.length_cons, Nat.succ_mul]
      omega
  have := hall p.els (fun x hx => r.inner.full hx)
  have h4 : 2 * 4 ^ h ≤ p.els.length * 4 ^ h := Nat.mul_le_mul_right _ h2
  omega
theorem Root.low_ {w : World} {F : Nat → Prop} {h : Nat} {p : Pg h} {L : List Kv} (r : Root w F h p L) : h ≤ L.length := by
  by_cases h0 : h = 0
  · omega
  · have := r.many h0; have := four_pow h; omega

/-- each key and value is of at most so many bytes -/
def Small (L : List Kv) : Prop := L.length ≤ 100000 ∧ ∀ x ∈ L, x.1.length ≤ 1000000000 ∧ x.2.length ≤ 1000000000
theorem Small.size {L : List Kv} (h : Small L) : sizeL L ≤ 200000000000000 := by
  have : ∀ l : List Kv, (∀ x ∈ l, x.1.length ≤ 1000000000 ∧ x.2.length ≤ 1000000000) → sizeL l ≤ l.length * 2000000000 := by
    intro l
    induction l with
    | nil => intro _; exact Nat.le_refl _
    | cons x l ih =>
      intro hl
      have h1 := ih (fun y hy => hl y (List.mem_cons_of_mem _ hy))
      have h2 := hl x (List.mem_cons_self ..)
      rw [sizeL_cons, List.length_cons, Nat.succ_mul]
      omega
  have h1 := this L h.2
  have h2 := h.1
  omega
/-- the cells of a tree -/
def treeCells (h : Nat) (p : Pg h) (room : Int) (L : List Kv) : List Value := ecells (h + 1) p ++ [.int .i64 room, .int .i64 (L.length : Int), .int .i64 (sizeL L : Int)]
/-- a tree in block g, whose pages lie in no block of F -/
def TreeAt (w : World) (F : Nat → Prop) (g : Nat) (room : Int) (L : List Kv) : Prop := F g ∧ Small L ∧ ∃ (h : Nat) (p : Pg h), Root w F h p L ∧ Blk w g (treeCells h p room L) 57
theorem TreeAt.moved {w w' : World} {F G : Nat → Prop} {g : Nat} {room : Int} {L : List Kv} (t : TreeAt w F g room L) (hs : Spared w w' (fun b => F b ∧ b ≠ g)) (hG : ∀ i, G i → F i ∨ w.heap.size ≤ i) (hg : G g) : TreeAt w' G g room L := by
  obtain ⟨_, h1, h, p, hr, hb⟩ := t
  exact ⟨hg, h1, h, p, hr.moved (hs.mono (fun _ h => h.1)) hG, hs.blk hb (fun h => h.2 rfl)⟩
theorem TreeAt.below {w w' : World} {F : Nat → Prop} {g : Nat} {room : Int} {L : List Kv} (t : TreeAt w F g room L) (hb : Below w.heap.size w w') : TreeAt w' F g room L := t.moved (.of_below hb _) (fun _ h => .inl h) t.1
theorem TreeAt.lt {w : World} {F : Nat → Prop} {g : Nat} {room : Int} {L : List Kv} (t : TreeAt w F g room L) : g < w.heap.size := by
  obtain ⟨_, _, _, _, _, hb⟩ := t
  exact hb.lt

/-- the walk's way to see a tree -/
theorem tree_open {w : World} {F : Nat → Prop} {g : Nat} {room : Int} {L : List Kv} (t : TreeAt w F g room L) : ∃ (h : Nat) (p : Pg h) (A0 A1 A2 : Option Addr) (n0 c0 n1 c1 n2 c2 : Nat), Root w F h p L ∧ pval h p = .agg #[.slice A0 n0 c0, .slice A1 n1 c1, .slice A2 n2 c2] ∧ ecells (h + 1) p = [.slice A0 n0 c0, .slice A1 n1 c1, .slice A2 n2 c2] ∧ Blk w g [.slice A0 n0 c0, .slice A1 n1 c1, .slice A2 n2 c2, .int .i64 room, .int .i64 (L.length : Int), .int .i64 (sizeL L : Int)] 57 := by
  obtain ⟨_, _, h, p, hr, hb⟩ := t
  obtain ⟨A0, n0, c0, A1, n1, c1, A2, n2, c2, hv⟩ := page_form h p
  refine ⟨h, p, A0, A1, A2, n0, c0, n1, c1, n2, c2, hr, by unfold pval; rw [hv], hv, ?_⟩
  unfold treeCells at hb
  rw [hv] at hb
  exact hb

set_option maxHeartbeats 400000 in
theorem new_any (w : World) (room : Int) :
    Calls Try.prog 11 #[.int .i64 room] w fun e w' => e = .returned (.pointer (some ⟨w.heap.size, 0, none⟩)) ∧ Below w.heap.size w w' ∧ w'.heap.size = w.heap.size + 1 ∧ ∀ F : Nat → Prop, F w.heap.size → TreeAt w' F w.heap.size room [] := by
  go_enter Try.func11, Try.ntmps11
  go_wp2
  go_ret
  refine ⟨rfl, (Below.refl _ _).alloc (Nat.le_refl _) _, by simp, fun F hF => ⟨hF, ⟨by decide, fun x hx => by cases hx⟩, 0, mkPg 0 none [] 0, ⟨mkPg_ok 0 none [] 0 (.inl rfl) (fun x hx => by cases hx) (Nat.le_refl _), mkPg_inner 0 none [] 0 (fun x hx => by cases hx), rfl, Srt.nil, Nat.zero_le _, fun h => absurd rfl h⟩, ?_⟩⟩
  exact Blk.new w [.slice none 0 0, .slice none 0 0, .slice none 0 0, .int .i64 room, .int .i64 0, .int .i64 0] _

set_option maxHeartbeats 400000 in
theorem len_any (w : World) (F : Nat → Prop) (g : Nat) (room : Int) (L : List Kv) (t : TreeAt w F g room L) :
    Calls Try.prog 19 #[.pointer (some ⟨g, 0, none⟩)] w fun e w' => e = .returned (.int .i64 (L.length : Int)) ∧ w' = w := by
  obtain ⟨h, p, A0, A1, A2, n0, c0, n1, c1, n2, c2, hr, hv, hc, hb⟩ := tree_open t
  have x4 := hb.cell (i := 4) (by simp)
  simp only [List.getElem_cons_zero, List.getElem_cons_succ] at x4
  clear hr hv hc hb t
  generalize (L.length : Int) = n at *
  go_enter Try.func19, Try.ntmps19
  go_wp2
  go_ret
  exact ⟨rfl, rfl⟩
set_option maxHeartbeats 400000 in
theorem size_any (w : World) (F : Nat → Prop) (g : Nat) (room : Int) (L : List Kv) (t : TreeAt w F g room L) :
    Calls Try.prog 20 #[.pointer (some ⟨g, 0, none⟩)] w fun e w' => e = .returned (.int .i64 (sizeL L : Int)) ∧ w' = w := by
  obtain ⟨h, p, A0, A1, A2, n0, c0, n1, c1, n2, c2, hr, hv, hc, hb⟩ := tree_open t
  have x5 := hb.cell (i := 5) (by simp)
  simp only [List.getElem_cons_zero, List.getElem_cons_succ] at x5
  clear hr hv hc hb t
  generalize (sizeL L : Int) = n at *
  go_enter Try.func20, Try.ntmps20
  go_wp2
  go_ret
  exact ⟨rfl, rfl⟩
/-- how high a tree of these pairs may be -/
def HighOk (H : Int) (n : Nat) : Prop := ∃ h : Nat, H = (h : Int) + 1 ∧ h ≤ n ∧ (h ≠ 0 → 2 * 4 ^ h ≤ n)
set_option maxHeartbeats 400000 in
theorem theight_any (w : World) (F : Nat → Prop) (g : Nat) (room : Int) (L : List Kv) (t : TreeAt w F g room L) :
    Calls Try.prog 17 #[.pointer (some ⟨g, 0, none⟩)] w fun e w' => (∃ H, e = .returned (.int .i64 H) ∧ HighOk H L.length) ∧ Below w.heap.size w w' := by
  have hn := t.2.1.1
  obtain ⟨h, p, A0, A1, A2, n0, c0, n1, c1, n2, c2, hr, hv, hc, hb⟩ := tree_open t
  have x0 := hb.cell (i := 0) (by simp)
  have x1 := hb.cell (i := 1) (by simp)
  have x2 := hb.cell (i := 2) (by simp)
  simp only [List.getElem_cons_zero, List.getElem_cons_succ] at x0 x1 x2
  have hl := hr.low_
  have HC := Lib.hid (height_any w F h p hr.good (by omega))
  rw [hv] at HC
  have HH : Hid (HighOk ((h : Int) + 1) L.length) := ⟨h, rfl, hl, fun h0 => hr.many h0⟩
  clear hr hv hc hb t hl hn
  go_enter Try.func17, Try.ntmps17
  go_wp2_with fail
  with_reducible refine HC.out.mono ?_
  rintro e w3 ⟨rfl, hb3⟩
  have B3 := Lib.hid hb3
  clear hb3
  go_wp2_with fail
  go_ret
  exact ⟨⟨_, rfl, HH.out⟩, B3.out⟩
set_option maxHeartbeats 1000000 in
theorem tsound_any (w : World) (F : Nat → Prop) (g : Nat) (room : Int) (L : List Kv) (t : TreeAt w F g room L) :
    Calls Try.prog 18 #[.pointer (some ⟨g, 0, none⟩)] w fun e w' => e = .returned (.bool true) ∧ Below w.heap.size w w' := by
  have hn := t.2.1.1
  have HT := Lib.hid t
  obtain ⟨h, p, A0, A1, A2, n0, c0, n1, c1, n2, c2, hr, hv, hc, hb⟩ := tree_open t
  have x0 := hb.cell (i := 0) (by simp)
  have x1 := hb.cell (i := 1) (by simp)
  have x2 := hb.cell (i := 2) (by simp)
  simp only [List.getElem_cons_zero, List.getElem_cons_succ] at x0 x1 x2
  have hl := hr.low_
  have HC := Lib.hid (height_any w F h p hr.good (by omega))
  have HS0 : Hid (h = 0 → ∀ W, Below w.heap.size w W → Calls Try.prog 38 #[pval h p, .int .i64 1, .int .i64 0] W fun e w' => e = .returned (.bool true) ∧ Below W.heap.size W w') := fun h0 W hW =>
    sound_any h (by omega) W F p 1 0 (hr.good.below hW) (by omega) (Nat.zero_le _) hr.top
  have HS2 : Hid (h ≠ 0 → ∀ W, Below w.heap.size w W → Calls Try.prog 38 #[pval h p, .int .i64 ((h : Int) + 1), .int .i64 2] W fun e w' => e = .returned (.bool true) ∧ Below W.heap.size W w') := fun h0 W hW =>
    sound_any h (by omega) W F p _ 2 (hr.good.below hW) rfl (hr.two h0) hr.top
  rw [hv] at HC HS0 HS2
  have HB := Lib.hid hb
  have hh : h ≤ 100000 := by omega
  clear hr hv hc hb t hl hn
  go_enter Try.func18, Try.ntmps18
  go_wp2_with fail
  with_reducible refine HC.out.mono ?_
  rintro e w3 ⟨rfl, hb3⟩
  have B3 := Lib.hid hb3
  have hbb := HB.out.below hb3 HB.out.lt
  clear hb3 x0 x1 x2
  have x0 := hbb.cell (i := 0) (by simp)
  have x1 := hbb.cell (i := 1) (by simp)
  have x2 := hbb.cell (i := 2) (by simp)
  simp only [List.getElem_cons_zero, List.getElem_cons_succ] at x0 x1 x2
  clear hbb
  by_cases h0 : h = 0
  · have HS := Lib.hid (HS0.out h0 w3 B3.out)
    clear HS0 HS2
    subst h0
    go_wp2_with fail
    with_reducible refine HS.out.mono ?_
    rintro e w4 ⟨rfl, hb4⟩
    have B4 := Lib.hid (hop B3.out hb4)
    clear hb4
    go_wp2_with fail
    go_ret
    exact ⟨rfl, B4.out⟩
  · have HS := Lib.hid (HS2.out h0 w3 B3.out)
    have hne : (((h : Int) + 1) == 1) = false := by rw [beq_eq_false_iff_ne]; omega
    clear HS0 HS2
    go_wp2_with fail
    with_reducible refine HS.out.mono ?_
    rintro e w4 ⟨rfl, hb4⟩
    have B4 := Lib.hid (hop B3.out hb4)
    clear hb4
    go_wp2_with fail
    go_ret
    exact ⟨rfl, B4.out⟩

/-- what Get answers -/
def GetOut (w : World) (k : Key) (L : List Kv) (e : Ending) (w' : World) : Prop := Below w.heap.size w w' ∧
  ((hasL k L = true ∧ ∃ q : Piece, e = .returned (.tuple #[pv q, .bool true]) ∧ NewPiece w w' (getL k L) q) ∨ (hasL k L = false ∧ e = .returned (.tuple #[.slice none 0 0, .bool false])))
set_option maxHeartbeats 1000000 in
theorem get_any (w : World) (F : Nat → Prop) (g : Nat) (room : Int) (L : List Kv) (B : Option Addr) (k : Key) (m d : Nat) (t : TreeAt w F g room L) (hk : Seen w B k) (hm : k.length = m) :
    Calls Try.prog 25 #[.pointer (some ⟨g, 0, none⟩), .slice B m d] w (GetOut w k L) := by
  obtain ⟨h, p, A0, A1, A2, n0, c0, n1, c1, n2, c2, hr, hv, hc, hb⟩ := tree_open t
  have x0 := hb.cell (i := 0) (by simp)
  have x1 := hb.cell (i := 1) (by simp)
  have x2 := hb.cell (i := 2) (by simp)
  simp only [List.getElem_cons_zero, List.getElem_cons_succ] at x0 x1 x2
  have HC := Lib.hid (find_any w F h p B k m d hr.good hk hm)
  rw [hv, hr.flat] at HC
  clear hr hv hc hb t hk hm
  go_enter Try.func25, Try.ntmps25
  go_wp2_with fail
  with_reducible refine HC.out.mono ?_
  rintro e w3 ⟨hb3, hout⟩
  have B3 := Lib.hid hb3
  rcases hout with ⟨hh, q, rfl, hq, hkv⟩ | ⟨hh, rfl⟩
  · have HH := Lib.hid hh
    have hsv := hq.2.1.seen
    have hlv := hq.2.2.2
    have HV : Hid ((eval0 q).2.1 = getL k L) := congrArg Prod.snd hkv
    obtain ⟨w4, hw4⟩ : ∃ w4, w4 = w3.alloc (.cells #[pv (epiece 0 q), pv (eval0 q)] 48) := ⟨_, rfl⟩
    have hb4 : Below w3.heap.size w3 w4 := by rw [hw4]; exact (Below.refl _ _).alloc (Nat.le_refl _) _
    have HCP := Lib.hid (copied_any w4 (eval0 q).1 (eval0 q).2.1 (eval0 q).2.1.length (eval0 q).2.2 rfl (by exact hlv) ((hsv.below hb3).below hb4))
    have HW4 : Hid (w3.alloc (.cells #[pv (epiece 0 q), pv (eval0 q)] 48) = w4) := hw4.symm
    have HB4 := Lib.hid hb4
    clear hb3 hh hq hkv hsv hlv hw4 hb4
    unfold pv at HW4 ⊢
    go_wp2_with fail
    rw [HW4.out]
    with_reducible refine HCP.out.mono ?_
    rintro e w5 ⟨⟨r, rfl, hr1, hr2⟩, hb5⟩
    have B5 := Lib.hid (hop B3.out (hop HB4.out hb5))
    have R1 := Lib.hid hr1
    have R2 := Lib.hid (hr2.mono (G := fun b => b < w.heap.size) (fun b hb => Nat.lt_of_lt_of_le hb (hop B3.out HB4.out).size))
    clear hr1 hr2 hb5
    unfold pv
    go_wp2_with fail
    go_ret2
    exact ⟨B5.out, .inl ⟨HH.out, r, rfl, by rw [R1.out, HV.out], R2.out⟩⟩
  · have HH := Lib.hid hh
    clear hb3 hh
    go_wp2_with fail
    go_ret2
    exact ⟨B3.out.alloc B3.out.size _, .inr ⟨HH.out, rfl⟩⟩
end Go.Proofs.Ytaeocbgmoijedaa
