/-
  examine: the first fault of a schema, or the rows of levels. Conditions: the schema is there.
-/
import Derived.Test.YtdnhbledndgbcaaGreatCRoEc
import Derived.Test.YtdnhbledndgbcaaGreatCRoN
import Derived.Deep.Cut
import Derived.Deep.CutRange
namespace Go.Proofs.YtdnhbledndgbcaaGreat
open Go.RowKit
def namesF (s : Sc) : Fa := orFs [repN s, unkS (knS s) s]
def ExIs (s : Sc) (z : Fa) (lv : List (List Nat) → Prop) : Prop :=
  ((sizesN s).2.2 ≠ 0 ∧ z = sizesN s) ∨ ((sizesN s).2.2 = 0 ∧ (namesF s).2.2 ≠ 0 ∧ z = namesF s) ∨
  ((sizesN s).2.2 = 0 ∧ (namesF s).2.2 = 0 ∧ ∃ (HL : List (Nk × Nat)) (m : Nat), m ≤ (nodesS s).length ∧ ((nodesS s).Nodup → m = (nodesS s).length) ∧ Highs (knS s) m HL ∧ z = frN (exF (hvS HL s) m) s 0 ∧ (z.2.2 = 0 → lv (hvS HL s)))
theorem ExIs.mono {s : Sc} {z : Fa} {lv lv' : List (List Nat) → Prop} (h : ∀ l, lv l → lv' l) (hx : ExIs s z lv) : ExIs s z lv' := by
  rcases hx with hx | hx | ⟨h1, h2, HL, m, h3, h4, h5, h6, h7⟩
  · exact .inl hx
  · exact .inr (.inl hx)
  · exact .inr (.inr ⟨h1, h2, HL, m, h3, h4, h5, h6, fun hz => h _ (h7 hz)⟩)
def ExAre (s : Sc) (W : World) (e : Ending) (w' : World) : Prop := ∃ (z : Fa) (A2 : Option Addr) (n c2 : Nat), e = .returned (.tuple #[faV z, .slice A2 n c2]) ∧ Below W.heap.size W w' ∧ ExIs s z (fun ls => n = s.length ∧ IlAt w' (fun k => k < W.heap.size) A2 ls) ∧ (z.2.2 ≠ 0 → n = 0) ∧ n ≤ c2
theorem hvS_at (HL : List (Nk × Nat)) {s : Sc} {i : Nat} (h : i < s.length) (h2 : i < (hvS HL s).length) : (hvS HL s)[i] = hvT HL s[i] := List.getElem_map _
theorem fas_below {W W' : World} {g : Nat} {l : List Fa} (h : FasAt W g l) (hb : Below W.heap.size W W') : FasAt W' g l :=
  ⟨Nat.lt_of_lt_of_le h.1 hb.size, fun j hj => by
    have hs : Spared W W' (fun _ => False) := Spared.of_below hb _
    obtain ⟨h1, h2, h3⟩ := h.2 j hj
    exact ⟨(hs.cellOf h.1 id _).trans h1, (hs.cellOf h.1 id _).trans h2, (hs.cellOf h.1 id _).trans h3⟩⟩
set_option maxRecDepth 100000 in
set_option maxHeartbeats 4000000 in
theorem examine_any (s : Sc) (F : Nat → Prop) (A : Option Addr) (c : Nat) (hl : s.length ≤ 9223372036854775807) (hcap : s.length ≤ c) (hrf : ∀ t ∈ s, ∀ r ∈ t.rels, r.refs.length ≤ 1000000) (W : World) (hs : ScAt W F A s) :
    Calls Tryz.prog 15 #[.agg #[.slice A s.length c]] W (ExAre s W) := by
  obtain ⟨W1, hW⟩ : ∃ W1, W1 = (W.alloc (.cells #[.slice A s.length c] 24)).alloc (.cells #[.int .i64 0, .int .i64 0, .int .i64 0] 33) := ⟨_, rfl⟩
  have HKA : Hid (Blk W1 W.heap.size [.slice A s.length c] 24) := by rw [hW]; exact Lib.hid ((Blk.new W _ _).alloc _)
  have HKE : Hid (Blk W1 (W.heap.size + 1) [.int .i64 0, .int .i64 0, .int .i64 0] 33) := by
    rw [hW]
    have := Blk.new (W.alloc (.cells #[.slice A s.length c] 24)) [.int .i64 0, .int .i64 0, .int .i64 0] 33
    rw [World.size_alloc] at this
    exact Lib.hid this
  have HB0 : Hid (Below W.heap.size W W1) := by rw [hW]; exact Lib.hid (((Below.refl _ _).alloc (Nat.le_refl _) _).alloc (by simp) _)
  have HZ1 : Hid (W1.heap.size = W.heap.size + 2) := by rw [hW]; exact Lib.hid (by simp)
  have HX : Hid (∀ w, Below W1.heap.size W1 w → w.cell? ⟨W.heap.size, 0, none⟩ = some (.slice A s.length c)) := Lib.hid (fun w hw => (HKA.out.below hw HKA.out.lt).cell (i := 0) (by simp))
  have HXE : Hid (∀ w, Below W1.heap.size W1 w → w.cell? ⟨W.heap.size + 1, 0, none⟩ = some (.int .i64 0) ∧ w.cell? ⟨W.heap.size + 1, 1, none⟩ = some (.int .i64 0) ∧ w.cell? ⟨W.heap.size + 1, 2, none⟩ = some (.int .i64 0) ∧ w.frozen? ⟨W.heap.size + 1, 0, none⟩ = false ∧ w.frozen? ⟨W.heap.size + 1, 1, none⟩ = false ∧ w.frozen? ⟨W.heap.size + 1, 2, none⟩ = false) := Lib.hid (fun w hw => by
    have h2 := HKE.out.below hw HKE.out.lt
    exact ⟨h2.cell (i := 0) (by simp), h2.cell (i := 1) (by simp), h2.cell (i := 2) (by simp), h2.free 0, h2.free 1, h2.free 2⟩)
  have HF : Hid (∀ w, Below W1.heap.size W1 w → Below W.heap.size W w) := Lib.hid (fun w hw => HB0.out.trans (hw.mono HB0.out.size))
  have HS : Hid (∀ w, Below W1.heap.size W1 w → ScAt w F A s) := Lib.hid (fun w hw => hs.below (HF.out w hw))
  have HEND : Hid (∀ w, Below W1.heap.size W1 w → ∀ x y z : Value, Below W.heap.size W (((w.setCell ⟨W.heap.size + 1, 0, none⟩ x).setCell ⟨W.heap.size + 1, 1, none⟩ y).setCell ⟨W.heap.size + 1, 2, none⟩ z)) := Lib.hid (fun w hw x y z =>
    ((((HF.out w hw).setCell (p := ⟨W.heap.size + 1, 0, none⟩) (Nat.le_succ _) _).setCell (p := ⟨W.heap.size + 1, 1, none⟩) (Nat.le_succ _) _).setCell (p := ⟨W.heap.size + 1, 2, none⟩) (Nat.le_succ _) _))
  have HSZ := Lib.hid (sizes_any s F A c hl W1 (HS.out W1 (Below.refl _ _)))
  have x0 := HX.out W1 (Below.refl _ _)
  have HW := Lib.hid hW
  rw [hW] at x0
  obtain ⟨fz, hfz⟩ : ∃ f, f = sizesN s := ⟨_, rfl⟩
  have HFZ := Lib.hid hfz
  rw [← hfz] at HSZ
  clear hW hs hfz
  obtain ⟨f1, f2, f3⟩ := fz
  by_cases h3 : f3 = 0
  · subst h3
    have HOK : Hid ((sizesN s).2.2 = 0) := Lib.hid (by rw [← HFZ.out])
    have HSM := Lib.hid (sizes_ok HOK.out)
    have hsl : s.length ≤ 16 := HSM.out.2.2.1
    clear HFZ
    go_enter Tryz.func15, Tryz.ntmps15
    go_upto_region 5 with (first
      | (go_at_call 25; rw [← HW.out]; refine HSZ.out.mono ?_; rintro r w2 ⟨rfl, hb2⟩; have HB2 := Lib.hid (hb2.alloc hb2.size (.cells #[.int .i64 f1, .int .i64 f2, .int .i64 0] 33)); have y0 := HX.out _ HB2.out; have HIX := Lib.hid (index_any s F A c hl _ (HS.out _ HB2.out)); clear hb2 x0)
      | (go_at_call 26; refine HIX.out.mono ?_; rintro r w4 ⟨b, L, rfl, hbl, hkn, hb4⟩; have HKN := Lib.hid hkn; have HB4 := Lib.hid hb4; clear hbl hkn hb4 y0))
    have HB4' : Hid (Below W1.heap.size W1 w4) := Lib.hid (hop HB2.out HB4.out)
    obtain ⟨G, hG⟩ : ∃ G : Nat → Prop, G = fun x => F x ∨ (w2.alloc (.cells #[.int .i64 f1, .int .i64 f2, .int .i64 0] 33)).heap.size ≤ x := ⟨_, rfl⟩
    rw [← hG] at HKN
    have HG : Hid (∀ k, w4.heap.size ≤ k → G k) := Lib.hid (fun k hk => by rw [hG]; exact .inr (Nat.le_trans HB4.out.size hk))
    have HS4 : Hid (ScAt w4 G A s) := Lib.hid (ScAt.moved (Spared.of_below HB4'.out F) (fun k hk => by rw [hG] at hk; exact hk.imp id (fun h => Nat.le_trans HB2.out.size h)) (HS.out W1 (Below.refl _ _)))
    clear hG
    have hB : ∀ x, ((knS s x).getD noRel).refs.length ≤ 1000000 := knS_refs hrf
    obtain ⟨⟨p1, p2, p3⟩, hp⟩ : ∃ p, p = repN s := ⟨_, rfl⟩
    obtain ⟨⟨r1, r2, r3⟩, hr⟩ : ∃ p, p = unkS (knS s) s := ⟨_, rfl⟩
    obtain ⟨⟨u1, u2, u3⟩, hu⟩ : ∃ p, p = namesF s := ⟨_, rfl⟩
    have hu' : (u1, u2, u3) = orFs [(p1, p2, p3), (r1, r2, r3)] := by rw [hu, hp, hr]; rfl
    have HREP : Hid (∀ w, Below w4.heap.size w4 w → Calls Tryz.prog 28 #[.agg #[.slice A s.length c]] w fun r w' => r = .returned (.agg #[.int .i64 p1, .int .i64 p2, .int .i64 (p3 : Int)]) ∧ Below w.heap.size w w') := Lib.hid (fun w hw => by
      have h := rep_any s F A c hl hcap w (HS.out w (hop HB4'.out hw))
      rw [← hp] at h
      exact h)
    have HUNK : Hid (∀ w, Below w4.heap.size w4 w → Calls Tryz.prog 29 #[.map (some b), .agg #[.slice A s.length c]] w fun r w' => r = .returned (.agg #[.int .i64 r1, .int .i64 r2, .int .i64 (r3 : Int)]) ∧ Below w.heap.size w w') := Lib.hid (fun w hw => by
      have h := unknowns_any s G A c hl w (HS4.out.below hw) b L (knS s) (HKN.out.below hw) hB
      rw [← hr] at h
      exact h)
    have HOR : Hid (∀ w g, FasAt w g [(p1, p2, p3), (r1, r2, r3)] → Calls Tryz.prog 27 #[.slice (some ⟨g, 0, none⟩) 2 2] w fun r w' => r = .returned (.agg #[.int .i64 u1, .int .i64 u2, .int .i64 (u3 : Int)]) ∧ Below w.heap.size w w') := Lib.hid (fun w g hw => by
      have h := orFs_any w g 2 [(p1, p2, p3), (r1, r2, r3)] hw (by simp)
      rw [← hu'] at h
      exact h)
    have HU := Lib.hid hu
    have HHB := Lib.hid hB
    have hlt4 : W.heap.size < w4.heap.size := by have := HB4'.out.size; have := HZ1.out; omega
    have hS0 : w4.drew.cell? ⟨W.heap.size, 0, none⟩ = some (.slice A s.length c) := HX.out w4 HB4'.out
    have HXX : Hid (∀ w, Below w4.heap.size w4 w → w.cell? ⟨W.heap.size, 0, none⟩ = some (.slice A s.length c)) := Lib.hid (fun w hw => HX.out w (hop HB4'.out hw))
    have HSA : Hid (∀ (w : World) o, w.cell? ⟨W.heap.size, 0, none⟩ = some (.slice A s.length c) → (w.alloc o).cell? ⟨W.heap.size, 0, none⟩ = some (.slice A s.length c)) := Lib.hid (fun w o h => by
      have hlt : W.heap.size < w.heap.size := by
        rcases Nat.lt_or_ge W.heap.size w.heap.size with h1 | h1
        · exact h1
        · simp [World.cell?, Array.getElem?_eq_none h1] at h
      exact (World.cell?_of_block ((Below.refl w.heap.size w).alloc (Nat.le_refl _) o |>.block _ hlt)).trans h)
    have HSS : Hid (∀ (w : World) g i v, W.heap.size ≠ g → w.cell? ⟨W.heap.size, 0, none⟩ = some (.slice A s.length c) → (w.setCell ⟨g, i, none⟩ v).cell? ⟨W.heap.size, 0, none⟩ = some (.slice A s.length c)) := Lib.hid (fun w g i v hg h => (World.cell?_of_block (Below.heap_setCell _ _ _ _ hg)).trans h)
    clear hp hr hu hu' hB
    have hS0a : (w4.alloc (.cells #[.int .i64 0, .int .i64 0, .int .i64 0] 33)).drew.cell? ⟨W.heap.size, 0, none⟩ = some (.slice A s.length c) := HSA.out w4 _ hS0
    go_cut [6] from 18 to 24 (fun v wx => ∃ g, v = .pointer (some ⟨g, 0, none⟩) ∧ Hid (Blk wx g [.int .i64 u1, .int .i64 u2, .int .i64 (u3 : Int)] 33) ∧ Hid (Below w4.heap.size w4 wx))
    case first =>
      go_region_held_law (fun (w : World) => w.cell? ⟨W.heap.size, 0, none⟩ = some (.slice A s.length c))
        (first | with_reducible assumption | (apply HSA.out; with_reducible assumption) | (refine HSS.out _ _ _ _ (by omega) (HSS.out _ _ _ _ (by omega) (HSS.out _ _ _ _ (by omega) ?_)); with_reducible assumption))
        (first
          | (go_at_call 28; (with_reducible refine (HREP.out w4.drew (Below.refl w4.heap.size w4).drew).mono ?_); rintro r w5 ⟨rfl, hb5⟩; have HB5 := Lib.hid (undrew hb5); have hs5 := HXX.out w5 HB5.out; have hl5 := HB5.out.size; clear hb5)
          | (go_at_call 28; (with_reducible refine (HREP.out (w4.alloc (.cells #[.int .i64 0, .int .i64 0, .int .i64 0] 33)).drew ((Below.refl w4.heap.size w4).alloc (Nat.le_refl _) _).drew).mono ?_); rintro r w5 ⟨rfl, hb5⟩; have HP5 := Lib.hid ((Blk.new w4 [.int .i64 0, .int .i64 0, .int .i64 0] 33).below (undrew hb5) (Blk.new w4 [.int .i64 0, .int .i64 0, .int .i64 0] 33).lt); have HB5 := Lib.hid (hop ((Below.refl w4.heap.size w4).alloc (Nat.le_refl _) (.cells #[.int .i64 0, .int .i64 0, .int .i64 0] 33)) (undrew hb5)); have hs5 := HXX.out w5 HB5.out; have hl5 := HB5.out.size; clear hb5)
          | (go_at_call 29; (with_reducible refine (HUNK.out w5 HB5.out).mono ?_); rintro r w6 ⟨rfl, hb6⟩; have HP6 := Lib.hid (HP5.out.below hb6 HP5.out.lt); have HB6 := Lib.hid (hop HB5.out hb6); have hs6 := HXX.out w6 HB6.out; have hl6 := HB6.out.size; clear hb6)
          | (go_at_call 29; (with_reducible refine (HUNK.out w5 HB5.out).mono ?_); rintro r w6 ⟨rfl, hb6⟩; have HB6 := Lib.hid (hop HB5.out hb6); have hs6 := HXX.out w6 HB6.out; have hl6 := HB6.out.size; clear hb6)
          | (go_at_call 29; (with_reducible refine (HUNK.out (w5.alloc (.cells #[.int .i64 0, .int .i64 0, .int .i64 0] 33)) (HB5.out.alloc HB5.out.size _)).mono ?_); rintro r w6 ⟨rfl, hb6⟩; have HP6 := Lib.hid ((Blk.new w5 [.int .i64 0, .int .i64 0, .int .i64 0] 33).below hb6 (by simp)); have HB6 := Lib.hid (hop (HB5.out.alloc HB5.out.size (.cells #[.int .i64 0, .int .i64 0, .int .i64 0] 33)) hb6); have hs6 := HXX.out w6 HB6.out; have hl6 := HB6.out.size; clear hb6)
          | (go_at_call 27; (with_reducible refine (HOR.out (w6.alloc (.cells #[.int .i64 p1, .int .i64 p2, .int .i64 (p3 : Int), .int .i64 r1, .int .i64 r2, .int .i64 (r3 : Int)] 33)) w6.heap.size (fas_two w6 33 (p1, p2, p3) (r1, r2, r3))).mono ?_); rintro r w7 ⟨rfl, hb7⟩; have hp7 := (HP6.out.alloc (.cells #[.int .i64 p1, .int .i64 p2, .int .i64 (p3 : Int), .int .i64 r1, .int .i64 r2, .int .i64 (r3 : Int)] 33)).below hb7 (HP6.out.alloc _).lt; have HB7 := Lib.hid (hop (HB6.out.alloc HB6.out.size (.cells #[.int .i64 p1, .int .i64 p2, .int .i64 (p3 : Int), .int .i64 r1, .int .i64 r2, .int .i64 (r3 : Int)] 33)) hb7); have v0 := hp7.cell (i := 0) (by simp); have v1 := hp7.cell (i := 1) (by simp); have v2 := hp7.cell (i := 2) (by simp); have g0 := hp7.free 0; have g1 := hp7.free 1; have g2 := hp7.free 2; have HP7 := Lib.hid hp7; have hs7 := HXX.out w7 HB7.out; have hl7 := HB7.out.size; clear hb7 hp7)
          | (go_at_call 27; (with_reducible refine (HOR.out (w6.alloc (.cells #[.int .i64 p1, .int .i64 p2, .int .i64 (p3 : Int), .int .i64 r1, .int .i64 r2, .int .i64 (r3 : Int)] 33)) w6.heap.size (fas_two w6 33 (p1, p2, p3) (r1, r2, r3))).mono ?_); rintro r w7 ⟨rfl, hb7⟩; have HB7 := Lib.hid (hop (HB6.out.alloc HB6.out.size (.cells #[.int .i64 p1, .int .i64 p2, .int .i64 (p3 : Int), .int .i64 r1, .int .i64 r2, .int .i64 (r3 : Int)] 33)) hb7); have hs7 := HXX.out w7 HB7.out; have hl7 := HB7.out.size; clear hb7)
          | (go_at_call 27; have HFA : FasAt ((w6.alloc (.cells #[.int .i64 0, .int .i64 0, .int .i64 0] 33)).alloc (.cells #[.int .i64 p1, .int .i64 p2, .int .i64 (p3 : Int), .int .i64 r1, .int .i64 r2, .int .i64 (r3 : Int)] 33)) (w6.heap.size + 1) [(p1, p2, p3), (r1, r2, r3)] := (by have := fas_two (w6.alloc (.cells #[.int .i64 0, .int .i64 0, .int .i64 0] 33)) 33 (p1, p2, p3) (r1, r2, r3); rwa [World.size_alloc] at this); (with_reducible refine (HOR.out ((w6.alloc (.cells #[.int .i64 0, .int .i64 0, .int .i64 0] 33)).alloc (.cells #[.int .i64 p1, .int .i64 p2, .int .i64 (p3 : Int), .int .i64 r1, .int .i64 r2, .int .i64 (r3 : Int)] 33)) (w6.heap.size + 1) HFA).mono ?_); rintro r w7 ⟨rfl, hb7⟩; have hp7 := ((Blk.new w6 [.int .i64 0, .int .i64 0, .int .i64 0] 33).alloc (.cells #[.int .i64 p1, .int .i64 p2, .int .i64 (p3 : Int), .int .i64 r1, .int .i64 r2, .int .i64 (r3 : Int)] 33)).below hb7 ((Blk.new w6 [.int .i64 0, .int .i64 0, .int .i64 0] 33).alloc _).lt; have HB7 := Lib.hid (hop ((HB6.out.alloc HB6.out.size (.cells #[.int .i64 0, .int .i64 0, .int .i64 0] 33)).alloc (by simp; omega) (.cells #[.int .i64 p1, .int .i64 p2, .int .i64 (p3 : Int), .int .i64 r1, .int .i64 r2, .int .i64 (r3 : Int)] 33)) hb7); have v0 := hp7.cell (i := 0) (by simp); have v1 := hp7.cell (i := 1) (by simp); have v2 := hp7.cell (i := 2) (by simp); have g0 := hp7.free 0; have g1 := hp7.free 1; have g2 := hp7.free 2; have HP7 := Lib.hid hp7; have hs7 := HXX.out w7 HB7.out; have hl7 := HB7.out.size; clear hb7 hp7)
          | (go_at_call 27; (with_reducible refine (HOR.out ((w6.alloc (.cells #[.int .i64 p1, .int .i64 p2, .int .i64 (p3 : Int), .int .i64 r1, .int .i64 r2, .int .i64 (r3 : Int)] 33)).alloc (.cells #[.int .i64 0, .int .i64 0, .int .i64 0] 33)) w6.heap.size (fas_below (fas_two w6 33 (p1, p2, p3) (r1, r2, r3)) ((Below.refl _ _).alloc (Nat.le_refl _) _))).mono ?_); rintro r w7 ⟨rfl, hb7⟩; have hp7 := (Blk.new (w6.alloc (.cells #[.int .i64 p1, .int .i64 p2, .int .i64 (p3 : Int), .int .i64 r1, .int .i64 r2, .int .i64 (r3 : Int)] 33)) [.int .i64 0, .int .i64 0, .int .i64 0] 33).below hb7 (Blk.new (w6.alloc (.cells #[.int .i64 p1, .int .i64 p2, .int .i64 (p3 : Int), .int .i64 r1, .int .i64 r2, .int .i64 (r3 : Int)] 33)) [.int .i64 0, .int .i64 0, .int .i64 0] 33).lt; rw [World.size_alloc] at hp7; have HB7 := Lib.hid (hop ((HB6.out.alloc HB6.out.size (.cells #[.int .i64 p1, .int .i64 p2, .int .i64 (p3 : Int), .int .i64 r1, .int .i64 r2, .int .i64 (r3 : Int)] 33)).alloc (by simp; omega) (.cells #[.int .i64 0, .int .i64 0, .int .i64 0] 33)) hb7); have v0 := hp7.cell (i := 0) (by simp); have v1 := hp7.cell (i := 1) (by simp); have v2 := hp7.cell (i := 2) (by simp); have g0 := hp7.free 0; have g1 := hp7.free 1; have g2 := hp7.free 2; have HP7 := Lib.hid hp7; have hs7 := HXX.out w7 HB7.out; have hl7 := HB7.out.size; clear hb7 hp7))
      all_goals go_wp2_with fail
      all_goals go_meet
      all_goals first
        | exact ⟨_, rfl, Lib.hid (((HP7.out.set 0 _).set 1 _).set 2 _), Lib.hid (((HB7.out.setCell (by dsimp only; omega) _).setCell (by dsimp only; omega) _).setCell (by dsimp only; omega) _)⟩
        | exact ⟨_, rfl, Lib.hid (Blk.new _ _ _), Lib.hid (HB7.out.alloc HB7.out.size _)⟩
    case rest =>
    obtain ⟨g, rfl, HBG, HBC⟩ := hcut
    have c0 := HBG.out.cell (i := 0) (by simp)
    have c1 := HBG.out.cell (i := 1) (by simp)
    have c2 := HBG.out.cell (i := 2) (by simp)
    simp only [List.getElem_cons_succ, List.getElem_cons_zero] at c0 c1 c2
    have HBC1 : Hid (Below W1.heap.size W1 wc) := Lib.hid (hop HB4'.out HBC.out)
    clear hS0 hS0a
    by_cases h3 : u3 = 0
    · subst h3
      have HOK2 : Hid ((namesF s).2.2 = 0) := Lib.hid (by rw [← HU.out])
      have hL : L.length ≤ 1000000 := by
        have h1 := HKN.out.len_le
        have h2 := nodesS_le s HSM.out.2.2.2
        omega
      have hl3 : s.length ≤ 1000 ∧ ∀ t ∈ s, t.rels.length ≤ 1000 := ⟨by omega, fun t ht => by have := HSM.out.2.2.2 t ht; omega⟩
      have HLV := Lib.hid (levels_any s G A c b L (knS s) hl3 hL HHB.out wc (fun k hk => HG.out k (Nat.le_trans HBC.out.size hk)) (HKN.out.below HBC.out) (HS4.out.below HBC.out))
      have y0 := HX.out _ HBC1.out
      have HM : Hid (L.length ≤ (nodesS s).length ∧ ((nodesS s).Nodup → L.length = (nodesS s).length)) := Lib.hid ⟨HKN.out.len_le, HKN.out.len_eq⟩
      generalize L.length = most at *
      clear hL hl3
      go_upto_region 9 with (first
        | (go_at_call 30; refine HLV.out.mono ?_; rintro r w8 ⟨HL, A2, c3, rfl, hil, hb8, hhi, hcp8⟩; have HCP8 := Lib.hid hcp8; clear hcp8; have HIL := Lib.hid hil; have HB8 := Lib.hid (hop HBC1.out hb8); have HB8c := Lib.hid hb8; have HHI := Lib.hid hhi; clear hil hb8 hhi y0))
      obtain ⟨w9, hw9⟩ : ∃ w9, w9 = (w8.alloc (.cells #[.slice A2 s.length c3] 27)).alloc (.cells #[.int .i64 (most : Int)] 3) := ⟨_, rfl⟩
      rw [← hw9]
      have hb9 : Below w8.heap.size w8 w9 := by rw [hw9]; exact ((Below.refl _ _).alloc (Nat.le_refl _) _).alloc (by simp) _
      have hk1 : Blk w9 w8.heap.size [.slice A2 s.length c3] 27 := by rw [hw9]; exact (Blk.new _ _ _).alloc _
      have hk2 : Blk w9 (w8.heap.size + 1) [.int .i64 (most : Int)] 3 := by
        rw [hw9]
        have := Blk.new (w8.alloc (.cells #[.slice A2 s.length c3] 27)) [.int .i64 (most : Int)] 3
        rwa [World.size_alloc] at this
      have HB9 := Lib.hid (hop HB8.out hb9)
      have HB9c := Lib.hid (hop HB8c.out hb9)
      obtain ⟨ls, hls⟩ : ∃ ls, ls = hvS HL s := ⟨_, rfl⟩
      have hll : s.length = ls.length := by rw [hls]; show _ = (s.map (hvT HL)).length; rw [List.length_map]
      have hlr : ∀ i (h1 : i < s.length) (h2 : i < ls.length), ls[i].length = s[i].rels.length := fun i h1 h2 => by
        subst hls
        rw [hvS_at HL h1 h2]
        unfold hvT
        rw [List.length_map]
      rw [← hls] at HIL
      have HIL9 : Hid (IlAt w9 (fun k => k < wc.heap.size) A2 ls) := Lib.hid (HIL.out.moved (Spared.of_below hb9 (fun k => k < wc.heap.size)) (fun _ h => .inl h) (fun _ _ _ h => keeps_ir _ _ _ _ (Spared.of_below hb9 (fun k => k < wc.heap.size)) (fun _ h => .inl h) _ _ h))
      obtain ⟨⟨e1, e2, e3⟩, he⟩ : ∃ p, p = frN (exF ls most) s 0 := ⟨_, rfl⟩
      have HFR : Hid (Calls Tryz.prog 31 #[.agg #[.slice A s.length c], .func (.func 32) #[] #[.pointer (some ⟨w8.heap.size, 0, none⟩), .pointer (some ⟨w8.heap.size + 1, 0, none⟩)]] w9 fun r w' => r = .returned (.agg #[.int .i64 e1, .int .i64 e2, .int .i64 (e3 : Int)]) ∧ Below w9.heap.size w9 w') := Lib.hid (by
        have h := firstRel2_any s G A c hl w9 (HS4.out.below (hop HBC.out HB9c.out)) enter_exC (p1 := .pointer (some ⟨w8.heap.size, 0, none⟩)) (p2 := .pointer (some ⟨w8.heap.size + 1, 0, none⟩)) (exF ls most) (fun w hw i hi k hk => by
          have h1 := hk1.below hw hk1.lt
          rw [hll] at h1
          have hil : IlAt w (fun k => k < wc.heap.size) A2 ls := HIL9.out.moved (Spared.of_below hw (fun k => k < wc.heap.size)) (fun _ h => .inl h) (fun _ _ _ h => keeps_ir _ _ _ _ (Spared.of_below hw (fun k => k < wc.heap.size)) (fun _ h => .inl h) _ _ h)
          exact exC_any ls most w _ A2 c3 (by omega) (by rw [hlr i hi (by omega)]; exact hk) h1 (hk2.below hw hk2.lt) hil)
        rw [← he] at h
        exact h)
      have HEQ : Hid ((e1, e2, e3) = frN (exF (hvS HL s) most) s 0) := Lib.hid (by rw [he, hls])
      have HLS := Lib.hid hls
      have HK1 := Lib.hid hk1
      have y0 := HX.out _ HB9.out
      clear hw9 hb9 hk1 hk2 hll hlr hls he c0 c1 c2
      go_upto_region 10 with (first
        | (go_at_call 31; (with_reducible refine HFR.out.mono ?_); rintro r w10 ⟨rfl, hb10⟩; have HB10 := Lib.hid hb10; clear hb10 y0))
      obtain ⟨w11, hw11⟩ : ∃ w11, w11 = w10.alloc (.cells #[.int .i64 e1, .int .i64 e2, .int .i64 (e3 : Int)] 33) := ⟨_, rfl⟩
      rw [← hw11]
      have hb11 : Below w9.heap.size w9 w11 := by rw [hw11]; exact HB10.out.alloc HB10.out.size _
      have hk11 : Blk w11 w10.heap.size [.int .i64 e1, .int .i64 e2, .int .i64 (e3 : Int)] 33 := by rw [hw11]; exact Blk.new _ _ _
      have HB11 : Hid (Below W1.heap.size W1 w11) := Lib.hid (hop HB9.out hb11)
      have c0 := hk11.cell (i := 0) (by simp)
      have c1 := hk11.cell (i := 1) (by simp)
      have c2 := hk11.cell (i := 2) (by simp)
      have c7 := (HK1.out.below hb11 HK1.out.lt).cell (i := 0) (by simp)
      simp only [List.getElem_cons_succ, List.getElem_cons_zero] at c0 c1 c2 c7
      have HIL11 : Hid (IlAt w11 (fun k => k < wc.heap.size) A2 ls) := Lib.hid (HIL9.out.moved (Spared.of_below hb11 (fun k => k < wc.heap.size)) (fun _ h => .inl h) (fun _ _ _ h => keeps_ir _ _ _ _ (Spared.of_below hb11 (fun k => k < wc.heap.size)) (fun _ h => .inl h) _ _ h))
      obtain ⟨v0, v1, v2, g0, g1, g2⟩ := HXE.out _ HB11.out
      have HLTW : Hid (W.heap.size + 1 < wc.heap.size) := Lib.hid (by have := HBC1.out.size; have := HZ1.out; omega)
      clear hw11 hb11 hk11
      by_cases h3 : e3 = 0
      · subst h3
        have HE : Hid (ExIs s (e1, e2, 0) (fun l => l = hvS HL s)) := Lib.hid (.inr (.inr ⟨HOK.out, HOK2.out, HL, most, HM.out.1, HM.out.2, HHI.out, HEQ.out, fun _ => rfl⟩))
        have hne1 : ¬ (W.heap.size + 1 = w8.heap.size) := by have := HB8.out.size; have := HZ1.out; omega
        have hne2 : ¬ (w8.heap.size = W.heap.size + 1) := fun e => hne1 e.symm
        have hne3 : ¬ (W.heap.size + 1 = w10.heap.size) := by have := HB10.out.size; have := HB9.out.size; have := HZ1.out; omega
        have hne4 : ¬ (w10.heap.size = W.heap.size + 1) := fun e => hne3 e.symm
        go_wp2_with fail
        have HV := Lib.hid (And.intro v0 (And.intro v1 v2))
        have c0 : w11.drew.cell? ⟨w10.heap.size, 0, none⟩ = some (.int .i64 e1) := c0
        have c1 : w11.drew.cell? ⟨w10.heap.size, 1, none⟩ = some (.int .i64 e2) := c1
        have c2 : w11.drew.cell? ⟨w10.heap.size, 2, none⟩ = some (.int .i64 0) := c2
        have c7 : w11.drew.cell? ⟨w8.heap.size, 0, none⟩ = some (.slice A2 s.length c3) := c7
        have v0 : w11.drew.cell? ⟨W.heap.size + 1, 0, none⟩ = some (.int .i64 0) := v0
        have v1 : w11.drew.cell? ⟨W.heap.size + 1, 1, none⟩ = some (.int .i64 0) := v1
        have v2 : w11.drew.cell? ⟨W.heap.size + 1, 2, none⟩ = some (.int .i64 0) := v2
        have g0 : w11.drew.frozen? ⟨W.heap.size + 1, 0, none⟩ = false := g0
        have g1 : w11.drew.frozen? ⟨W.heap.size + 1, 1, none⟩ = false := g1
        have g2 : w11.drew.frozen? ⟨W.heap.size + 1, 2, none⟩ = false := g2
        go_region
        go_wp2_with fail
        obtain ⟨v0, v1, v2⟩ := HV.out
        refine bodyPost_ret (v := .tuple #[.agg #[.int .i64 e1, .int .i64 e2, .int .i64 0], .slice A2 s.length c3]) (by simp [results, Tryz.results15, go_sem, v0, v1, v2]) rfl ?_
        have hsp : Spared w11 (((w11.setCell ⟨W.heap.size + 1, 0, none⟩ (.int .i64 e1)).setCell ⟨W.heap.size + 1, 1, none⟩ (.int .i64 e2)).setCell ⟨W.heap.size + 1, 2, none⟩ (.int .i64 0)).drew (fun k => k < wc.heap.size) := ((((Spared.refl w11 (fun k => k < wc.heap.size)).setCell (g := W.heap.size + 1) HLTW.out 0 _).setCell (g := W.heap.size + 1) HLTW.out 1 _).setCell (g := W.heap.size + 1) HLTW.out 2 _).drew
        have hfin : IlAt (((w11.setCell ⟨W.heap.size + 1, 0, none⟩ (.int .i64 e1)).setCell ⟨W.heap.size + 1, 1, none⟩ (.int .i64 e2)).setCell ⟨W.heap.size + 1, 2, none⟩ (.int .i64 0)).drew (fun k => k < W.heap.size) A2 ls :=
          HIL11.out.moved hsp (fun k hk => .inl (by have := HLTW.out; have hk : k < W.heap.size := hk; omega)) (fun _ _ _ h => keeps_ir _ _ _ _ hsp (fun k hk => .inl (by have := HLTW.out; have hk : k < W.heap.size := hk; omega)) _ _ h)
        exact ⟨(e1, e2, 0), A2, s.length, c3, rfl, (HEND.out _ HB11.out _ _ _).drew, HE.out.mono (fun l hl => ⟨rfl, by rw [hl, ← HLS.out]; exact hfin⟩), fun h => absurd rfl h, HCP8.out⟩
      · have q1 : ((e3 : Int) == 0) = false := beq_eq_false_iff_ne.2 (by omega)
        have q2 : ¬ (e3 : Int) = 0 := by omega
        have HE : Hid (∀ lv, ExIs s (e1, e2, e3) lv) := Lib.hid (fun lv => .inr (.inr ⟨HOK.out, HOK2.out, HL, most, HM.out.1, HM.out.2, HHI.out, HEQ.out, fun h => absurd h h3⟩))
        clear h3 c7
        go_wp2_with fail
        refine bodyPost_ret (v := .tuple #[.agg #[.int .i64 e1, .int .i64 e2, .int .i64 (e3 : Int)], .slice none 0 0]) (by simp [results, Tryz.results15, go_sem, v0, v1, v2]) rfl ?_
        exact ⟨(e1, e2, e3), none, 0, 0, rfl, HEND.out _ HB11.out _ _ _, HE.out _, fun _ => rfl, Nat.le_refl _⟩
    · have q1 : ((u3 : Int) == 0) = false := beq_eq_false_iff_ne.2 (by omega)
      have q2 : ¬ (u3 : Int) = 0 := by omega
      have HE : Hid (∀ lv, ExIs s (u1, u2, u3) lv) := Lib.hid (fun lv => .inr (.inl ⟨HOK.out, by rw [← HU.out]; exact h3, HU.out⟩))
      obtain ⟨v0, v1, v2, g0, g1, g2⟩ := HXE.out _ HBC1.out
      clear h3
      go_wp2_with fail
      refine bodyPost_ret (v := .tuple #[.agg #[.int .i64 u1, .int .i64 u2, .int .i64 (u3 : Int)], .slice none 0 0]) (by simp [results, Tryz.results15, go_sem, v0, v1, v2]) rfl ?_
      exact ⟨(u1, u2, u3), none, 0, 0, rfl, HEND.out _ HBC1.out _ _ _, HE.out _, fun _ => rfl, Nat.le_refl _⟩
  · have q1 : ((f3 : Int) == 0) = false := beq_eq_false_iff_ne.2 (by omega)
    have q2 : ¬ (f3 : Int) = 0 := by omega
    have HE : Hid (∀ lv, ExIs s (f1, f2, f3) lv) := Lib.hid (fun lv => .inl (by rw [← HFZ.out]; exact ⟨h3, rfl⟩))
    clear h3
    go_enter Tryz.func15, Tryz.ntmps15
    go_wp2_with (go_at_call 25; rw [← HW.out]; refine HSZ.out.mono ?_; rintro r w2 ⟨rfl, hb2⟩; have hb2' := hb2.alloc hb2.size (.cells #[.int .i64 f1, .int .i64 f2, .int .i64 (f3 : Int)] 33); obtain ⟨v0, v1, v2, g0, g1, g2⟩ := HXE.out _ hb2'; have HB2 := Lib.hid hb2'; clear hb2 hb2' x0)
    refine bodyPost_ret (v := .tuple #[.agg #[.int .i64 f1, .int .i64 f2, .int .i64 (f3 : Int)], .slice none 0 0]) (by simp [results, Tryz.results15, go_sem, v0, v1, v2]) rfl ?_
    exact ⟨(f1, f2, f3), none, 0, 0, rfl, HEND.out _ HB2.out _ _ _, HE.out _, fun _ => rfl, Nat.le_refl _⟩
end Go.Proofs.YtdnhbledndgbcaaGreat
