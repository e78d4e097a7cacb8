/-
  levels: for each relation of each type how high it stands, as rows of numbers in memory of the call's own. Conditions: the index and the schema are there.
  IndexFunc and ContainsFunc over refs, relations, types: the number of the first that is so; is any so? By the contract of the closure that is asked of one. Conditions: the list is there.
-/
import Derived.Test.YtdnhbledndgbcaaGreatCRoHt
import Derived.Test.YtdnhbledndgbcaaGreatCRlTy
import Derived.Test.YtdnhbledndgbcaaGreatCRuT
import Derived.Test.YtdnhbledndgbcaaGreatCNmName
namespace Go.Proofs.YtdnhbledndgbcaaGreat
open Go.RowKit
abbrev nv (n : Nat) : Value := .int .i64 (n : Int)
def IrAt (w : World) (F : Nat → Prop) (row : List Nat) (cs : List Value) : Prop := ∃ A c, cs = [.slice A row.length c] ∧ RowAt 1 (fun _ _ n cs => cs = [nv n]) w F A row
theorem keeps_ir : Keeps IrAt := fun _ _ _ _ hs hG _ _ h => by
  obtain ⟨A, c, h1, h2⟩ := h
  exact ⟨A, c, h1, h2.moved hs hG (fun _ _ _ h => h)⟩
abbrev IlAt (w : World) (F : Nat → Prop) (A : Option Addr) (ls : List (List Nat)) : Prop := RowAt 1 IrAt w F A ls
def fillN (row : List Nat) (k : Nat) : List Value := (row.take k).map nv ++ List.replicate (row.length - k) (nv 0)
theorem fillN_len (row : List Nat) (k : Nat) : (fillN row k).length = row.length := by
  unfold fillN
  simp
  omega
theorem fillN_zero (row : List Nat) : fillN row 0 = List.replicate row.length (nv 0) := by unfold fillN; simp
theorem fillN_full (row : List Nat) : fillN row row.length = row.map nv := by unfold fillN; simp
theorem fillN_set (row : List Nat) (k : Nat) (h : k < row.length) : (fillN row k).set k (nv row[k]) = fillN row (k + 1) := by
  unfold fillN
  have hl : ((row.take k).map nv).length = k := by simp; omega
  rw [List.set_append_right _ _ (by omega), hl, Nat.sub_self, show row.length - k = (row.length - (k + 1)) + 1 by omega, List.replicate_succ, List.set_cons_zero, List.take_succ_eq_append_getElem h, List.map_append, List.append_assoc]
  rfl
theorem IrAt.of_blk {w : World} {F : Nat → Prop} {g : Nat} {row : List Nat} {t : TypeId} {c : Nat} (h : Blk w g (row.map nv) t) (hF : ¬ F g) : IrAt w F row [.slice (some ⟨g, 0, none⟩) row.length c] := by
  refine ⟨_, _, rfl, .inr ⟨g, 0, rfl, h.lt, hF, fun j hj => ⟨[nv row[j]], rfl, fun i hi => ?_⟩⟩⟩
  obtain rfl : i = 0 := by omega
  have := h.cell (i := j) (by rw [List.length_map]; exact hj)
  rw [List.getElem_map] at this
  simpa using this
theorem row_make (n : Nat) (hn : n ≤ 1000000) (w : World) : (Instr.makeSlice 50 (.int .i64 (n : Int)) (.int .i64 (n : Int))).run Tryz.prog w = .ok (.slice (some ⟨w.heap.size, 0, none⟩) n n) (w.alloc (.cells (List.replicate n (nv 0)).toArray 3)) := by
  have hf : (Tryz.prog.info? 3).map (fun i => (i.zero, i.size, i.bytes)) = some (some (.int .i64 0), 1, 8) := by kernel_rfl
  obtain ⟨i, hi, hz, hs, hb⟩ := info_parts hf
  have h := run_makeSlice (P := Tryz.prog) (w := w) 50 3 i (.int .i64 0) Tryz.underlying50 hi hz .i64 .i64 (n : Int) (n : Int) (by omega) (by omega) (by rw [hs]; omega) (by rw [hb]; omega) (by omega)
  rw [h, hs]
  have h2 : madeCells (Value.int .i64 0).cells (((n : Int)).toNat * 1) = (List.replicate n (nv 0)).toArray := by
    apply Array.toList_inj.1
    show (madeCells #[Value.int .i64 0] ((n : Int).toNat * 1)).toList = _
    rw [toList_madeCells_one]
    simp
  rw [h2]
  simp
theorem MapAt.len {w : World} {b : Nat} {L : List (Nk × Value)} (h : MapAt w b L) {t e : TypeId} (ht : Tryz.prog.underlying t = some (.map 97 e)) (ty : TypeId) : (Builtin.len_ #[t] ty #[.map (some b)]).run Tryz.prog w = .ok (.int .i64 (L.length : Int)) w := by
  obtain ⟨es, clock, hb, hE⟩ := h
  have h1 := congrArg List.length hE.same
  simp only [List.length_map, Array.length_toList] at h1
  rw [← h1]
  simp [Builtin.len_, run_underlying ht, MapKept.run_getObj_map hb, goInt]
def hvT (HL : List (Nk × Nat)) (t : Ty) : List Nat := t.rels.map (fun r => hv HL (t.name, r.name))
def hvS (HL : List (Nk × Nat)) (s : Sc) : List (List Nat) := s.map (hvT HL)
structure Highs (kn : Kn) (most : Nat) (HL : List (Nk × Nat)) : Prop where
  way : ∀ y, ∃ n, WayK kn y n ∧ hv HL y = min n most
  cl : ∀ z y n, EdgeK kn z y n → min most (hv HL y + n) ≤ hv HL z
def LevelsAre (W : World) (kn : Kn) (most : Nat) (s : Sc) (e : Ending) (w' : World) : Prop := ∃ (HL : List (Nk × Nat)) (A2 : Option Addr) (c2 : Nat), e = .returned (.tuple #[.slice A2 s.length c2, .int .i64 (most : Int)]) ∧ IlAt w' (fun k => k < W.heap.size) A2 (hvS HL s) ∧ Below W.heap.size W w' ∧ Highs kn most HL ∧ s.length ≤ c2
theorem rowNs : ∃ i z, RowT Tryz.prog 27 50 1 24 i z := by
  have hf : (Tryz.prog.info? 50).map (fun i => (i.zero, i.size, i.bytes)) = some (some (.slice none 0 0), 1, 24) := by kernel_rfl
  obtain ⟨i, hi, hz, hs, hb⟩ := info_parts hf
  exact ⟨i, _, Tryz.underlying27, hi, hz, hs, hb, rfl⟩
theorem own_lt {w : World} {base : Nat} {e : TypeId} {s n : Nat} {v : Value} {xs : List Value} (h : w.ownsRow base e s v n xs) : ∀ g, v.ownBlock = some g → g < w.heap.size := by
  intro g hg
  rcases h.2 with ⟨rfl, _⟩ | ⟨g', cap, cur, rfl, hb, hh, h3⟩
  · cases hg
  · injection hg with hg
    subst hg
    rcases Nat.lt_or_ge g' w.heap.size with hlt | hge
    · exact hlt
    · rw [Array.getElem?_eq_none hge] at hh; cases hh
set_option maxRecDepth 100000 in
set_option maxHeartbeats 4000000 in
theorem levels_any (s : Sc) (F1 : Nat → Prop) (A : Option Addr) (c : Nat) (b : Nat) (L : List (Nk × Value)) (kn : Kn) (hl : s.length ≤ 1000 ∧ ∀ t ∈ s, t.rels.length ≤ 1000) (hL : L.length ≤ 1000000) (hB : ∀ x, ((kn x).getD noRel).refs.length ≤ 1000000) (W : World) (hF1 : ∀ k, W.heap.size ≤ k → F1 k) (h : KnAt W F1 b L kn) (hs : ScAt W F1 A s) :
    Calls Tryz.prog 30 #[.map (some b), .agg #[.slice A s.length c]] W (LevelsAre W kn L.length s) := by
  have hlen := h.map.len Tryz.underlying66
  obtain ⟨most, hmost⟩ : ∃ most, most = L.length := ⟨_, rfl⟩
  rw [← hmost]
  obtain ⟨W1, hW1⟩ : ∃ W1, W1 = W.alloc (.cells #[.slice A s.length c] 24) := ⟨_, rfl⟩
  have hb1 : Below W.heap.size W W1 := by rw [hW1]; exact (Below.refl _ _).alloc (Nat.le_refl _) _
  have hk1 : Blk W1 W.heap.size [.slice A s.length c] 24 := by rw [hW1]; exact Blk.new _ _ _
  have hlen1 : ∀ ty, (Builtin.len_ #[66] ty #[.map (some b)]).run Tryz.prog (W.alloc (.cells #[.slice A s.length c] 24)) = .ok (.int .i64 (most : Int)) (W.alloc (.cells #[.slice A s.length c] 24)) := by
    rw [← hW1, hmost]
    exact (h.below hb1).map.len Tryz.underlying66
  have HH := Lib.hid (heights_any most (by omega) W1 F1 b L kn hB (fun k hk => hF1 k (Nat.le_trans hb1.size hk)) (h.below hb1))
  have HS1 : Hid (ScAt W1 F1 A s) := Lib.hid (hs.moved (Spared.of_below hb1 F1) (fun _ h => .inl h))
  have HL := Lib.hid hl
  have HF1 := Lib.hid hF1
  have HB1 := Lib.hid hb1
  have HK1 := Lib.hid hk1
  have HW1 := Lib.hid hW1
  have HZ1 : Hid (W1.heap.size = W.heap.size + 1) := by rw [hW1]; exact Lib.hid (by simp)
  have hsl : s.length ≤ 1000 := hl.1
  clear h hs hl hB hF1 hb1 hk1 hW1 hlen hL hmost
  go_enter Tryz.func30, Tryz.ntmps30
  go_wp2_with (go_at_call 60; rw [← HW1.out]; refine HH.out.mono ?_; rintro e w2 ⟨bh, HLv, rfl, hbh, hm2, hb2, hway, hcl⟩; have HM2 := Lib.hid hm2; have HB2 := Lib.hid (And.intro hb2 hbh); have HHI : Hid (Highs kn most HLv) := Lib.hid ⟨hway, hcl⟩; have x0 := (HK1.out.below hb2 HK1.out.lt).cell (i := 0) (by simp); simp only [List.getElem_cons_zero] at x0; clear hm2 hb2 hbh hway hcl)
  obtain ⟨i0, z0, hRW⟩ := rowNs
  have HRW := Lib.hid hRW
  have HFS : Hid (∀ w, Below w2.heap.size w2 w → ScAt w F1 A s) := Lib.hid (fun w hw => ScAt.moved (Spared.of_below hw F1) (fun _ h => .inl h) (ScAt.moved (Spared.of_below HB2.out.1 F1) (fun _ h => .inl h) HS1.out))
  have HX0 : Hid (Blk w2 W.heap.size [.slice A s.length c] 24) := Lib.hid (HK1.out.below HB2.out.1 HK1.out.lt)
  have HZ2 : Hid (W.heap.size < w2.heap.size) := Lib.hid (by have := HB2.out.1.size; have := HZ1.out; omega)
  clear x0 hlen1 hRW
  go_loopw [4, 20] (fun v i wr => ∃ (j : Nat) (ps : List (List Nat × List Value)) (A2 : Option Addr) (c2 : Nat), j ≤ s.length ∧ i = .int .i64 j ∧ v = .slice A2 j c2 ∧ Hid (ps.map (·.1) = (s.take j).map (hvT HLv)) ∧ Hid (RowOf IrAt wr w2.heap.size 50 1 W.heap.size A2 j c2 ps) ∧ Hid (Below w2.heap.size w2 wr)) (fun _ i _ => s.length - (intOf i).toNat)
  case atStart => exact ⟨0, [], none, 0, by omega, rfl, rfl, Lib.hid rfl, Lib.hid (RowOf.nil _ _ _ _ _), Lib.hid (Below.refl _ _)⟩
  case round =>
    obtain ⟨j, ps, A2, c2, hj, rfl, rfl, H, HRO, BW⟩ := hrel
    have x0 := (HX0.out.below BW.out HX0.out.lt).cell (i := 0) (by simp)
    simp only [List.getElem_cons_zero] at x0
    by_cases hlt : j < s.length
    · have hsr : RowAt 2 TyAt wr F1 A s := HFS.out wr BW.out
      obtain ⟨b3, off, B, d, rfl, ⟨hn1, hrl⟩, hr, hc⟩ := hsr.ty hlt
      obtain ⟨z0, z1⟩ := hc wr (Below.refl _ _)
      have HLT : Hid ((s.take (j + 1)).map (hvT HLv) = (s.take j).map (hvT HLv) ++ [s[j].rels.map (fun r => hv HLv (s[j].name, r.name))]) := Lib.hid (by rw [List.take_succ_eq_append_getElem hlt, List.map_append]; rfl)
      have hrs : s[j].rels.length ≤ 1000 := HL.out.2 _ (List.getElem_mem hlt)
      generalize s[j].rels = rs at *
      generalize s[j].name = nm at *
      obtain ⟨row, hrow⟩ : ∃ row, row = rs.map (fun r => hv HLv (nm, r.name)) := ⟨_, rfl⟩
      rw [← hrow] at HLT
      have hrl' : rs.length = row.length := by rw [hrow, List.length_map]
      have HRow : Hid (∀ k (h1 : k < rs.length) (h2 : k < row.length), row[k] = hv HLv (nm, (rs[k]).name)) := Lib.hid (fun k h1 h2 => by subst hrow; rw [List.getElem_map])
      obtain ⟨w3, hw3⟩ : ∃ w3, w3 = wr.alloc (.cells #[strV nm, .slice B rs.length d] 38) := ⟨_, rfl⟩
      obtain ⟨w4, hw4⟩ : ∃ w4, w4 = w3.alloc (.cells (List.replicate rs.length (nv 0)).toArray 3) := ⟨_, rfl⟩
      have hmk : (Instr.makeSlice 50 (.int .i64 (rs.length : Int)) (.int .i64 (rs.length : Int))).run Tryz.prog (wr.alloc (.cells #[strV nm, .slice B rs.length d] 38)) = .ok (.slice (some ⟨wr.heap.size + 1, 0, none⟩) rs.length rs.length) w4 := by
        rw [hw4, hw3, row_make rs.length (by omega)]
        simp
      have hb3 : Below wr.heap.size wr w3 := by rw [hw3]; exact (Below.refl _ _).alloc (Nat.le_refl _) _
      have hz3 : w3.heap.size = wr.heap.size + 1 := by rw [hw3]; simp
      have hb4 : Below wr.heap.size wr w4 := by rw [hw4]; exact hb3.alloc (by omega) _
      have hk3 : Blk w4 wr.heap.size [strV nm, .slice B rs.length d] 38 := by rw [hw4, hw3]; exact (Blk.new _ _ _).alloc _
      have hk4 : Blk w4 (wr.heap.size + 1) (fillN row 0) 3 := by rw [fillN_zero, ← hrl', hw4, ← hz3]; exact Blk.new _ _ _
      have hz4 : w4.heap.size = wr.heap.size + 2 := by rw [hw4]; simp; omega
      have y0 := hk3.cell (i := 0) (by simp)
      have y1 := hk3.cell (i := 1) (by simp)
      simp only [List.getElem_cons_succ, List.getElem_cons_zero] at y0 y1
      have y0' : (wr.alloc (.cells #[strV nm, .slice B rs.length d] 38)).cell? ⟨wr.heap.size, 1, none⟩ = some (.slice B rs.length d) := (Blk.new wr [strV nm, .slice B rs.length d] 38).cell (i := 1) (by simp)
      have HB4 := Lib.hid hb4
      have HK3 := Lib.hid hk3
      have HK4 := Lib.hid hk4
      have HZ4 := Lib.hid hz4
      have HRL := Lib.hid hrl'
      have HR4 : Hid (RowAt 6 RlAt w4 F1 B rs) := Lib.hid (RowAt.moved (Spared.of_below hb4 F1) (fun _ h => .inl h) (fun _ _ _ h => h.moved (Spared.of_below hb4 F1) (fun _ h => .inl h)) hr)
      have HM4 : Hid (MapAt w4 bh (HLv.map intV)) := Lib.hid ((HM2.out.below BW.out).below hb4)
      clear hc hr hb3 hb4 hw3 hw4 hz3 hk3 hk4 hz4 hrow hsr hrl' hn1
      go_wp2_with fail
      clear hmk y0 y1 y0' z0 z1 x0
      go_loopw [31] (fun i wq => ∃ k : Nat, k ≤ rs.length ∧ i = .int .i64 k ∧ Hid (Blk wq (wr.heap.size + 1) (fillN row k) 3) ∧ Hid (Spared w4 wq (fun x => x = wr.heap.size + 1))) (fun i _ => rs.length - (intOf i).toNat)
      case atStart => exact ⟨0, by omega, rfl, HK4, Lib.hid (Spared.refl _ _)⟩
      case round =>
        rename World => wq
        obtain ⟨k, hk, rfl, HBQ, HSQ⟩ := hrel
        by_cases hkl : k < rs.length
        · have hrr : RowAt 6 RlAt wq (fun x => F1 x ∨ x = wr.heap.size + 1) B rs := RowAt.moved (F := fun x => F1 x ∨ x = wr.heap.size + 1) (HSQ.out.mono (fun _ h => .inr h)) (fun _ h => .inl h) (fun _ _ _ h => h.moved (F := fun x => F1 x ∨ x = wr.heap.size + 1) (HSQ.out.mono (fun _ h => .inr h)) (fun _ h => .inl h)) (RowAt.moved (Spared.refl w4 F1) (fun i hi => by
            rcases hi with h | h
            · exact .inl h
            · exact .inl (HF1.out _ (by have := BW.out.size; have := HZ2.out; omega))) (fun _ _ _ h => h.moved (Spared.refl w4 F1) (fun i hi => by
            rcases hi with h | h
            · exact .inl h
            · exact .inl (HF1.out _ (by have := BW.out.size; have := HZ2.out; omega)))) HR4.out)
          obtain ⟨g, og, n1, B1, m1, c1, k1, p1, q1, E1, m2, c2', rfl, hE, hcells⟩ := RowAt.rel hrr hkl
          obtain ⟨e0, e1, e2, e3, e4, e5⟩ := hcells wq (Below.refl _ _)
          have hnm : strV n1 = strV rs[k].name := by
            obtain ⟨_, _, _, h, _⟩ := hE
            injection h
          have hn1 : n1 = rs[k].name := by
            injection hnm with h
            injection h with h
            exact congrArg Array.toList h
          have hkr : k < row.length := by have := HRL.out; omega
          have hval : row[k] = hv HLv (nm, n1) := by rw [hn1]; exact HRow.out k hkl hkr
          have HSET : Hid ((fillN row k).set k (.int .i64 (hv HLv (nm, n1) : Int)) = fillN row (k + 1)) := Lib.hid (by rw [← fillN_set row k hkr, hval])
          obtain ⟨w7, hw7⟩ : ∃ w7, w7 = wq.alloc (.cells #[strV n1, .slice B1 m1 c1, .int .i64 k1, strV p1, strV q1, .slice E1 m2 c2'] 46) := ⟨_, rfl⟩
          have hb7 : Below wq.heap.size wq w7 := by rw [hw7]; exact (Below.refl _ _).alloc (Nat.le_refl _) _
          have hk7 : Blk w7 wq.heap.size [strV n1, .slice B1 m1 c1, .int .i64 k1, strV p1, strV q1, .slice E1 m2 c2'] 46 := by rw [hw7]; exact Blk.new _ _ _
          have hq3 := HSQ.out.blk HK3.out (by omega)
          have hq7 := HBQ.out.below hb7 HBQ.out.lt
          have y0 := (hq3.below hb7 hq3.lt).cell (i := 0) (by simp)
          have t0 := hk7.cell (i := 0) (by simp)
          have r0 := hq7.cell (i := k) (by rw [fillN_len]; exact hkr)
          have f0 := hq7.free k
          have hm7 : MapAt w7 bh (HLv.map intV) := (HM4.out.spared HSQ.out (by have h1 := HM2.out.lt; have h2 := BW.out.size; omega)).below hb7
          have hlk := hm7.int (nm, n1)
          simp only [List.getElem_cons_zero] at y0 t0
          have HSP7 : Hid (Spared w4 w7 (fun x => x = wr.heap.size + 1)) := Lib.hid (HSQ.out.trans (Spared.of_below hb7 (fun _ => False)) (fun _ h => h.elim))
          have HQ7 := Lib.hid hq7
          have HW7 := Lib.hid hw7
          rw [hw7] at y0 t0 r0 f0 hlk
          dsimp only at hlk
          generalize (fillN row k)[k]'(by rw [fillN_len]; exact hkr) = old at *
          generalize hv HLv (nm, n1) = val at *
          clear hw7 hb7 hk7 hq3 hq7 hm7 hE hcells hrr hnm hn1 hval
          go_wp2_with fail
          rw [← HW7.out]
          go_roundw
          case rel => exact ⟨k + 1, by omega, by go_num, Lib.hid (by rw [← HSET.out]; exact HQ7.out.set k _), Lib.hid (HSP7.out.setCell rfl k _)⟩
          case measure => simp [intOf]; omega
        · have hke : k = rs.length := by omega
          have HFQ : Hid (Blk wq (wr.heap.size + 1) (row.map nv) 3) := Lib.hid (by rw [← fillN_full, ← HRL.out, ← hke]; exact HBQ.out)
          have hspq : Spared wr wq (fun _ => False) := (Spared.of_below HB4.out (fun _ => False)).trans HSQ.out (fun x hx => .inr (by have hx : x = wr.heap.size + 1 := hx; omega))
          have HROQ : Hid (RowOf IrAt wq w2.heap.size 50 1 W.heap.size A2 j c2 ps) := Lib.hid (HRO.out.spared keeps_ir HZ2.out (hspq.mono (fun _ h => h.elim)))
          have HBWQ : Hid (Below w2.heap.size w2 wq) := Lib.hid (hspq.below BW.out (fun _ h => h.elim))
          have HOB := Lib.hid (own_lt HRO.out.own)
          have hj6 : j ≤ 1000000 := by omega
          clear hspq
          go_wp2_with (at_builtin; refine wpList_append_struct wq rfl (.tmp 47) (.tmp 49) 27 rfl HRW.out (by decide) (by decide) w2 A2 j c2 _ [.slice (some ⟨wr.heap.size + 1, 0, none⟩) rs.length rs.length] rfl rfl (by simp [Act.eval]) HBWQ.out HROQ.out.own (fun u hu => by rw [List.mem_singleton.1 hu]; rfl) hj6 ?_)
          intro A' c' w' hown hbel hg hat
          have HP : Hid (RowOf IrAt w' w2.heap.size 50 1 W.heap.size A' (j + 1) c' (ps ++ [(row, [.slice (some ⟨wr.heap.size + 1, 0, none⟩) rs.length rs.length])])) := Lib.hid (HROQ.out.push keeps_ir rfl (by
            rw [HRL.out]
            refine IrAt.of_blk HFQ.out (fun hf => ?_)
            have h1 := HZ2.out
            have h2 := BW.out.size
            rcases hf with hf | hf | hf
            · omega
            · omega
            · have := HOB.out _ hf.symm
              omega) hown hg hat)
          have HBE := Lib.hid hbel
          clear hown hbel hg hat
          go_wp2_with fail
          go_roundw
          case rel => exact ⟨j + 1, _, A', c', by omega, by go_num, rfl, Lib.hid (by rw [List.map_append, H.out, HLT.out]; rfl), HP, HBE⟩
          case measure => simp [intOf]; omega
    · have HN : Hid ((s.take j).map (hvT HLv) = hvS HLv s) := Lib.hid (by rw [List.take_of_length_le (by omega)]; rfl)
      have hjl : j = s.length := by omega
      have HJ := Lib.hid hjl
      go_wp2_with fail
      go_ret2
      have hrow := HRO.out.row keeps_ir (by have := HZ2.out; omega) (G := fun k => k < W.heap.size) (fun i hi => .inr (by have := HZ2.out; have hi : i < W.heap.size := hi; omega))
      rw [H.out, HN.out] at hrow
      have hcp := own_cap HRO.out.own
      rw [HJ.out] at hcp
      rw [HJ.out]
      exact ⟨HLv, A2, c2, rfl, hrow, (HB1.out.trans (HB2.out.1.mono HB1.out.size)).trans (BW.out.mono (by have := HZ2.out; omega)), HHI.out, hcp⟩
end Go.Proofs.YtdnhbledndgbcaaGreat
namespace Go.Proofs.YtdnhbledndgbcaaGreat
open Go.RowKit
def EAskC {α : Type} (n g : Nat) (mk : Value → Array Value) (Sh : List Value → Prop) (p : α → Bool) (W : World) (A : Option Addr) (l : List α) : Prop :=
  ∀ j (hj : j < l.length), ∃ b off cs, A = some ⟨b, off, none⟩ ∧ Sh cs ∧ (∀ W', Below W.heap.size W W' → ∀ i, i < n → W'.cell? ⟨b, off + j * n + i, none⟩ = cs[i]?) ∧
    ∀ W', Below W.heap.size W W' → Calls Tryz.prog g (mk (.agg cs.toArray)) W' fun e w' => e = .returned (.bool (p l[j])) ∧ Below W'.heap.size W' w'
theorem RowAt.asksC {α : Type} {n g : Nat} {mk : Value → Array Value} {R : World → (Nat → Prop) → α → List Value → Prop} {Sh : List Value → Prop} {p : α → Bool} {W : World} {F : Nat → Prop} {A : Option Addr} {l : List α} (h : RowAt n R W F A l)
    (hS : ∀ x cs, R W F x cs → Sh cs) (hf : ∀ x ∈ l, ∀ cs, R W F x cs → ∀ W', Below W.heap.size W W' → Calls Tryz.prog g (mk (.agg cs.toArray)) W' fun e w' => e = .returned (.bool (p x)) ∧ Below W'.heap.size W' w') : EAskC n g mk Sh p W A l := by
  intro j hj
  rcases h with rfl | ⟨b, off, rfl, hb, _, hk⟩
  · simp at hj
  · obtain ⟨cs, h1, h2⟩ := hk j hj
    exact ⟨b, off, cs, rfl, hS _ _ h1, fun W' hW i hi => (hW.cell (p := ⟨b, off + j * n + i, none⟩) hb).trans (h2 i hi), hf _ (List.getElem_mem hj) cs h1⟩
theorem atN_any {α : Type} (p : α → Bool) : ∀ (l : List α) (i : Nat), (0 ≤ atN p l i) ↔ l.any p = true
  | [], i => by simp [atN]
  | x :: r, i => by
    rw [atN, List.any_cons]
    by_cases h : p x = true
    · rw [if_pos h, h]; simp
    · rw [if_neg h, atN_any p r (i + 1)]; simp [h]
set_option maxHeartbeats 1000000 in
theorem indexC_Type1 {α : Type} {g : Nat} (eg : ∀ args w, (callFunc g args).run Tryz.prog w = .ok (.enter g args) w) {p : α → Bool} {W : World} {A : Option Addr} {l : List α} (c : Nat) {p1 : Value} (h : EAskC 2 g (fun v => #[v, p1]) ShType p W A l) (hl : l.length ≤ 9223372036854775807) :
    Calls Tryz.prog 20 #[.slice A l.length c, .func (.func g) #[] #[p1]] W fun e w' => e = .returned (.int .i64 (atN p l 0)) ∧ Below W.heap.size W w' := by
  obtain ⟨v, hv⟩ : ∃ v, v = atN p l 0 := ⟨_, rfl⟩
  rw [← hv]
  have HV := Lib.hid hv
  have HR := Lib.hid h
  clear h hv
  go_enter Tryz.func20, Tryz.ntmps20
  go_wp2_with fail
  go_loopw [8] (fun x wr => ∃ j : Nat, j ≤ l.length ∧ x = .int .i64 j ∧ Hid (v = atN p (l.drop j) j) ∧ Hid (Below W.heap.size W wr)) (fun x _ => l.length - (intOf x).toNat)
  case atStart => exact ⟨0, by omega, rfl, Lib.hid (by rw [HV.out]; rfl), Lib.hid (Below.refl _ _)⟩
  case round =>
    obtain ⟨j, hj, rfl, H, BW⟩ := hrel
    by_cases hlt : j < l.length
    · have HD := Lib.hid (atN_drop (p := p) hlt)
      obtain ⟨b, off, cs, rfl, ⟨s0, A1, n1, c1, rfl⟩, hc, hf⟩ := HR.out j hlt
      have hc' := hc wr BW.out
      have z0 : wr.cell? ⟨b, off + j * 2, none⟩ = some (strV s0) := hc' 0 (by decide)
      have z1 : wr.cell? ⟨b, off + j * 2 + 1, none⟩ = some (.slice A1 n1 c1) := hc' 1 (by decide)
      have HC := Lib.hid (hf wr BW.out)
      have HC : Hid (Calls Tryz.prog g #[.agg #[strV s0, .slice A1 n1 c1], p1] wr fun e w' => e = .returned (.bool (p l[j])) ∧ Below wr.heap.size wr w') := HC
      obtain ⟨q, hq⟩ : ∃ q, p l[j] = q := ⟨_, rfl⟩
      rw [hq] at HC HD
      clear hc hc' hf hq
      cases q
      · have HN : Hid (v = atN p (l.drop (j + 1)) (j + 1)) := Lib.hid (by rw [H.out, HD.out]; rfl)
        go_wp2_with (go_at_fn g; refine HC.out.mono ?_; rintro e w2 ⟨rfl, hb2⟩)
        go_roundw
        case rel => exact ⟨j + 1, by omega, by go_num, HN, Lib.hid (hop BW.out hb2)⟩
        case measure => simp [intOf]; omega
      · have HN : Hid (v = (j : Int)) := Lib.hid (by rw [H.out, HD.out]; rfl)
        go_wp2_with (go_at_fn g; refine HC.out.mono ?_; rintro e w2 ⟨rfl, hb2⟩)
        go_ret
        exact ⟨by rw [HN.out]; rfl, hop BW.out hb2⟩
    · have HN : Hid (v = -1) := Lib.hid (by rw [H.out, List.drop_of_length_le (by omega)]; rfl)
      go_wp2_with fail
      go_ret
      exact ⟨by rw [HN.out]; rfl, BW.out⟩
set_option maxHeartbeats 1000000 in
theorem indexC_Type2 {α : Type} {g : Nat} (eg : ∀ args w, (callFunc g args).run Tryz.prog w = .ok (.enter g args) w) {p : α → Bool} {W : World} {A : Option Addr} {l : List α} (c : Nat) {p1 p2 : Value} (h : EAskC 2 g (fun v => #[v, p1, p2]) ShType p W A l) (hl : l.length ≤ 9223372036854775807) :
    Calls Tryz.prog 20 #[.slice A l.length c, .func (.func g) #[] #[p1, p2]] W fun e w' => e = .returned (.int .i64 (atN p l 0)) ∧ Below W.heap.size W w' := by
  obtain ⟨v, hv⟩ : ∃ v, v = atN p l 0 := ⟨_, rfl⟩
  rw [← hv]
  have HV := Lib.hid hv
  have HR := Lib.hid h
  clear h hv
  go_enter Tryz.func20, Tryz.ntmps20
  go_wp2_with fail
  go_loopw [8] (fun x wr => ∃ j : Nat, j ≤ l.length ∧ x = .int .i64 j ∧ Hid (v = atN p (l.drop j) j) ∧ Hid (Below W.heap.size W wr)) (fun x _ => l.length - (intOf x).toNat)
  case atStart => exact ⟨0, by omega, rfl, Lib.hid (by rw [HV.out]; rfl), Lib.hid (Below.refl _ _)⟩
  case round =>
    obtain ⟨j, hj, rfl, H, BW⟩ := hrel
    by_cases hlt : j < l.length
    · have HD := Lib.hid (atN_drop (p := p) hlt)
      obtain ⟨b, off, cs, rfl, ⟨s0, A1, n1, c1, rfl⟩, hc, hf⟩ := HR.out j hlt
      have hc' := hc wr BW.out
      have z0 : wr.cell? ⟨b, off + j * 2, none⟩ = some (strV s0) := hc' 0 (by decide)
      have z1 : wr.cell? ⟨b, off + j * 2 + 1, none⟩ = some (.slice A1 n1 c1) := hc' 1 (by decide)
      have HC := Lib.hid (hf wr BW.out)
      have HC : Hid (Calls Tryz.prog g #[.agg #[strV s0, .slice A1 n1 c1], p1, p2] wr fun e w' => e = .returned (.bool (p l[j])) ∧ Below wr.heap.size wr w') := HC
      obtain ⟨q, hq⟩ : ∃ q, p l[j] = q := ⟨_, rfl⟩
      rw [hq] at HC HD
      clear hc hc' hf hq
      cases q
      · have HN : Hid (v = atN p (l.drop (j + 1)) (j + 1)) := Lib.hid (by rw [H.out, HD.out]; rfl)
        go_wp2_with (go_at_fn g; refine HC.out.mono ?_; rintro e w2 ⟨rfl, hb2⟩)
        go_roundw
        case rel => exact ⟨j + 1, by omega, by go_num, HN, Lib.hid (hop BW.out hb2)⟩
        case measure => simp [intOf]; omega
      · have HN : Hid (v = (j : Int)) := Lib.hid (by rw [H.out, HD.out]; rfl)
        go_wp2_with (go_at_fn g; refine HC.out.mono ?_; rintro e w2 ⟨rfl, hb2⟩)
        go_ret
        exact ⟨by rw [HN.out]; rfl, hop BW.out hb2⟩
    · have HN : Hid (v = -1) := Lib.hid (by rw [H.out, List.drop_of_length_le (by omega)]; rfl)
      go_wp2_with fail
      go_ret
      exact ⟨by rw [HN.out]; rfl, BW.out⟩
set_option maxHeartbeats 1000000 in
theorem anyC_Type2 {α : Type} {g : Nat} (eg : ∀ args w, (callFunc g args).run Tryz.prog w = .ok (.enter g args) w) {p : α → Bool} {W : World} {A : Option Addr} {l : List α} (c : Nat) {p1 p2 : Value} (h : EAskC 2 g (fun v => #[v, p1, p2]) ShType p W A l) (hl : l.length ≤ 9223372036854775807) :
    Calls Tryz.prog 53 #[.slice A l.length c, .func (.func g) #[] #[p1, p2]] W fun e w' => e = .returned (.bool (l.any p)) ∧ Below W.heap.size W w' := by
  have HI := Lib.hid (indexC_Type2 eg c h hl)
  have hv := atN_any p l 0
  clear h
  generalize l.any p = q at *
  generalize atN p l 0 = v at *
  go_enter Tryz.func53, Tryz.ntmps53
  cases q
  · have hv' : ¬ 0 ≤ v := fun h0 => absurd (hv.1 h0) (by decide)
    clear hv
    go_wp2_with (go_at_call 20; refine HI.out.mono ?_; rintro e w2 ⟨rfl, hb2⟩)
    go_ret
    exact ⟨by first | rfl | simp [hv'], hb2⟩
  · have hv' := hv.2 rfl
    clear hv
    go_wp2_with (go_at_call 20; refine HI.out.mono ?_; rintro e w2 ⟨rfl, hb2⟩)
    go_ret
    exact ⟨by first | rfl | simp [hv'], hb2⟩
set_option maxHeartbeats 1000000 in
theorem indexC_Rel1 {α : Type} {g : Nat} (eg : ∀ args w, (callFunc g args).run Tryz.prog w = .ok (.enter g args) w) {p : α → Bool} {W : World} {A : Option Addr} {l : List α} (c : Nat) {p1 : Value} (h : EAskC 6 g (fun v => #[v, p1]) ShRel p W A l) (hl : l.length ≤ 9223372036854775807) :
    Calls Tryz.prog 22 #[.slice A l.length c, .func (.func g) #[] #[p1]] W fun e w' => e = .returned (.int .i64 (atN p l 0)) ∧ Below W.heap.size W w' := by
  obtain ⟨v, hv⟩ : ∃ v, v = atN p l 0 := ⟨_, rfl⟩
  rw [← hv]
  have HV := Lib.hid hv
  have HR := Lib.hid h
  clear h hv
  go_enter Tryz.func22, Tryz.ntmps22
  go_wp2_with fail
  go_loopw [8] (fun x wr => ∃ j : Nat, j ≤ l.length ∧ x = .int .i64 j ∧ Hid (v = atN p (l.drop j) j) ∧ Hid (Below W.heap.size W wr)) (fun x _ => l.length - (intOf x).toNat)
  case atStart => exact ⟨0, by omega, rfl, Lib.hid (by rw [HV.out]; rfl), Lib.hid (Below.refl _ _)⟩
  case round =>
    obtain ⟨j, hj, rfl, H, BW⟩ := hrel
    by_cases hlt : j < l.length
    · have HD := Lib.hid (atN_drop (p := p) hlt)
      obtain ⟨b, off, cs, rfl, ⟨s0, A1, n1, c1, k, s2, s3, A2, n2, c2, rfl⟩, hc, hf⟩ := HR.out j hlt
      have hc' := hc wr BW.out
      have z0 : wr.cell? ⟨b, off + j * 6, none⟩ = some (strV s0) := hc' 0 (by decide)
      have z1 : wr.cell? ⟨b, off + j * 6 + 1, none⟩ = some (.slice A1 n1 c1) := hc' 1 (by decide)
      have z2 : wr.cell? ⟨b, off + j * 6 + 2, none⟩ = some (.int .i64 k) := hc' 2 (by decide)
      have z3 : wr.cell? ⟨b, off + j * 6 + 3, none⟩ = some (strV s2) := hc' 3 (by decide)
      have z4 : wr.cell? ⟨b, off + j * 6 + 4, none⟩ = some (strV s3) := hc' 4 (by decide)
      have z5 : wr.cell? ⟨b, off + j * 6 + 5, none⟩ = some (.slice A2 n2 c2) := hc' 5 (by decide)
      have HC := Lib.hid (hf wr BW.out)
      have HC : Hid (Calls Tryz.prog g #[.agg #[strV s0, .slice A1 n1 c1, .int .i64 k, strV s2, strV s3, .slice A2 n2 c2], p1] wr fun e w' => e = .returned (.bool (p l[j])) ∧ Below wr.heap.size wr w') := HC
      obtain ⟨q, hq⟩ : ∃ q, p l[j] = q := ⟨_, rfl⟩
      rw [hq] at HC HD
      clear hc hc' hf hq
      cases q
      · have HN : Hid (v = atN p (l.drop (j + 1)) (j + 1)) := Lib.hid (by rw [H.out, HD.out]; rfl)
        go_wp2_with (go_at_fn g; refine HC.out.mono ?_; rintro e w2 ⟨rfl, hb2⟩)
        go_roundw
        case rel => exact ⟨j + 1, by omega, by go_num, HN, Lib.hid (hop BW.out hb2)⟩
        case measure => simp [intOf]; omega
      · have HN : Hid (v = (j : Int)) := Lib.hid (by rw [H.out, HD.out]; rfl)
        go_wp2_with (go_at_fn g; refine HC.out.mono ?_; rintro e w2 ⟨rfl, hb2⟩)
        go_ret
        exact ⟨by rw [HN.out]; rfl, hop BW.out hb2⟩
    · have HN : Hid (v = -1) := Lib.hid (by rw [H.out, List.drop_of_length_le (by omega)]; rfl)
      go_wp2_with fail
      go_ret
      exact ⟨by rw [HN.out]; rfl, BW.out⟩
set_option maxHeartbeats 1000000 in
theorem indexC_Rel2 {α : Type} {g : Nat} (eg : ∀ args w, (callFunc g args).run Tryz.prog w = .ok (.enter g args) w) {p : α → Bool} {W : World} {A : Option Addr} {l : List α} (c : Nat) {p1 p2 : Value} (h : EAskC 6 g (fun v => #[v, p1, p2]) ShRel p W A l) (hl : l.length ≤ 9223372036854775807) :
    Calls Tryz.prog 22 #[.slice A l.length c, .func (.func g) #[] #[p1, p2]] W fun e w' => e = .returned (.int .i64 (atN p l 0)) ∧ Below W.heap.size W w' := by
  obtain ⟨v, hv⟩ : ∃ v, v = atN p l 0 := ⟨_, rfl⟩
  rw [← hv]
  have HV := Lib.hid hv
  have HR := Lib.hid h
  clear h hv
  go_enter Tryz.func22, Tryz.ntmps22
  go_wp2_with fail
  go_loopw [8] (fun x wr => ∃ j : Nat, j ≤ l.length ∧ x = .int .i64 j ∧ Hid (v = atN p (l.drop j) j) ∧ Hid (Below W.heap.size W wr)) (fun x _ => l.length - (intOf x).toNat)
  case atStart => exact ⟨0, by omega, rfl, Lib.hid (by rw [HV.out]; rfl), Lib.hid (Below.refl _ _)⟩
  case round =>
    obtain ⟨j, hj, rfl, H, BW⟩ := hrel
    by_cases hlt : j < l.length
    · have HD := Lib.hid (atN_drop (p := p) hlt)
      obtain ⟨b, off, cs, rfl, ⟨s0, A1, n1, c1, k, s2, s3, A2, n2, c2, rfl⟩, hc, hf⟩ := HR.out j hlt
      have hc' := hc wr BW.out
      have z0 : wr.cell? ⟨b, off + j * 6, none⟩ = some (strV s0) := hc' 0 (by decide)
      have z1 : wr.cell? ⟨b, off + j * 6 + 1, none⟩ = some (.slice A1 n1 c1) := hc' 1 (by decide)
      have z2 : wr.cell? ⟨b, off + j * 6 + 2, none⟩ = some (.int .i64 k) := hc' 2 (by decide)
      have z3 : wr.cell? ⟨b, off + j * 6 + 3, none⟩ = some (strV s2) := hc' 3 (by decide)
      have z4 : wr.cell? ⟨b, off + j * 6 + 4, none⟩ = some (strV s3) := hc' 4 (by decide)
      have z5 : wr.cell? ⟨b, off + j * 6 + 5, none⟩ = some (.slice A2 n2 c2) := hc' 5 (by decide)
      have HC := Lib.hid (hf wr BW.out)
      have HC : Hid (Calls Tryz.prog g #[.agg #[strV s0, .slice A1 n1 c1, .int .i64 k, strV s2, strV s3, .slice A2 n2 c2], p1, p2] wr fun e w' => e = .returned (.bool (p l[j])) ∧ Below wr.heap.size wr w') := HC
      obtain ⟨q, hq⟩ : ∃ q, p l[j] = q := ⟨_, rfl⟩
      rw [hq] at HC HD
      clear hc hc' hf hq
      cases q
      · have HN : Hid (v = atN p (l.drop (j + 1)) (j + 1)) := Lib.hid (by rw [H.out, HD.out]; rfl)
        go_wp2_with (go_at_fn g; refine HC.out.mono ?_; rintro e w2 ⟨rfl, hb2⟩)
        go_roundw
        case rel => exact ⟨j + 1, by omega, by go_num, HN, Lib.hid (hop BW.out hb2)⟩
        case measure => simp [intOf]; omega
      · have HN : Hid (v = (j : Int)) := Lib.hid (by rw [H.out, HD.out]; rfl)
        go_wp2_with (go_at_fn g; refine HC.out.mono ?_; rintro e w2 ⟨rfl, hb2⟩)
        go_ret
        exact ⟨by rw [HN.out]; rfl, hop BW.out hb2⟩
    · have HN : Hid (v = -1) := Lib.hid (by rw [H.out, List.drop_of_length_le (by omega)]; rfl)
      go_wp2_with fail
      go_ret
      exact ⟨by rw [HN.out]; rfl, BW.out⟩
set_option maxHeartbeats 1000000 in
theorem anyC_Rel2 {α : Type} {g : Nat} (eg : ∀ args w, (callFunc g args).run Tryz.prog w = .ok (.enter g args) w) {p : α → Bool} {W : World} {A : Option Addr} {l : List α} (c : Nat) {p1 p2 : Value} (h : EAskC 6 g (fun v => #[v, p1, p2]) ShRel p W A l) (hl : l.length ≤ 9223372036854775807) :
    Calls Tryz.prog 56 #[.slice A l.length c, .func (.func g) #[] #[p1, p2]] W fun e w' => e = .returned (.bool (l.any p)) ∧ Below W.heap.size W w' := by
  have HI := Lib.hid (indexC_Rel2 eg c h hl)
  have hv := atN_any p l 0
  clear h
  generalize l.any p = q at *
  generalize atN p l 0 = v at *
  go_enter Tryz.func56, Tryz.ntmps56
  cases q
  · have hv' : ¬ 0 ≤ v := fun h0 => absurd (hv.1 h0) (by decide)
    clear hv
    go_wp2_with (go_at_call 22; refine HI.out.mono ?_; rintro e w2 ⟨rfl, hb2⟩)
    go_ret
    exact ⟨by first | rfl | simp [hv'], hb2⟩
  · have hv' := hv.2 rfl
    clear hv
    go_wp2_with (go_at_call 22; refine HI.out.mono ?_; rintro e w2 ⟨rfl, hb2⟩)
    go_ret
    exact ⟨by first | rfl | simp [hv'], hb2⟩
set_option maxHeartbeats 1000000 in
theorem indexC_Ref1 {α : Type} {g : Nat} (eg : ∀ args w, (callFunc g args).run Tryz.prog w = .ok (.enter g args) w) {p : α → Bool} {W : World} {A : Option Addr} {l : List α} (c : Nat) {p1 : Value} (h : EAskC 2 g (fun v => #[v, p1]) ShRef p W A l) (hl : l.length ≤ 9223372036854775807) :
    Calls Tryz.prog 74 #[.slice A l.length c, .func (.func g) #[] #[p1]] W fun e w' => e = .returned (.int .i64 (atN p l 0)) ∧ Below W.heap.size W w' := by
  obtain ⟨v, hv⟩ : ∃ v, v = atN p l 0 := ⟨_, rfl⟩
  rw [← hv]
  have HV := Lib.hid hv
  have HR := Lib.hid h
  clear h hv
  go_enter Tryz.func74, Tryz.ntmps74
  go_wp2_with fail
  go_loopw [8] (fun x wr => ∃ j : Nat, j ≤ l.length ∧ x = .int .i64 j ∧ Hid (v = atN p (l.drop j) j) ∧ Hid (Below W.heap.size W wr)) (fun x _ => l.length - (intOf x).toNat)
  case atStart => exact ⟨0, by omega, rfl, Lib.hid (by rw [HV.out]; rfl), Lib.hid (Below.refl _ _)⟩
  case round =>
    obtain ⟨j, hj, rfl, H, BW⟩ := hrel
    by_cases hlt : j < l.length
    · have HD := Lib.hid (atN_drop (p := p) hlt)
      obtain ⟨b, off, cs, rfl, ⟨s0, s1, rfl⟩, hc, hf⟩ := HR.out j hlt
      have hc' := hc wr BW.out
      have z0 : wr.cell? ⟨b, off + j * 2, none⟩ = some (strV s0) := hc' 0 (by decide)
      have z1 : wr.cell? ⟨b, off + j * 2 + 1, none⟩ = some (strV s1) := hc' 1 (by decide)
      have HC := Lib.hid (hf wr BW.out)
      have HC : Hid (Calls Tryz.prog g #[.agg #[strV s0, strV s1], p1] wr fun e w' => e = .returned (.bool (p l[j])) ∧ Below wr.heap.size wr w') := HC
      obtain ⟨q, hq⟩ : ∃ q, p l[j] = q := ⟨_, rfl⟩
      rw [hq] at HC HD
      clear hc hc' hf hq
      cases q
      · have HN : Hid (v = atN p (l.drop (j + 1)) (j + 1)) := Lib.hid (by rw [H.out, HD.out]; rfl)
        go_wp2_with (go_at_fn g; refine HC.out.mono ?_; rintro e w2 ⟨rfl, hb2⟩)
        go_roundw
        case rel => exact ⟨j + 1, by omega, by go_num, HN, Lib.hid (hop BW.out hb2)⟩
        case measure => simp [intOf]; omega
      · have HN : Hid (v = (j : Int)) := Lib.hid (by rw [H.out, HD.out]; rfl)
        go_wp2_with (go_at_fn g; refine HC.out.mono ?_; rintro e w2 ⟨rfl, hb2⟩)
        go_ret
        exact ⟨by rw [HN.out]; rfl, hop BW.out hb2⟩
    · have HN : Hid (v = -1) := Lib.hid (by rw [H.out, List.drop_of_length_le (by omega)]; rfl)
      go_wp2_with fail
      go_ret
      exact ⟨by rw [HN.out]; rfl, BW.out⟩
end Go.Proofs.YtdnhbledndgbcaaGreat
