/-
  What Texts comes to, the program's and the document's. Conditions: at most 2^40 texts; the key is at most 2^47 bytes.
-/
import Derived.Test.YtooooppgdchjaaaRefEnc
import Derived.Test.YtooooppgdchjaaaGather
import Derived.Test.YtooooppgdchjaaaRow
import Derived.Deep.OwnRows
namespace Go.Proofs.Ytooooppgdchjaaa
open Go.RowKit

theorem infoPart : (Try.prog.info? 23).map (fun i => (i.zero, i.size, i.bytes)) = some (some (.slice none 0 0), 1, 24) := by kernel_rfl

/-- a slice of texts of which these are the bytes -/
def SeenT (w : World) (A : Option Addr) (ts : List (List UInt8)) : Prop :=
  ts = [] ∨ ∃ b off, A = some ⟨b, off, none⟩ ∧ b < w.heap.size ∧ ∀ j (h : j < ts.length), w.cell? ⟨b, off + j, none⟩ = some (.string ⟨(ts[j]).toArray⟩) ∧ ts[j].length ≤ 140737488351232
theorem SeenT.at_ {w : World} {A : Option Addr} {ts : List (List UInt8)} (h : SeenT w A ts) (k : Nat) (hk : k < ts.length) :
    ∃ b off, A = some ⟨b, off, none⟩ ∧ b < w.heap.size ∧ w.cell? ⟨b, off + k, none⟩ = some (.string ⟨(ts[k]).toArray⟩) ∧ ts[k].length ≤ 140737488351232 := by
  rcases h with rfl | ⟨b, off, rfl, hb, hc⟩
  · simp at hk
  · exact ⟨b, off, rfl, hb, hc k hk⟩

/-- '[]byte(s)': a new row that shows the bytes of s -/
theorem bytes_of_text (w : World) (l : List UInt8) : ∃ (c : Nat) (w' : World), (convert 9 23 (.string ⟨l.toArray⟩)).run Try.prog w = .ok (.slice (some ⟨w.heap.size, 0, none⟩) l.length c) w' ∧
    Seen w' (some ⟨w.heap.size, 0, none⟩) l ∧ l.length ≤ c ∧ Below w.heap.size w w' ∧ w.heap.size < w'.heap.size := by
  have hr := run_bytes_of_string (P := Try.prog) w 9 23 5 ⟨l.toArray⟩ Try.underlying9 Try.underlying23 Try.underlying5
  have hsz : (⟨l.toArray⟩ : ByteArray).size = l.length := by simp [ByteArray.size]
  rw [hsz] at hr
  refine ⟨_, _, hr, .inr ⟨w.heap.size, 0, rfl, by simp, fun j hj => ?_⟩, grownCap_ge w l.length 0 _, ((Below.refl _ _).drew).alloc (Nat.le_refl _) _, by simp⟩
  have h := bytesRow_at ⟨l.toArray⟩ (grownCap w l.length 0 5) j (by simpa using hj)
  rw [Nat.zero_add]
  have e := World.cell?_alloc_mark w.drew (bytesRow ⟨l.toArray⟩ (grownCap w l.length 0 5)) 5 ((bytesRow ⟨l.toArray⟩ (grownCap w l.length 0 5)).size, (bytesRow ⟨l.toArray⟩ (grownCap w l.length 0 5)).size + 1) j
  refine Eq.trans e (h.trans ?_)
  simp

theorem made_row (w : World) (n : Nat) : Blk (w.alloc (.cells (madeCells #[.slice none 0 0] n) 23)) w.heap.size (([] : List Piece).map pv ++ List.replicate (n - 0) (.slice none 0 0)) 23 := by
  have e : madeCells #[Value.slice none 0 0] n = (([] : List Piece).map pv ++ List.replicate (n - 0) (Value.slice none 0 0)).toArray := by
    apply Array.ext
    · simp [madeCells]
    · intro i h1 h2
      simp [madeCells, Nat.mod_one]
  rw [e]
  exact Blk.new w _ _
/-- ahead of the text k, the program's -/
def TX (w : World) (g : Nat) (ts : List (List UInt8)) (i : Value) (wr : World) : Prop :=
  ∃ (k : Nat) (ps : List Piece), k ≤ ts.length ∧ i = .int .i64 k ∧ ps.length = k ∧ bytesOf ps = ts.take k ∧ Blk wr g (ps.map pv ++ List.replicate (ts.length - k) (.slice none 0 0)) 23 ∧ (∀ q ∈ ps, Free wr (some g) (some g) q) ∧ Below w.heap.size w wr
theorem tx_set {ps : List Piece} {n k : Nat} (hk : ps.length = k) (hn : k < n) (q : Piece) : (ps.map pv ++ List.replicate (n - k) (Value.slice none 0 0)).set k (pv q) = (ps ++ [q]).map pv ++ List.replicate (n - (k + 1)) (Value.slice none 0 0) := by
  obtain ⟨m, rfl⟩ : ∃ m, n = k + (m + 1) := ⟨n - k - 1, by omega⟩
  rw [List.set_append_right _ _ (by simp; omega), List.length_map, hk, Nat.sub_self, show k + (m + 1) - k = m + 1 by omega, show k + (m + 1) - (k + 1) = m by omega, List.replicate_succ, List.set_cons_zero]
  simp
theorem tx_take {ps : List Piece} {ts : List (List UInt8)} {k : Nat} (h : bytesOf ps = ts.take k) (hk : k < ts.length) (q : Piece) (hq : q.2.1 = ts[k]) : bytesOf (ps ++ [q]) = ts.take (k + 1) := by
  rw [bytesOf, List.map_append, ← bytesOf, h, List.take_succ_eq_append_getElem hk]
  simp [hq]
theorem TX.shown {wr : World} {g : Nat} {ps : List Piece} {n : Nat} (hb : Blk wr g (ps.map pv ++ List.replicate (n - n) (.slice none 0 0)) 23) (hf : ∀ q ∈ ps, Free wr (some g) (some g) q) : SeenAll wr (some ⟨g, 0, none⟩) ps := by
  refine .inr ⟨g, 0, rfl, hb.lt, fun j hj => ?_⟩
  obtain ⟨h1, h2, h3⟩ := hf ps[j] (List.getElem_mem hj)
  rw [Nat.sub_self, List.replicate_zero, List.append_nil] at hb
  have hc := hb.cell (i := j) (by simpa using hj)
  rw [List.getElem_map] at hc
  rw [Nat.zero_add]
  refine ⟨hc, ?_, h2, h3⟩
  rcases h1 with h1 | ⟨b, off, hA, hb', _, _, hc⟩
  · exact .inl h1
  · exact .inr ⟨b, off, hA, hb', hc⟩

set_option maxRecDepth 100000 in
set_option maxHeartbeats 1000000 in
theorem texts_any (A : Option Addr) (ts : List (List UInt8)) (c : Nat) (w : World) (hs : SeenT w A ts) (hn : ts.length ≤ 1099511627776) (hb : (encL ts).length ≤ 140737488355328) :
    Calls Try.prog 17 #[.slice A ts.length c] w fun e w' => ∃ A' n' c', e = .returned (.slice A' n' c') ∧ (encL ts).length = n' ∧ Seen w' A' (encL ts) ∧ n' ≤ c' ∧ Below w.heap.size w w' := by
  have HS := Lib.hid hs
  have HB := Lib.hid hb
  have hmk := run_make_row' (P := Try.prog) 22 23 (.slice none 0 0) 24 Try.underlying22 infoPart rfl .i64 .i64 ts.length (by omega) (by omega)
  clear hs hb
  go_enter Try.func17, Try.ntmps17
  go_wp2_with fail
  go_loopw [11] (fun i wr => TX w w.heap.size ts i wr) (fun i _ => ts.length - (intOf i).toNat)
  case atStart => exact ⟨0, [], by omega, rfl, rfl, rfl, made_row w ts.length, (fun q hq => by simp at hq), (Below.refl _ _).alloc (Nat.le_refl _) _⟩
  case round =>
    clear hmk
    obtain ⟨k, ps, hk, rfl, hps, hbo, hblk, hfr, hbel⟩ := hrel
    have HP := Lib.hid hps
    have HO := Lib.hid hbo
    have HK := Lib.hid hblk
    have HF := Lib.hid hfr
    have BW := Lib.hid hbel
    clear hps hbo hblk hfr hbel
    by_cases hlt : k < ts.length
    · obtain ⟨b, off, hA, hbw, hc, hmax⟩ := HS.out.at_ k hlt
      subst hA
      have hc' := (BW.out.cell (p := ⟨b, off + k, none⟩) hbw).trans hc
      have HT : Hid (∀ q : Piece, q.2.1 = ts[k] → bytesOf (ps ++ [q]) = ts.take (k + 1)) := fun q hq => tx_take HO.out hlt q hq
      clear hc
      obtain ⟨l, hl⟩ : ∃ l, l = ts[k] := ⟨_, rfl⟩
      rw [← hl] at hc' hmax HT
      clear hl
      obtain ⟨cc, w2, hrun, hs2, hcc, hb2, hz2⟩ := bytes_of_text wr l
      have hlt1 : w.heap.size < wr.heap.size := HK.out.lt
      have HK2 := Lib.hid (HK.out.below hb2 hlt1)
      have hcell : w2.cell? ⟨w.heap.size, k, none⟩ = some (.slice none 0 0) := by
        have h := HK2.out.cell (i := k) (by simp [HP.out]; omega)
        rw [h, List.getElem_append_right (by simp [HP.out])]
        simp
      have hfz := HK2.out.free k
      obtain ⟨g2, hg2⟩ : ∃ g2, g2 = wr.heap.size := ⟨_, rfl⟩
      rw [← hg2] at hrun hs2
      have HQ : Hid (Free w2 (some w.heap.size) (some w.heap.size) (some ⟨g2, 0, none⟩, l, cc)) := by
        refine ⟨?_, hcc, by show l.length ≤ _; omega⟩
        rcases hs2 with h0 | ⟨b', off', hA, hb', hc'⟩
        · exact .inl h0
        · injection hA with hA
          injection hA with e1 e2 _
          subst e1 e2
          exact .inr ⟨g2, 0, rfl, hb', (by intro e; injection e; omega), (by intro e; injection e; omega), hc'⟩
      have HE : Hid (∀ q ∈ ps ++ [((some ⟨g2, 0, none⟩, l, cc) : Piece)], Free (w2.setCell ⟨w.heap.size, k, none⟩ (.slice (some ⟨g2, 0, none⟩) l.length cc)) (some w.heap.size) (some w.heap.size) q) := by
        have hgr : w2.grownBy (w2.setCell ⟨w.heap.size, k, none⟩ (.slice (some ⟨g2, 0, none⟩) l.length cc)) (some w.heap.size) := only_setCell (World.grownBy.refl w2 _) k _
        intro q hq
        rcases List.mem_append.1 hq with hq | hq
        · exact ((HF.out q hq).turn (only_of_below hb2 none) (.inl rfl) (.inl rfl) (.inl rfl)).turn hgr (.inr (.inl rfl)) (.inl rfl) (.inl rfl)
        · simp at hq
          subst hq
          exact HQ.out.turn hgr (.inr (.inl rfl)) (.inl rfl) (.inl rfl)
      have HR : Hid (Blk (w2.setCell ⟨w.heap.size, k, none⟩ (.slice (some ⟨g2, 0, none⟩) l.length cc)) w.heap.size ((ps ++ [((some ⟨g2, 0, none⟩, l, cc) : Piece)]).map pv ++ List.replicate (ts.length - (k + 1)) (.slice none 0 0)) 23) := by
        have h := HK2.out.set k (pv (some ⟨g2, 0, none⟩, l, cc))
        rw [tx_set HP.out hlt] at h
        exact h
      have HB2 : Hid (Below w.heap.size w (w2.setCell ⟨w.heap.size, k, none⟩ (.slice (some ⟨g2, 0, none⟩) l.length cc))) := (hop BW.out hb2).setCell (Nat.le_refl _) _
      clear hs2 hb2 HK HK2 HF HQ hg2 hz2
      generalize (⟨l.toArray⟩ : ByteArray) = tl at *
      go_wp2_with fail
      go_roundw
      case rel => exact ⟨k + 1, ps ++ [(some ⟨g2, 0, none⟩, l, cc)], by omega, by go_num, by rw [List.length_append, HP.out]; rfl, HT.out _ rfl, HR.out, HE.out, HB2.out⟩
      case measure => simp [intOf]; omega
    · obtain rfl : k = ts.length := by omega
      have hall : bytesOf ps = ts := by rw [HO.out, List.take_length]
      have HA := Lib.hid hall
      have HV := Lib.hid (TX.shown HK.out HF.out)
      clear hall HK HF
      have HC : Hid (Calls Try.prog 15 #[.slice (some ⟨w.heap.size, 0, none⟩) ts.length ts.length] wr fun e w' => ∃ A' n' c', e = .returned (.slice A' n' c') ∧ MadeN 5 wr (encL ts) A' n' c' w') := by
        have h := encode_any (some ⟨w.heap.size, 0, none⟩) ps ts.length wr HV.out (by rw [HP.out]; omega) (by rw [HA.out]; exact HB.out)
        rw [HP.out, HA.out] at h
        exact h
      go_wp2_with fail
      refine HC.out.mono ?_
      rintro e w3 ⟨A3, n3, c3, rfl, hm3⟩
      have H3 := Lib.hid hm3
      clear hm3
      go_wp2_with fail
      go_ret
      exact ⟨A3, n3, c3, rfl, H3.out.1, H3.out.2.at_len.2, (own_len H3.out.2.1).2, hop BW.out H3.out.2.2⟩
end Go.Proofs.Ytooooppgdchjaaa
