/-
  Plain mathematics of layer 7: a disk that holds a log; what Append and Begin make of it, with and without a crash. No program is run here. No conditions.
-/
import Derived.Test.YtkbjhnlihnakkaaLgLog
namespace Go.Proofs.Ytkbjhnlihnakkaa
open Go.RowKit

theorem bytes_all {s : Dsk} {n : Nat} (hM : s.M = []) : s.bytes 0 n = (s.K.take n).flatten := by
  unfold Dsk.bytes
  rw [view_calm hM, List.drop_zero]
theorem splice_take {α : Type} {K R : List α} {n i : Nat} (h : i + R.length ≤ n) (hn : n ≤ K.length) : (splice K i R).take n = splice (K.take n) i R := by
  unfold splice
  have l1 : (K.take i).length = i := by rw [List.length_take]; omega
  rw [List.take_append, l1, List.take_append, List.take_of_length_le (by rw [l1]; omega : (K.take i).length ≤ n), List.take_of_length_le (by omega : R.length ≤ n - i), List.take_take, Nat.min_eq_left (by omega), List.drop_take, Nat.sub_sub]
theorem ahead_take {K : List (List UInt8)} {n pos : Nat} (h : pos / 64 < n) : aheadL (K.take n) 0 pos = aheadL K 0 pos := by
  unfold aheadL
  rw [Nat.zero_add, List.getD_eq_getElem?_getD, List.getD_eq_getElem?_getD, List.getElem?_take_of_lt h]
theorem take_rows {K : List (List UInt8)} {n : Nat} (h : ∀ r ∈ K, r.length = 64) : ∀ r ∈ K.take n, r.length = 64 := fun r hr => h r (List.mem_of_mem_take hr)
/-- the disk's first blocks hold the log of a turn; nothing is in the memory -/
structure LogHas (s : Dsk) (n : Nat) (g : Int) (ds : List (List UInt8)) : Prop where
  ok : s.Ok
  len : n ≤ s.K.length
  calm : s.M = []
  at_ : LogAt g 0 ds (s.K.take n).flatten
  some : ds ≠ []
  g1 : 1 ≤ g
  g2 : g ≤ 1152921504606846976
/-- behind a frame that is laid -/
def LaidAt (K K' : List (List UInt8)) (pos : Nat) (code : List UInt8) : Prop := ∃ t, K'.flatten = K.flatten.take pos ++ (code ++ t) ∧ (t = [] ∨ t.head? = Option.some 0)
def SameUpTo (K K' : List (List UInt8)) (pos : Nat) : Prop := K'.length = K.length ∧ K'.flatten.take (64 * (pos / 64 + 1)) = K.flatten.take (64 * (pos / 64 + 1)) ∧ ∃ t, K'.flatten = K.flatten.take pos ++ t ∧ t.head? = (K.flatten.drop pos).head?
theorem next_down {l : Lg} {s : Dsk} {d : List UInt8} (h : l.down = true) : l.err s d = 5 ∧ l.dsk s d = s ∧ l.next s d = l := by
  unfold Lg.err Lg.dsk Lg.next
  rw [h]
  exact ⟨rfl, rfl, rfl⟩
theorem next_full {l : Lg} {s : Dsk} {d : List UInt8} (hd : l.down = false) (h : l.full d = true) : l.err s d = 4 ∧ l.dsk s d = s ∧ l.next s d = l := by
  unfold Lg.err Lg.dsk Lg.next
  rw [hd, h]
  exact ⟨rfl, rfl, rfl⟩
theorem crash_len (s : Dsk) (p : Nat → Bool) : (s.crash p).K.length = s.K.length := kept_length _ _ _ _
theorem next_laid {l : Lg} {s : Dsk} {d : List UInt8} (ok : s.Ok) (hM : s.M = []) (hf : l.f = 0) (hfit : l.Fits s) (hd : l.down = false) (h : l.full d = false) :
    (l.err s d = 0 → (l.dsk s d).M = [] ∧ LaidAt (s.K.take l.blocks) ((l.dsk s d).K.take l.blocks) l.fin (l.code d) ∧ l.next s d = l.put d) ∧
    (l.err s d ≠ 0 → l.err s d = 5 ∧ (l.next s d).down = true ∧ ∀ pick, LaidAt (s.K.take l.blocks) (((l.dsk s d).crash pick).K.take l.blocks) l.fin (l.code d) ∨ SameUpTo (s.K.take l.blocks) (((l.dsk s d).crash pick).K.take l.blocks) l.fin) ∧
    (s.Quiet → l.err s d = 0 ∧ (l.dsk s d).Quiet ∧ s.calls < (l.dsk s d).calls) := by
  obtain ⟨p1, p2, p3, p4⟩ := Lg.full_false h
  obtain ⟨m, r1, r2, _⟩ := Lg.rows hfit ok h
  have e1 : l.err s d = s.layErr (l.laid s d) (l.fin / 64) := by unfold Lg.err; rw [hd, h, hf, Nat.zero_add]; rfl
  have e2 : l.dsk s d = s.lay (l.laid s d) (l.fin / 64) := by unfold Lg.dsk; rw [hd, h, hf, Nat.zero_add]; rfl
  have e3 : l.next s d = if l.err s d = 0 then l.put d else { l with down := true } := by
    unfold Lg.next
    rw [hd, h]; rfl
  have hroom : l.room = l.blocks * 64 - l.fin := rfl
  have hfin := hfit.fin
  have harea := hfit.area
  rw [hf, Nat.zero_add] at harea
  have hpos : l.fin / 64 + (m + 1) ≤ s.K.length := by omega
  have htl : (s.K.take l.blocks).length = l.blocks := by rw [List.length_take]; omega
  have hB : l.laid s d = laidL (s.K.take l.blocks) 0 (s.K.take l.blocks).length l.fin (l.code d) := by
    unfold Lg.laid laidL
    rw [view_calm hM, hf, htl, ahead_take (by omega)]
  have hrl : (rowsOf (l.laid s d)).length = m + 1 := by rw [rowsOf_length, r1]; omega
  have hlaid : LaidAt (s.K.take l.blocks) ((splice s.K (l.fin / 64) (rowsOf (l.laid s d))).take l.blocks) l.fin (l.code d) := by
    rw [splice_take (by rw [hrl]; omega) harea, hB]
    exact laid_bytes (take_rows ok.len) p1 (by rw [htl]; omega)
  have okl : (s.lay (l.laid s d) (l.fin / 64)).Ok := ok.lay r1 hpos
  rw [e3, e1, e2]
  refine ⟨fun he => ?_, fun he => ?_, fun hq => ?_⟩
  · obtain ⟨h1, h2⟩ := Dsk.lay_done hM r1 hpos he
    rw [h2, if_pos he]
    exact ⟨h1, hlaid, rfl⟩
  · obtain ⟨h1, _, h3⟩ := Dsk.lay_not hM r1 hpos he
    refine ⟨h1, by rw [if_neg he], fun pick => ?_⟩
    rcases h3 pick with h4 | ⟨h4, h5⟩
    · rw [h4]; exact .inl hlaid
    · have hl4 : (((s.lay (l.laid s d) (l.fin / 64)).crash pick).K.take l.blocks).length = (s.K.take l.blocks).length := by rw [List.length_take, List.length_take, h4]
      have hk := same_bytes (K := s.K.take l.blocks) (K' := ((s.lay (l.laid s d) (l.fin / 64)).crash pick).K.take l.blocks) (pos := l.fin) (take_rows ok.len) (take_rows (okl.crash pick).len) hl4 (by rw [htl]; omega)
        (by rw [List.take_take, List.take_take, Nat.min_eq_left (by omega)]; exact h5)
      exact .inr ⟨hl4, hk⟩
  · obtain ⟨h1, h2, h3⟩ := hq.lay (i := l.fin / 64) r1
    exact ⟨h2, h1, h3⟩
theorem LogHas.bytes {s : Dsk} {n : Nat} {g : Int} {ds : List (List UInt8)} (h : LogHas s n g ds) : (s.K.take n).flatten.length = n * 64 := by
  rw [flat_length (m := 64) _ (take_rows h.ok.len), List.length_take, Nat.min_eq_left h.len]
theorem found_fits {s : Dsk} {n : Nat} {g : Int} {ds : List (List UInt8)} (h : LogHas s n g ds) (hn : 1 ≤ n) : (Lg.found 0 n g ds).Fits s := by
  have hl := h.bytes
  have ht := (logAt_take h.at_).2.1
  have hlen := h.len
  exact ⟨hn, by show 0 + n ≤ _; omega, by show (framesL g 0 ds).length ≤ n * 64; rw [hl] at ht; exact ht, framesL_seq g ds 0, h.g1, h.g2⟩
theorem found_put {n : Nat} {g : Int} {ds : List (List UInt8)} {d : List UInt8} (h : (Lg.found 0 n g ds).code d = frameL g (ds.length : Int) d) : (Lg.found 0 n g ds).put d = Lg.found 0 n g (ds ++ [d]) := by
  unfold Lg.put
  rw [h]
  unfold Lg.found
  rw [framesL_append, Nat.zero_add, List.length_append, List.length_append]
  simp only [framesL, List.append_nil, List.length_cons, List.length_nil]
theorem laid_log {s : Dsk} {K' : List (List UInt8)} {n : Nat} {g : Int} {ds : List (List UInt8)} {d : List UInt8} (h : LogHas s n g ds) (hm : mayB g (ds.length : Int) d.length = true) (hl : LaidAt (s.K.take n) K' (framesL g 0 ds).length (frameL g (ds.length : Int) d)) : LogAt g 0 (ds ++ [d]) K'.flatten := by
  obtain ⟨t, e, ht⟩ := hl
  rw [(logAt_take h.at_).1] at e
  rw [e]
  refine logAt_swap h.at_ ?_
  rw [Nat.zero_add]
  exact ⟨hm, t, rfl, ht⟩
theorem same_log {s : Dsk} {K' : List (List UInt8)} {n : Nat} {g : Int} {ds : List (List UInt8)} (h : LogHas s n g ds) (hp : (framesL g 0 ds).length < (s.K.take n).flatten.length) (hl : SameUpTo (s.K.take n) K' (framesL g 0 ds).length) : LogAt g 0 ds K'.flatten := by
  obtain ⟨_, _, t, e, ht⟩ := hl
  obtain ⟨h1, h2, h3⟩ := logAt_take h.at_
  rw [h1] at e
  have := logAt_swap (es := []) (t := t) h.at_ (by
    right
    rw [ht]
    rcases h3 with h3 | h3
    · have := congrArg List.length h3
      rw [List.length_drop, List.length_nil] at this
      omega
    · exact h3)
  rw [List.append_nil] at this
  rw [e]; exact this
/-- what Append makes of a log that a disk holds -/
theorem LogHas.append {s : Dsk} {n : Nat} {g : Int} {ds : List (List UInt8)} (h : LogHas s n g ds) (hn : 1 ≤ n) (d : List UInt8) :
    ((Lg.found 0 n g ds).err s d = 4 ∧ (Lg.found 0 n g ds).dsk s d = s ∧ (Lg.found 0 n g ds).next s d = Lg.found 0 n g ds ∧ (Lg.found 0 n g ds).full d = true) ∨
    ((Lg.found 0 n g ds).err s d = 0 ∧ LogHas ((Lg.found 0 n g ds).dsk s d) n g (ds ++ [d]) ∧ (Lg.found 0 n g ds).next s d = Lg.found 0 n g (ds ++ [d]) ∧ (s.Quiet → ((Lg.found 0 n g ds).dsk s d).Quiet ∧ s.calls < ((Lg.found 0 n g ds).dsk s d).calls) ∧ (Lg.found 0 n g ds).full d = false) ∨
    ((Lg.found 0 n g ds).err s d = 5 ∧ ((Lg.found 0 n g ds).next s d).down = true ∧ ¬ s.Quiet ∧ ∀ pick, LogHas (((Lg.found 0 n g ds).dsk s d).crash pick) n g ds ∨ LogHas (((Lg.found 0 n g ds).dsk s d).crash pick) n g (ds ++ [d])) := by
  have hfit := found_fits h hn
  have hnx := hfit.next (d := d)
  by_cases hfull : (Lg.found 0 n g ds).full d = true
  · exact .inl ⟨(next_full rfl hfull).1, (next_full rfl hfull).2.1, (next_full rfl hfull).2.2, hfull⟩
  have hfull : (Lg.found 0 n g ds).full d = false := by simpa using hfull
  obtain ⟨p1, p2, p3, p4⟩ := Lg.full_false hfull
  obtain ⟨h1, h2, h3⟩ := next_laid h.ok h.calm rfl hfit rfl hfull
  have hc : (Lg.found 0 n g ds).code d = frameL g (ds.length : Int) d := p4
  have hpos : (framesL g 0 ds).length < (s.K.take n).flatten.length := by
    have := hfit.fin
    have e1 : (Lg.found 0 n g ds).room = n * 64 - (framesL g 0 ds).length := rfl
    rw [h.bytes]
    omega
  have hne : ds ++ [d] ≠ [] := by simp
  by_cases he : (Lg.found 0 n g ds).err s d = 0
  · obtain ⟨q1, q2, q3⟩ := h1 he
    rw [hc] at q2
    exact .inr (.inl ⟨he, ⟨hnx.2.1 h.ok, by rw [hnx.2.2]; exact h.len, q1, laid_log h p3 q2, hne, h.g1, h.g2⟩, by rw [q3, found_put hc], fun hq => (h3 hq).2, hfull⟩)
  · obtain ⟨q1, q2, q3⟩ := h2 he
    refine .inr (.inr ⟨q1, q2, fun hq => he (h3 hq).1, fun pick => ?_⟩)
    have okc := (hnx.2.1 h.ok).crash pick
    have lenc : n ≤ (((Lg.found 0 n g ds).dsk s d).crash pick).K.length := by rw [crash_len, hnx.2.2]; exact h.len
    rcases q3 pick with q | q
    · rw [hc] at q
      exact .inr ⟨okc, lenc, rfl, laid_log h p3 q, hne, h.g1, h.g2⟩
    · exact .inl ⟨okc, lenc, rfl, same_log h hpos q, h.some, h.g1, h.g2⟩
/-- what Begin makes of any disk with nothing in its memory -/
theorem begin_new {s : Dsk} {n : Nat} {g : Int} (ok : s.Ok) (hM : s.M = []) (hK : n ≤ s.K.length) (hn : 1 ≤ n) (g1 : 1 ≤ g) (g2 : g ≤ 1152921504606846976) (d : List UInt8) :
    ((Lg.new 0 n g).err s d = 4 ∧ (Lg.new 0 n g).dsk s d = s ∧ (Lg.new 0 n g).full d = true) ∨
    ((Lg.new 0 n g).err s d = 0 ∧ LogHas ((Lg.new 0 n g).dsk s d) n g [d] ∧ (Lg.new 0 n g).next s d = Lg.found 0 n g [d] ∧ (s.Quiet → ((Lg.new 0 n g).dsk s d).Quiet) ∧ (Lg.new 0 n g).full d = false) ∨
    ((Lg.new 0 n g).err s d = 5 ∧ ¬ s.Quiet ∧ ∀ pick, LogHas (((Lg.new 0 n g).dsk s d).crash pick) n g [d] ∨ SameUpTo (s.K.take n) ((((Lg.new 0 n g).dsk s d).crash pick).K.take n) 0) := by
  have hfit : (Lg.new 0 n g).Fits s := ⟨hn, by show 0 + n ≤ _; omega, Nat.zero_le _, Nat.le_refl _, g1, g2⟩
  have hnx := hfit.next (d := d)
  by_cases hfull : (Lg.new 0 n g).full d = true
  · exact .inl ⟨(next_full rfl hfull).1, (next_full rfl hfull).2.1, hfull⟩
  have hfull : (Lg.new 0 n g).full d = false := by simpa using hfull
  obtain ⟨p1, p2, p3, p4⟩ := Lg.full_false hfull
  obtain ⟨h1, h2, h3⟩ := next_laid ok hM rfl hfit rfl hfull
  have hc : (Lg.new 0 n g).code d = frameL g ((0 : Nat) : Int) d := p4
  have hlog : ∀ K', LaidAt (s.K.take n) K' 0 (frameL g ((0 : Nat) : Int) d) → LogAt g 0 [d] K'.flatten := fun K' ⟨t, e, ht⟩ => by
    rw [List.take_zero, List.nil_append] at e
    exact ⟨p3, t, e, ht⟩
  have hput : (Lg.new 0 n g).put d = Lg.found 0 n g [d] := by
    unfold Lg.put
    rw [hc]
    simp [Lg.new, Lg.found, framesL]
  have hfin0 : (Lg.new 0 n g).fin = 0 := rfl
  rw [hfin0] at h1 h2
  by_cases he : (Lg.new 0 n g).err s d = 0
  · obtain ⟨q1, q2, q3⟩ := h1 he
    rw [hc] at q2
    exact .inr (.inl ⟨he, ⟨hnx.2.1 ok, by rw [hnx.2.2]; exact hK, q1, hlog _ q2, by simp, g1, g2⟩, by rw [q3, hput], fun hq => (h3 hq).2.1, hfull⟩)
  · obtain ⟨q1, q2, q3⟩ := h2 he
    refine .inr (.inr ⟨q1, fun hq => he (h3 hq).1, fun pick => ?_⟩)
    have okc := (hnx.2.1 ok).crash pick
    have lenc : n ≤ (((Lg.new 0 n g).dsk s d).crash pick).K.length := by rw [crash_len, hnx.2.2]; exact hK
    rcases q3 pick with q | q
    · rw [hc] at q
      exact .inl ⟨okc, lenc, rfl, hlog _ q, by simp, g1, g2⟩
    · exact .inr q
/-- what Open finds -/
theorem LogHas.found {s : Dsk} {n : Nat} {g : Int} {ds : List (List UInt8)} (h : LogHas s n g ds) : openL (s.bytes 0 n) = Option.some (g, ds) := by
  rw [bytes_all h.calm]
  have hat := h.at_
  have hs := h.some
  cases ds with
  | nil => exact absurd rfl hs
  | cons d ds => exact open_at hat h.g1
theorem LogHas.crash {s : Dsk} {n : Nat} {g : Int} {ds : List (List UInt8)} (h : LogHas s n g ds) (p : Nat → Bool) : LogHas (s.crash p) n g ds ∧ (s.crash p).Quiet := by
  have hK : (s.crash p).K = s.K := by
    show kept _ s.M s.K s.M.length = s.K
    rw [h.calm]; rfl
  exact ⟨⟨h.ok.crash p, by rw [hK]; exact h.len, rfl, by rw [hK]; exact h.at_, h.some, h.g1, h.g2⟩, rfl, rfl⟩
theorem LogHas.arm {s : Dsk} {n : Nat} {g : Int} {ds : List (List UInt8)} (h : LogHas s n g ds) (z : Int) : LogHas (s.arm z) n g ds := by
  have hKM : (s.arm z).K = s.K ∧ (s.arm z).M = s.M := by unfold Dsk.arm; split <;> exact ⟨rfl, rfl⟩
  exact ⟨h.ok.arm z, by rw [hKM.1]; exact h.len, by rw [hKM.2]; exact h.calm, by rw [hKM.1]; exact h.at_, h.some, h.g1, h.g2⟩
end Go.Proofs.Ytkbjhnlihnakkaa
