/-
  Plain mathematics of layer 7: a disk that holds a log; what Append and Begin make of it, with and without a crash. No program is run here. No conditions.
  What the statements' own questions about lists of records come to: short, texts. No conditions but that lengths are ints.
  The chapter's example: each statement of this layer asks it first. No conditions.
-/
import Derived.Test.YtkbjhnlihnakkaaLgBegin
import Derived.Test.YtkbjhnlihnakkaaSeenAll
import Derived.Test.YtkbjhnlihnakkaaText
import Derived.BigQuiet
import Derived.Deep.QuietTactic
import Derived.Lib.Hide
import Derived.Test.YtkbjhnlihnakkaaLgOpen
import Derived.Lib.SlBytesConst
namespace Go.Proofs.Ytkbjhnlihnakkaa
open Go.RowKit

theorem bytes_all {s : Dsk} {n : Nat} (hM : s.M = []) : s.bytes 0 n = (s.K.take n).flatten := by
  unfold Dsk.bytes
  rw [view_calm hM, List.drop_zero]
theorem splice_take {α : Type} {K R : List α} {n i : Nat} (h : i + R.length ≤ n) (hn : n ≤ K.length) : (splice K i R).take n = splice (K.take n) i R := by
  unfold splice
  have l1 : (K.take i).length = i := by rw [List.length_take]; omega
  rw [List.take_append, l1, List.take_append, List.take_of_length_le (by rw [l1]; omega : (K.take i).length ≤ n), List.take_of_length_le (by omega : R.length ≤ n - i), List.take_take, Nat.min_eq_left (by omega), List.drop_take, Nat.sub_sub]
theorem ahead_take {K : List (List UInt8)} {n pos : Nat} (h : pos / 64 < n) : aheadL (K.take n) 0 pos = aheadL K 0 pos := by
  unfold aheadL
  rw [Nat.zero_add, List.getD_eq_getElem?_getD, List.getD_eq_getElem?_getD, List.getElem?_take_of_lt h]
theorem take_rows {K : List (List UInt8)} {n : Nat} (h : ∀ r ∈ K, r.length = 64) : ∀ r ∈ K.take n, r.length = 64 := fun r hr => h r (List.mem_of_mem_take hr)
/-- the disk's first blocks hold the log of a turn; nothing is in the memory -/
structure LogHas (s : Dsk) (n : Nat) (g : Int) (ds : List (List UInt8)) : Prop where
  ok : s.Ok
  len : n ≤ s.K.length
  calm : s.M = []
  at_ : LogAt g 0 ds (s.K.take n).flatten
  some : ds ≠ []
  g1 : 1 ≤ g
  g2 : g ≤ 1152921504606846976
/-- behind a frame that is laid -/
def LaidAt (K K' : List (List UInt8)) (pos : Nat) (code : List UInt8) : Prop := ∃ t, K'.flatten = K.flatten.take pos ++ (code ++ t) ∧ (t = [] ∨ t.head? = Option.some 0)
def SameUpTo (K K' : List (List UInt8)) (pos : Nat) : Prop := K'.length = K.length ∧ K'.flatten.take (64 * (pos / 64 + 1)) = K.flatten.take (64 * (pos / 64 + 1)) ∧ ∃ t, K'.flatten = K.flatten.take pos ++ t ∧ t.head? = (K.flatten.drop pos).head?
theorem next_down {l : Lg} {s : Dsk} {d : List UInt8} (h : l.down = true) : l.err s d = 5 ∧ l.dsk s d = s ∧ l.next s d = l := by
  unfold Lg.err Lg.dsk Lg.next
  rw [h]
  exact ⟨rfl, rfl, rfl⟩
theorem next_full {l : Lg} {s : Dsk} {d : List UInt8} (hd : l.down = false) (h : l.full d = true) : l.err s d = 4 ∧ l.dsk s d = s ∧ l.next s d = l := by
  unfold Lg.err Lg.dsk Lg.next
  rw [hd, h]
  exact ⟨rfl, rfl, rfl⟩
theorem crash_len (s : Dsk) (p : Nat → Bool) : (s.crash p).K.length = s.K.length := kept_length _ _ _ _
theorem next_laid {l : Lg} {s : Dsk} {d : List UInt8} (ok : s.Ok) (hM : s.M = []) (hf : l.f = 0) (hfit : l.Fits s) (hd : l.down = false) (h : l.full d = false) :
    (l.err s d = 0 → (l.dsk s d).M = [] ∧ LaidAt (s.K.take l.blocks) ((l.dsk s d).K.take l.blocks) l.fin (l.code d) ∧ l.next s d = l.put d) ∧
    (l.err s d ≠ 0 → l.err s d = 5 ∧ (l.next s d).down = true ∧ ∀ pick, LaidAt (s.K.take l.blocks) (((l.dsk s d).crash pick).K.take l.blocks) l.fin (l.code d) ∨ SameUpTo (s.K.take l.blocks) (((l.dsk s d).crash pick).K.take l.blocks) l.fin) ∧
    (s.Quiet → l.err s d = 0 ∧ (l.dsk s d).Quiet ∧ s.calls < (l.dsk s d).calls) := by
  obtain ⟨p1, p2, p3, p4⟩ := Lg.full_false h
  obtain ⟨m, r1, r2, _⟩ := Lg.rows hfit ok h
  have e1 : l.err s d = s.layErr (l.laid s d) (l.fin / 64) := by unfold Lg.err; rw [hd, h, hf, Nat.zero_add]; rfl
  have e2 : l.dsk s d = s.lay (l.laid s d) (l.fin / 64) := by unfold Lg.dsk; rw [hd, h, hf, Nat.zero_add]; rfl
  have e3 : l.next s d = if l.err s d = 0 then l.put d else { l with down := true } := by
    unfold Lg.next
    rw [hd, h]; rfl
  have hroom : l.room = l.blocks * 64 - l.fin := rfl
  have hfin := hfit.fin
  have harea := hfit.area
  rw [hf, Nat.zero_add] at harea
  have hpos : l.fin / 64 + (m + 1) ≤ s.K.length := by omega
  have htl : (s.K.take l.blocks).length = l.blocks := by rw [List.length_take]; omega
  have hB : l.laid s d = laidL (s.K.take l.blocks) 0 (s.K.take l.blocks).length l.fin (l.code d) := by
    unfold Lg.laid laidL
    rw [view_calm hM, hf, htl, ahead_take (by omega)]
  have hrl : (rowsOf (l.laid s d)).length = m + 1 := by rw [rowsOf_length, r1]; omega
  have hlaid : LaidAt (s.K.take l.blocks) ((splice s.K (l.fin / 64) (rowsOf (l.laid s d))).take l.blocks) l.fin (l.code d) := by
    rw [splice_take (by rw [hrl]; omega) harea, hB]
    exact laid_bytes (take_rows ok.len) p1 (by rw [htl]; omega)
  have okl : (s.lay (l.laid s d) (l.fin / 64)).Ok := ok.lay r1 hpos
  rw [e3, e1, e2]
  refine ⟨fun he => ?_, fun he => ?_, fun hq => ?_⟩
  · obtain ⟨h1, h2⟩ := Dsk.lay_done hM r1 hpos he
    rw [h2, if_pos he]
    exact ⟨h1, hlaid, rfl⟩
  · obtain ⟨h1, _, h3⟩ := Dsk.lay_not hM r1 hpos he
    refine ⟨h1, by rw [if_neg he], fun pick => ?_⟩
    rcases h3 pick with h4 | ⟨h4, h5⟩
    · rw [h4]; exact .inl hlaid
    · have hl4 : (((s.lay (l.laid s d) (l.fin / 64)).crash pick).K.take l.blocks).length = (s.K.take l.blocks).length := by rw [List.length_take, List.length_take, h4]
      have hk := same_bytes (K := s.K.take l.blocks) (K' := ((s.lay (l.laid s d) (l.fin / 64)).crash pick).K.take l.blocks) (pos := l.fin) (take_rows ok.len) (take_rows (okl.crash pick).len) hl4 (by rw [htl]; omega)
        (by rw [List.take_take, List.take_take, Nat.min_eq_left (by omega)]; exact h5)
      exact .inr ⟨hl4, hk⟩
  · obtain ⟨h1, h2, h3⟩ := hq.lay (i := l.fin / 64) r1
    exact ⟨h2, h1, h3⟩
theorem LogHas.bytes {s : Dsk} {n : Nat} {g : Int} {ds : List (List UInt8)} (h : LogHas s n g ds) : (s.K.take n).flatten.length = n * 64 := by
  rw [flat_length (m := 64) _ (take_rows h.ok.len), List.length_take, Nat.min_eq_left h.len]
theorem found_fits {s : Dsk} {n : Nat} {g : Int} {ds : List (List UInt8)} (h : LogHas s n g ds) (hn : 1 ≤ n) : (Lg.found 0 n g ds).Fits s := by
  have hl := h.bytes
  have ht := (logAt_take h.at_).2.1
  have hlen := h.len
  exact ⟨hn, by show 0 + n ≤ _; omega, by show (framesL g 0 ds).length ≤ n * 64; rw [hl] at ht; exact ht, framesL_seq g ds 0, h.g1, h.g2⟩
theorem found_put {n : Nat} {g : Int} {ds : List (List UInt8)} {d : List UInt8} (h : (Lg.found 0 n g ds).code d = frameL g (ds.length : Int) d) : (Lg.found 0 n g ds).put d = Lg.found 0 n g (ds ++ [d]) := by
  unfold Lg.put
  rw [h]
  unfold Lg.found
  rw [framesL_append, Nat.zero_add, List.length_append, List.length_append]
  simp only [framesL, List.append_nil, List.length_cons, List.length_nil]
theorem laid_log {s : Dsk} {K' : List (List UInt8)} {n : Nat} {g : Int} {ds : List (List UInt8)} {d : List UInt8} (h : LogHas s n g ds) (hm : mayB g (ds.length : Int) d.length = true) (hl : LaidAt (s.K.take n) K' (framesL g 0 ds).length (frameL g (ds.length : Int) d)) : LogAt g 0 (ds ++ [d]) K'.flatten := by
  obtain ⟨t, e, ht⟩ := hl
  rw [(logAt_take h.at_).1] at e
  rw [e]
  refine logAt_swap h.at_ ?_
  rw [Nat.zero_add]
  exact ⟨hm, t, rfl, ht⟩
theorem same_log {s : Dsk} {K' : List (List UInt8)} {n : Nat} {g : Int} {ds : List (List UInt8)} (h : LogHas s n g ds) (hp : (framesL g 0 ds).length < (s.K.take n).flatten.length) (hl : SameUpTo (s.K.take n) K' (framesL g 0 ds).length) : LogAt g 0 ds K'.flatten := by
  obtain ⟨_, _, t, e, ht⟩ := hl
  obtain ⟨h1, h2, h3⟩ := logAt_take h.at_
  rw [h1] at e
  have := logAt_swap (es := []) (t := t) h.at_ (by
    right
    rw [ht]
    rcases h3 with h3 | h3
    · have := congrArg List.length h3
      rw [List.length_drop, List.length_nil] at this
      omega
    · exact h3)
  rw [List.append_nil] at this
  rw [e]; exact this
/-- what Append makes of a log that a disk holds -/
theorem LogHas.append {s : Dsk} {n : Nat} {g : Int} {ds : List (List UInt8)} (h : LogHas s n g ds) (hn : 1 ≤ n) (d : List UInt8) :
    ((Lg.found 0 n g ds).err s d = 4 ∧ (Lg.found 0 n g ds).dsk s d = s ∧ (Lg.found 0 n g ds).next s d = Lg.found 0 n g ds ∧ (Lg.found 0 n g ds).full d = true) ∨
    ((Lg.found 0 n g ds).err s d = 0 ∧ LogHas ((Lg.found 0 n g ds).dsk s d) n g (ds ++ [d]) ∧ (Lg.found 0 n g ds).next s d = Lg.found 0 n g (ds ++ [d]) ∧ (s.Quiet → ((Lg.found 0 n g ds).dsk s d).Quiet ∧ s.calls < ((Lg.found 0 n g ds).dsk s d).calls) ∧ (Lg.found 0 n g ds).full d = false) ∨
    ((Lg.found 0 n g ds).err s d = 5 ∧ ((Lg.found 0 n g ds).next s d).down = true ∧ ¬ s.Quiet ∧ ∀ pick, LogHas (((Lg.found 0 n g ds).dsk s d).crash pick) n g ds ∨ LogHas (((Lg.found 0 n g ds).dsk s d).crash pick) n g (ds ++ [d])) := by
  have hfit := found_fits h hn
  have hnx := hfit.next (d := d)
  by_cases hfull : (Lg.found 0 n g ds).full d = true
  · exact .inl ⟨(next_full rfl hfull).1, (next_full rfl hfull).2.1, (next_full rfl hfull).2.2, hfull⟩
  have hfull : (Lg.found 0 n g ds).full d = false := by simpa using hfull
  obtain ⟨p1, p2, p3, p4⟩ := Lg.full_false hfull
  obtain ⟨h1, h2, h3⟩ := next_laid h.ok h.calm rfl hfit rfl hfull
  have hc : (Lg.found 0 n g ds).code d = frameL g (ds.length : Int) d := p4
  have hpos : (framesL g 0 ds).length < (s.K.take n).flatten.length := by
    have := hfit.fin
    have e1 : (Lg.found 0 n g ds).room = n * 64 - (framesL g 0 ds).length := rfl
    rw [h.bytes]
    omega
  have hne : ds ++ [d] ≠ [] := by simp
  by_cases he : (Lg.found 0 n g ds).err s d = 0
  · obtain ⟨q1, q2, q3⟩ := h1 he
    rw [hc] at q2
    exact .inr (.inl ⟨he, ⟨hnx.2.1 h.ok, by rw [hnx.2.2]; exact h.len, q1, laid_log h p3 q2, hne, h.g1, h.g2⟩, by rw [q3, found_put hc], fun hq => (h3 hq).2, hfull⟩)
  · obtain ⟨q1, q2, q3⟩ := h2 he
    refine .inr (.inr ⟨q1, q2, fun hq => he (h3 hq).1, fun pick => ?_⟩)
    have okc := (hnx.2.1 h.ok).crash pick
    have lenc : n ≤ (((Lg.found 0 n g ds).dsk s d).crash pick).K.length := by rw [crash_len, hnx.2.2]; exact h.len
    rcases q3 pick with q | q
    · rw [hc] at q
      exact .inr ⟨okc, lenc, rfl, laid_log h p3 q, hne, h.g1, h.g2⟩
    · exact .inl ⟨okc, lenc, rfl, same_log h hpos q, h.some, h.g1, h.g2⟩
/-- what Begin makes of any disk with nothing in its memory -/
theorem begin_new {s : Dsk} {n : Nat} {g : Int} (ok : s.Ok) (hM : s.M = []) (hK : n ≤ s.K.length) (hn : 1 ≤ n) (g1 : 1 ≤ g) (g2 : g ≤ 1152921504606846976) (d : List UInt8) :
    ((Lg.new 0 n g).err s d = 4 ∧ (Lg.new 0 n g).dsk s d = s ∧ (Lg.new 0 n g).full d = true) ∨
    ((Lg.new 0 n g).err s d = 0 ∧ LogHas ((Lg.new 0 n g).dsk s d) n g [d] ∧ (Lg.new 0 n g).next s d = Lg.found 0 n g [d] ∧ (s.Quiet → ((Lg.new 0 n g).dsk s d).Quiet) ∧ (Lg.new 0 n g).full d = false) ∨
    ((Lg.new 0 n g).err s d = 5 ∧ ¬ s.Quiet ∧ ∀ pick, LogHas (((Lg.new 0 n g).dsk s d).crash pick) n g [d] ∨ SameUpTo (s.K.take n) ((((Lg.new 0 n g).dsk s d).crash pick).K.take n) 0) := by
  have hfit : (Lg.new 0 n g).Fits s := ⟨hn, by show 0 + n ≤ _; omega, Nat.zero_le _, Nat.le_refl _, g1, g2⟩
  have hnx := hfit.next (d := d)
  by_cases hfull : (Lg.new 0 n g).full d = true
  · exact .inl ⟨(next_full rfl hfull).1, (next_full rfl hfull).2.1, hfull⟩
  have hfull : (Lg.new 0 n g).full d = false := by simpa using hfull
  obtain ⟨p1, p2, p3, p4⟩ := Lg.full_false hfull
  obtain ⟨h1, h2, h3⟩ := next_laid ok hM rfl hfit rfl hfull
  have hc : (Lg.new 0 n g).code d = frameL g ((0 : Nat) : Int) d := p4
  have hlog : ∀ K', LaidAt (s.K.take n) K' 0 (frameL g ((0 : Nat) : Int) d) → LogAt g 0 [d] K'.flatten := fun K' ⟨t, e, ht⟩ => by
    rw [List.take_zero, List.nil_append] at e
    exact ⟨p3, t, e, ht⟩
  have hput : (Lg.new 0 n g).put d = Lg.found 0 n g [d] := by
    unfold Lg.put
    rw [hc]
    simp [Lg.new, Lg.found, framesL]
  have hfin0 : (Lg.new 0 n g).fin = 0 := rfl
  rw [hfin0] at h1 h2
  by_cases he : (Lg.new 0 n g).err s d = 0
  · obtain ⟨q1, q2, q3⟩ := h1 he
    rw [hc] at q2
    exact .inr (.inl ⟨he, ⟨hnx.2.1 ok, by rw [hnx.2.2]; exact hK, q1, hlog _ q2, by simp, g1, g2⟩, by rw [q3, hput], fun hq => (h3 hq).2.1, hfull⟩)
  · obtain ⟨q1, q2, q3⟩ := h2 he
    refine .inr (.inr ⟨q1, fun hq => he (h3 hq).1, fun pick => ?_⟩)
    have okc := (hnx.2.1 ok).crash pick
    have lenc : n ≤ (((Lg.new 0 n g).dsk s d).crash pick).K.length := by rw [crash_len, hnx.2.2]; exact hK
    rcases q3 pick with q | q
    · rw [hc] at q
      exact .inl ⟨okc, lenc, rfl, hlog _ q, by simp, g1, g2⟩
    · exact .inr q
/-- what Open finds -/
theorem LogHas.found {s : Dsk} {n : Nat} {g : Int} {ds : List (List UInt8)} (h : LogHas s n g ds) : openL (s.bytes 0 n) = Option.some (g, ds) := by
  rw [bytes_all h.calm]
  have hat := h.at_
  have hs := h.some
  cases ds with
  | nil => exact absurd rfl hs
  | cons d ds => exact open_at hat h.g1
theorem LogHas.crash {s : Dsk} {n : Nat} {g : Int} {ds : List (List UInt8)} (h : LogHas s n g ds) (p : Nat → Bool) : LogHas (s.crash p) n g ds ∧ (s.crash p).Quiet := by
  have hK : (s.crash p).K = s.K := by
    show kept _ s.M s.K s.M.length = s.K
    rw [h.calm]; rfl
  exact ⟨⟨h.ok.crash p, by rw [hK]; exact h.len, rfl, by rw [hK]; exact h.at_, h.some, h.g1, h.g2⟩, rfl, rfl⟩
theorem LogHas.arm {s : Dsk} {n : Nat} {g : Int} {ds : List (List UInt8)} (h : LogHas s n g ds) (z : Int) : LogHas (s.arm z) n g ds := by
  have hKM : (s.arm z).K = s.K ∧ (s.arm z).M = s.M := by unfold Dsk.arm; split <;> exact ⟨rfl, rfl⟩
  exact ⟨h.ok.arm z, by rw [hKM.1]; exact h.len, by rw [hKM.2]; exact h.calm, by rw [hKM.1]; exact h.at_, h.some, h.g1, h.g2⟩
end Go.Proofs.Ytkbjhnlihnakkaa

namespace Go.Proofs.Ytkbjhnlihnakkaa
open Go.RowKit

def shortB (ps : List Piece) : Bool := decide (ps.length ≤ 40 ∧ ∀ q ∈ ps, q.2.1.length ≤ 1000)

set_option maxRecDepth 100000 in
set_option maxHeartbeats 400000 in
theorem short_any (A : Option Addr) (ps : List Piece) (c : Nat) (w : World) (hs : SeenAll w A ps) (hn : ps.length ≤ 9223372036854775807) :
    Calls Try.prog 27 #[.slice A ps.length c] w fun e w' => e = .returned (.bool (shortB ps)) ∧ w = w' := by
  have HS := Lib.hid hs
  clear hs
  by_cases hlong : 40 < ps.length
  · have HF : Hid (shortB ps = false) := by
      show decide _ = _
      rw [decide_eq_false_iff_not]
      rintro ⟨h, _⟩
      omega
    rw [HF.out]
    go_enter Try.func27, Try.ntmps27
    go_wp2_with fail
    go_ret
    exact ⟨rfl, rfl⟩
  · obtain ⟨v, hv⟩ : ∃ v, v = shortB ps := ⟨_, rfl⟩
    rw [← hv]
    have HV := Lib.hid hv
    clear hv
    go_enter Try.func27, Try.ntmps27
    go_wp2_with fail
    go_loopw [3] (fun i wr => ∃ k : Nat, k ≤ ps.length ∧ i = .int .i64 k ∧ Hid (∀ j (h : j < ps.length), j < k → ps[j].2.1.length ≤ 1000) ∧ w = wr) (fun i _ => ps.length - (intOf i).toNat)
    case atStart => exact ⟨0, by omega, rfl, Lib.hid (fun j _ h => by omega), rfl⟩
    case round =>
      obtain ⟨k, hk, rfl, hall, rfl⟩ := hrel
      by_cases hlt : k < ps.length
      · obtain ⟨b, off, hA, _, hc, _, _, hmk⟩ := HS.out.at_ k hlt
        subst hA
        obtain ⟨l, hl⟩ : ∃ l, l = ps[k].2.1.length := ⟨_, rfl⟩
        rw [← hl] at hc hmk
        have HL := Lib.hid hl
        clear hl
        generalize ps[k].1 = Ak at *
        generalize ps[k].2.2 = ck at *
        by_cases h1 : 1000 < l
        · have HF : Hid (v = false) := by
            show _ = _
            rw [HV.out]
            show decide _ = _
            rw [decide_eq_false_iff_not]
            rintro ⟨_, h⟩
            have := h ps[k] (List.getElem_mem hlt)
            have := HL.out
            omega
          go_wp2_with fail
          go_ret
          exact ⟨by rw [HF.out]; rfl, rfl⟩
        · go_wp2_with fail
          go_roundw
          case rel =>
            refine ⟨k + 1, by omega, by go_num, Lib.hid (fun j hj h => ?_), by first | rfl | trivial⟩
            by_cases hjk : j = k
            · subst hjk; have := HL.out; omega
            · exact hall.out j hj (by omega)
          case measure => simp [intOf]; omega
      · obtain rfl : k = ps.length := by omega
        have HF : Hid (v = true) := by
          show _ = _
          rw [HV.out]
          show decide _ = _
          rw [decide_eq_true_iff]
          refine ⟨by omega, fun q hq => ?_⟩
          obtain ⟨j, hj, rfl⟩ := List.getElem_of_mem hq
          exact hall.out j hj hj
        go_wp2_with fail
        go_ret
        exact ⟨by rw [HF.out]; rfl, rfl⟩

theorem getElem_bytesOf {ps : List Piece} {k : Nat} (h : k < ps.length) : (bytesOf ps)[k]'(by rw [length_bytesOf]; exact h) = ps[k].2.1 := by simp [bytesOf]

set_option maxRecDepth 100000 in
set_option maxHeartbeats 400000 in
theorem texts_same (A : Option Addr) (ps : List Piece) (n c : Nat) (B : Option Addr) (qs : List Piece) (m d : Nat) (w : World) (hn : ps.length = n) (hm : qs.length = m) (hs : SeenAll w A ps) (hs' : SeenAll w B qs) (hn' : n ≤ 9223372036854775807) (hm' : m ≤ 9223372036854775807) :
    Calls Try.prog 18 #[.slice A n c, .slice B m d] w fun e w' => e = .returned (.bool (decide (bytesOf ps = bytesOf qs))) ∧ Below w.heap.size w w' := by
  have HS := Lib.hid hs
  have HS' := Lib.hid hs'
  have HN := Lib.hid hn
  have HM := Lib.hid hm
  obtain ⟨v, hv⟩ : ∃ v, v = decide (bytesOf ps = bytesOf qs) := ⟨_, rfl⟩
  rw [← hv]
  have HV := Lib.hid hv
  clear hs hs' hn hm hv
  by_cases hnm : n = m
  · subst hnm
    go_enter Try.func18, Try.ntmps18
    go_wp2_with fail
    go_loopw [5] (fun i wr => ∃ k : Nat, k ≤ n ∧ i = .int .i64 k ∧ Hid ((bytesOf ps).take k = (bytesOf qs).take k) ∧ Hid (Below w.heap.size w wr)) (fun i _ => n - (intOf i).toNat)
    case atStart => exact ⟨0, by omega, rfl, Lib.hid rfl, Lib.hid (Below.refl _ _)⟩
    case round =>
      obtain ⟨k, hk, rfl, hall, BW⟩ := hrel
      by_cases hlt : k < n
      · have hk1 : k < ps.length := by rw [HN.out]; exact hlt
        have hk2 : k < qs.length := by rw [HM.out]; exact hlt
        obtain ⟨b, off, hA, hbw, hc, hsk, _, hmk⟩ := HS.out.at_ k hk1
        obtain ⟨b', off', hB, hbw', hc', hsk', _, hmk'⟩ := HS'.out.at_ k hk2
        subst hA hB
        have HC := Lib.hid ((BW.out.cell (p := ⟨b, off + k, none⟩) hbw).trans hc)
        have HC' := Lib.hid ((BW.out.cell (p := ⟨b', off' + k, none⟩) hbw').trans hc')
        have E1 : Hid ((bytesOf ps).take (k + 1) = (bytesOf ps).take k ++ [ps[k].2.1]) := by show _ = _; rw [List.take_succ_eq_append_getElem (by rw [length_bytesOf]; exact hk1), getElem_bytesOf hk1]
        have E2 : Hid ((bytesOf qs).take (k + 1) = (bytesOf qs).take k ++ [qs[k].2.1]) := by show _ = _; rw [List.take_succ_eq_append_getElem (by rw [length_bytesOf]; exact hk2), getElem_bytesOf hk2]
        have ED : Hid (ps[k].2.1 ≠ qs[k].2.1 → bytesOf ps ≠ bytesOf qs) := fun h e => h (by rw [← getElem_bytesOf hk1, ← getElem_bytesOf hk2]; simp [e])
        have hq := text_beq ps[k].2.1 qs[k].2.1
        have U1 := text_on hsk ps[k].2.1.length ps[k].2.2 rfl
        have U2 := text_on hsk' qs[k].2.1.length qs[k].2.2 rfl
        have c1 := HC.out
        have c2 := HC'.out
        clear hsk hsk' hc hc' HC HC'
        generalize ps[k].1 = Ak at *
        generalize qs[k].1 = Bk at *
        generalize ps[k].2.2 = ck at *
        generalize qs[k].2.2 = dk at *
        obtain ⟨x, hx⟩ : ∃ x, x = ps[k].2.1 := ⟨_, rfl⟩
        obtain ⟨y, hy⟩ : ∃ y, y = qs[k].2.1 := ⟨_, rfl⟩
        rw [← hx] at hq U1 E1 ED c1 hmk
        rw [← hy] at hq U2 E2 ED c2 hmk'
        clear hx hy
        by_cases hxy : x = y
        · rw [decide_eq_true hxy] at hq
          have ET : Hid ((bytesOf ps).take (k + 1) = (bytesOf qs).take (k + 1)) := by show _ = _; rw [E1.out, E2.out, hall.out, hxy]
          clear hxy ED
          generalize (⟨x.toArray⟩ : ByteArray) = tx at *
          generalize (⟨y.toArray⟩ : ByteArray) = ty at *
          have v1 := U1 _ BW.out.drew
          have v2 := U2 _ BW.out.drew
          go_wp2_with fail
          go_region
          go_wp2_with fail
          go_roundw
          case rel => exact ⟨k + 1, by omega, by go_num, ET, Lib.hid BW.out.drew⟩
          case measure => simp [intOf]; omega
        · rw [decide_eq_false hxy] at hq
          have EF : Hid (v = false) := by show _ = _; rw [HV.out, decide_eq_false (ED.out hxy)]
          clear hxy ED
          generalize (⟨x.toArray⟩ : ByteArray) = tx at *
          generalize (⟨y.toArray⟩ : ByteArray) = ty at *
          have v1 := U1 _ BW.out.drew
          have v2 := U2 _ BW.out.drew
          go_wp2_with fail
          go_region
          go_wp2_with fail
          go_ret
          exact ⟨by rw [EF.out]; rfl, BW.out.drew⟩
      · obtain rfl : k = n := by omega
        have EF : Hid (v = true) := by
          show _ = _
          rw [HV.out]
          apply decide_eq_true
          have h := hall.out
          rw [List.take_of_length_le (by rw [length_bytesOf, HN.out]; omega), List.take_of_length_le (by rw [length_bytesOf, HM.out]; omega)] at h
          exact h
        go_wp2_with fail
        go_ret
        exact ⟨by rw [EF.out]; rfl, BW.out⟩
  · have EF : Hid (v = false) := by
      show _ = _
      rw [HV.out]
      apply decide_eq_false
      intro e
      have h := congrArg List.length e
      rw [length_bytesOf, length_bytesOf, HN.out, HM.out] at h
      exact hnm h
    have hh : ((n : Int) != (m : Int)) = true := by rw [bne_iff_ne]; omega
    go_enter Try.func18, Try.ntmps18
    go_wp2_with fail
    go_ret
    exact ⟨by rw [EF.out]; rfl, Below.refl _ _⟩
end Go.Proofs.Ytkbjhnlihnakkaa

namespace Go.Proofs.Ytkbjhnlihnakkaa
open Go.RowKit

theorem code_small {g : Int} {k : Nat} {d : List UInt8} (h : d.length < 128) (hm : mayB g (k : Int) d.length = true) : (encF g (k : Int) d).length = d.length + 22 := by
  rw [encF_may hm, frameL_length, putL_small h]
  simp; omega
theorem awake_first : (Lg.new 0 2 1).full [97, 98] = false := by
  unfold Lg.full Lg.code
  have : (encF (Lg.new 0 2 1).gen ((Lg.new 0 2 1).seq : Int) [97, 98]).length = 24 := code_small (g := 1) (k := 0) (by decide) (by decide)
  rw [this]
  rfl
theorem awake_fin : (framesL 1 0 [[97, 98]]).length = 24 := by
  have h := code_small (g := 1) (k := 0) (d := [97, 98]) (by decide) (by decide)
  rw [encF_may (by decide)] at h
  simp only [framesL, List.append_nil]
  exact h
theorem awake_fin2 : (framesL 1 0 [[97, 98], [99]]).length = 47 := by
  have h := code_small (g := 1) (k := 0) (d := [97, 98]) (by decide) (by decide)
  have h2 := code_small (g := 1) (k := 1) (d := [99]) (by decide) (by decide)
  rw [encF_may (by decide)] at h h2
  simp only [framesL, List.append_nil, List.length_append, Nat.zero_add]
  rw [h, h2]
  rfl
theorem awake_second : (Lg.found 0 2 1 [[97, 98]]).full [99] = false := by
  unfold Lg.full Lg.code
  have h1 : (encF (Lg.found 0 2 1 [[97, 98]]).gen ((Lg.found 0 2 1 [[97, 98]]).seq : Int) [99]).length = 23 := code_small (g := 1) (k := 1) (by decide) (by decide)
  have h2 : (Lg.found 0 2 1 [[97, 98]]).room = 104 := by
    show 2 * 64 - (framesL 1 0 [[97, 98]]).length = 104
    rw [awake_fin]
  rw [h1, h2]
  rfl
/-- what the example comes to, as lists -/
theorem awake_lists : ∃ s1 s2, (Lg.new 0 2 1).err (Dsk.new 4) [97, 98] = 0 ∧ (Lg.new 0 2 1).dsk (Dsk.new 4) [97, 98] = s1 ∧ (Lg.new 0 2 1).next (Dsk.new 4) [97, 98] = Lg.found 0 2 1 [[97, 98]] ∧ s1.Few 10 ∧
    (Lg.found 0 2 1 [[97, 98]]).err s1 [99] = 0 ∧ (Lg.found 0 2 1 [[97, 98]]).dsk s1 [99] = s2 ∧ (Lg.found 0 2 1 [[97, 98]]).next s1 [99] = Lg.found 0 2 1 [[97, 98], [99]] ∧ openL (s2.bytes 0 2) = some (1, [[97, 98], [99]]) ∧ s2.off = false ∧ (Lg.found 0 2 1 [[97, 98]]).Fits s1 ∧ OnDisk s2 0 2 ∧ OnDisk (Dsk.new 4) 0 2 := by
  have ok0 : (Dsk.new 4).Ok := Dsk.new_ok (by decide)
  have hk0 : (Dsk.new 4).K.length = 4 := by simp [Dsk.new]
  have q0 : (Dsk.new 4).Quiet := ⟨rfl, rfl⟩
  have hf0 : (Lg.new 0 2 1).Fits (Dsk.new 4) := ⟨by decide, by show 0 + 2 ≤ _; omega, Nat.zero_le _, Nat.le_refl _, by decide, by decide⟩
  rcases begin_new ok0 rfl (n := 2) (by omega) (by decide) (g := 1) (by decide) (by decide) [97, 98] with h | ⟨e1, l1, n1, q1, _⟩ | ⟨_, h, _⟩
  · rw [awake_first] at h; exact absurd h.2.2 (by decide)
  · have q1 := q1 q0
    have hfew := Lg.few (d := [97, 98]) hf0 ok0 (Dsk.Few.new 4)
    have hcl : ((Lg.new 0 2 1).code [97, 98]).length = 24 := code_small (g := 1) (k := 0) (by decide) (by decide)
    rw [hcl] at hfew
    have hkl := (hf0.next (d := [97, 98])).2.2
    rcases l1.append (by decide) [99] with h | ⟨e2, l2, n2, q2, _⟩ | ⟨_, _, h, _⟩
    · rw [awake_second] at h; exact absurd h.2.2.2 (by decide)
    · have hkl2 := ((found_fits l1 (by decide)).next (d := [99])).2.2
      refine ⟨_, _, e1, rfl, n1, hfew.mono (by decide), e2, rfl, n2, l2.found, (q2 q1).1.1, found_fits l1 (by decide), ⟨by decide, by decide, ?_⟩, ⟨by decide, by decide, by rw [hk0]; decide⟩⟩
      rw [hkl2, hkl, hk0]; decide
    · exact absurd q1 h
  · exact absurd q0 h

set_option maxRecDepth 100000 in
set_option maxHeartbeats 2000000 in
theorem awake_any (w : World) : Calls Try.prog 8 #[] w fun e w' => e = .returned (.bool true) ∧ Below w.heap.size w w' := by
  obtain ⟨s1, s2, e1, d1, n1, f1, e2, d2, n2, o2, q2, t1, a2, a0⟩ := awake_lists
  have E1 := Lib.hid e1
  have D1 := Lib.hid d1
  have N1 := Lib.hid n1
  have F1 := Lib.hid f1
  have E2 := Lib.hid e2
  have D2 := Lib.hid d2
  have N2 := Lib.hid n2
  have O2 := Lib.hid o2
  have Q2 := Lib.hid q2
  have T1 := Lib.hid t1
  have A2 := Lib.hid a2
  have A0 := Lib.hid a0
  clear e1 d1 n1 f1 e2 d2 n2 o2 q2 t1 a2 a0
  go_enter Try.func8, Try.ntmps8
  go_wp2_with fail
  refine (new_any _ 4 (by decide) (by decide)).mono ?_
  rintro e w1 ⟨g, F, rfl, hd, hF, hb⟩
  have D := Lib.hid hd
  have HF := Lib.hid hF
  have B1 := Lib.hid hb
  clear hd hF hb
  have hcc := fun (C : Array Value) (n c : Nat) => Lib.run_convert_bytes_const (P := Try.prog) w1 22 5 C n c Try.underlying22 Try.underlying5
  have hal : Below w1.heap.size w1 (w1.alloc (.cells #[.int .u8 97, .int .u8 98] 5 (2, 3))) := (Below.refl _ _).alloc (Nat.le_refl _) _
  have HAL := Lib.hid hal
  have HS := Lib.hid (seen_mark w1 5 [97, 98] (2, 3))
  have D' := Lib.hid (D.out.still hal)
  clear hal
  go_wp2_with fail
  refine (begin_any _ g F (Dsk.new 4) 0 2 1 (some ⟨w1.heap.size, 0, none⟩) [97, 98] 2 2 0 D'.out HS.out rfl (by decide) (Dsk.Few.new 4) (by decide) (by decide) (by decide)).mono ?_
  rintro e w2 (⟨h, _⟩ | ⟨_, h, _⟩ | ⟨_, _, b, rfl, hbb, F2, h21, h22, h23, h24, h25⟩)
  · exact absurd ⟨A0.out, by decide, by decide⟩ h
  · exact absurd E1.out h
  have D2' : Hid (DiskAt w2 g F2 s1) := by show DiskAt _ _ _ _; rw [← D1.out]; exact h21
  have L2 : Hid (LogOn w2 g b F2 s1 (Lg.found 0 2 1 [[97, 98]])) := ⟨D2'.out, by rw [← N1.out]; exact h22, h23, T1.out⟩
  have hsz1 : w1.heap.size ≤ (w1.alloc (.cells #[.int .u8 97, .int .u8 98] 5 (2, 3))).heap.size := HAL.out.size
  have HF2 : Hid (∀ k, F2 k → w.heap.size ≤ k) := fun k hk => (h25 k hk).elim (fun h => HF.out k h) (fun h => Nat.le_trans B1.out.size (Nat.le_trans hsz1 h))
  have HBB : Hid (w.heap.size ≤ b) := Nat.le_trans B1.out.size (Nat.le_trans hsz1 hbb)
  have B2 : Hid (Below w.heap.size w w2) := h24.below (hop B1.out HAL.out) HF.out
  have hcc := fun (C : Array Value) (n c : Nat) => Lib.run_convert_bytes_const (P := Try.prog) w2 22 5 C n c Try.underlying22 Try.underlying5
  have hal : Below w2.heap.size w2 (w2.alloc (.cells #[.int .u8 99] 5 (1, 2))) := (Below.refl _ _).alloc (Nat.le_refl _) _
  have HAL2 := Lib.hid hal
  have HS2 := Lib.hid (seen_mark w2 5 [99] (1, 2))
  have L2' := Lib.hid (L2.out.still hal)
  clear h21 h22 h23 h24 h25 hbb hal hsz1 HS D' HAL D HF B1
  go_wp2_with fail
  refine (append_any _ g b F2 s1 _ (some ⟨w2.heap.size, 0, none⟩) [99] 1 1 10 L2'.out HS2.out rfl (by decide) F1.out (by decide)).mono ?_
  rintro e w3 ⟨rfl, F3, h31, h32, h33, h34, h35⟩
  rw [E2.out]
  have D3 : Hid (DiskAt w3 g F3 s2) := by show DiskAt _ _ _ _; rw [← D2.out]; exact h31
  have L3 : Hid (Blk w3 b (lgCells g (Lg.found 0 2 1 [[97, 98], [99]])) 74) := by show Blk _ _ _ _; rw [← N2.out]; exact h32
  have B3 : Hid (Below w.heap.size w w3) := h34.below (hop B2.out HAL2.out) (fun k hk => hk.elim (HF2.out k) (fun e => by rw [e]; exact HBB.out))
  clear h31 h32 h33 h34 h35 hcc HS2 L2' HAL2 L2 D2'
  go_wp2_with fail
  refine (open_any w3 g F3 s2 0 2 D3.out (by decide) (by decide)).mono ?_
  rintro e w4 (⟨h, _⟩ | ⟨_, h, _⟩ | ⟨_, _, h, _⟩ | ⟨_, _, gen, ds, hop4, b4, ps, v, rfl, hps, _, _, hrec, hb4⟩)
  · exact absurd A2.out h
  · rw [Q2.out] at h; cases h
  · have := O2.out
    change openL (s2.bytes 0 2) = none at h
    rw [h] at this; cases this
  have hgd : (gen, ds) = (1, [[97, 98], [99]]) := by
    change openL (s2.bytes 0 2) = some (gen, ds) at hop4
    rw [O2.out] at hop4
    injection hop4 with hop4
    exact hop4.symm
  injection hgd with hg1 hd1
  subst hg1 hd1
  obtain ⟨A4, c4, hv⟩ := hrec.form
  subst hv
  have hpl : ps.length = 2 := by rw [← length_bytesOf, hps]; rfl
  rw [hpl]
  have PS := Lib.hid hps
  have PL := Lib.hid hpl
  have SA := Lib.hid hrec.shown
  have L4 := Lib.hid (L3.out.below hb4 L3.out.lt)
  have B4 := Lib.hid (hop B3.out hb4)
  clear hop4 hps hrec hb4 hpl
  have hcc := fun (C : Array Value) (n c : Nat) => Lib.run_convert_bytes_const (P := Try.prog) w4 22 5 C n c Try.underlying22 Try.underlying5
  have hc2 : ∀ (O : Obj) (C : Array Value) (n c : Nat), (convert 22 22 (.slice (some ⟨w4.heap.size + 1, 0, none⟩) n c)).run Try.prog ((w4.alloc O).alloc (.cells C 5)) = .ok (.slice (some ⟨w4.heap.size + 1, 0, none⟩) n c) ((w4.alloc O).alloc (.cells C 5 (C.size, C.size + 1))) := by
    intro O C n c
    have := Lib.run_convert_bytes_const (P := Try.prog) (w4.alloc O) 22 5 C n c Try.underlying22 Try.underlying5
    simpa using this
  go_wp2_with fail
  have hal : Below w4.heap.size w4 (((w4.alloc (.cells #[.int .u8 97, .int .u8 98] 5 (2, 3))).alloc (.cells #[.int .u8 99] 5 (1, 2))).alloc (.cells #[.slice (some ⟨w4.heap.size, 0, none⟩) 2 2, .slice (some ⟨w4.heap.size + 1, 0, none⟩) 1 1] 22)) :=
    (((Below.refl _ _).alloc (Nat.le_refl _) _).alloc (by simp) _).alloc (by simp; omega) _
  have QS : Hid (SeenAll (((w4.alloc (.cells #[.int .u8 97, .int .u8 98] 5 (2, 3))).alloc (.cells #[.int .u8 99] 5 (1, 2))).alloc (.cells #[.slice (some ⟨w4.heap.size, 0, none⟩) 2 2, .slice (some ⟨w4.heap.size + 1, 0, none⟩) 1 1] 22)) (some ⟨w4.heap.size + 1 + 1, 0, none⟩)
      [((some ⟨w4.heap.size, 0, none⟩ : Option Addr), [97, 98], 2), ((some ⟨w4.heap.size + 1, 0, none⟩ : Option Addr), [99], 1)]) := by
    have S1 := ((seen_mark w4 5 [97, 98] (2, 3)).alloc (.cells #[.int .u8 99] 5 (1, 2))).alloc (.cells #[.slice (some ⟨w4.heap.size, 0, none⟩) 2 2, .slice (some ⟨w4.heap.size + 1, 0, none⟩) 1 1] 22)
    have S2 := (seen_mark (w4.alloc (.cells #[.int .u8 97, .int .u8 98] 5 (2, 3))) 5 [99] (1, 2)).alloc (.cells #[.slice (some ⟨w4.heap.size, 0, none⟩) 2 2, .slice (some ⟨w4.heap.size + 1, 0, none⟩) 1 1] 22)
    have BL := Blk.new ((w4.alloc (.cells #[.int .u8 97, .int .u8 98] 5 (2, 3))).alloc (.cells #[.int .u8 99] 5 (1, 2))) [.slice (some ⟨w4.heap.size, 0, none⟩) 2 2, .slice (some ⟨w4.heap.size + 1, 0, none⟩) 1 1] 22
    simp only [World.size_alloc] at S2 BL
    refine .inr ⟨w4.heap.size + 1 + 1, 0, rfl, by simp, fun j hj => ?_⟩
    have hj2 : j = 0 ∨ j = 1 := by simp at hj; omega
    rcases hj2 with rfl | rfl
    · exact ⟨BL.cell (i := 0) (by simp), S1, (by show 2 ≤ 2; omega), (by show 2 ≤ 9223372036854775807; omega)⟩
    · exact ⟨BL.cell (i := 1) (by simp), S2, (by show 1 ≤ 1; omega), (by show 1 ≤ 9223372036854775807; omega)⟩
  have HAL := Lib.hid hal
  generalize ((w4.alloc (.cells #[.int .u8 97, .int .u8 98] 5 (2, 3))).alloc (.cells #[.int .u8 99] 5 (1, 2))).alloc (.cells #[.slice (some ⟨w4.heap.size, 0, none⟩) 2 2, .slice (some ⟨w4.heap.size + 1, 0, none⟩) 1 1] 22) = w5 at *
  refine (texts_same A4 ps 2 c4 (some ⟨w4.heap.size + 1 + 1, 0, none⟩) _ 2 2 w5 PL.out rfl (SA.out.below HAL.out) QS.out (by decide) (by decide)).mono ?_
  rintro e w6 ⟨rfl, hb6⟩
  have hq : decide (bytesOf ps = bytesOf [((some ⟨w4.heap.size, 0, none⟩ : Option Addr), ([97, 98] : List UInt8), 2), ((some ⟨w4.heap.size + 1, 0, none⟩ : Option Addr), [99], 1)]) = true := decide_eq_true (by rw [PS.out]; rfl)
  rw [hq]
  have L6 := Lib.hid (L4.out.below (hop HAL.out hb6) L4.out.lt)
  have B6 := Lib.hid (hop B4.out (hop HAL.out hb6))
  have HR : Hid ((Lg.found 0 2 1 [[97, 98], [99]]).room = 81) := by
    show 2 * 64 - (framesL 1 0 [[97, 98], [99]]).length = 81
    rw [awake_fin2]
  have HROOM : Hid (∀ w', Below w6.heap.size w6 w' → Calls Try.prog 33 #[.pointer (some ⟨b, 0, none⟩)] w' fun e w'' => e = .returned (.int .i64 81) ∧ ∃ m, w'' = w'.drewN m) := fun w' hb => by
    have := room_any (L6.out.below hb L6.out.lt) (by show (framesL 1 0 [[97, 98], [99]]).length ≤ 2 * 64; rw [awake_fin2]; decide) (by decide)
    rw [HR.out] at this
    exact this
  have HSEQ : Hid (∀ w', Below w6.heap.size w6 w' → Calls Try.prog 29 #[.pointer (some ⟨b, 0, none⟩)] w' fun e w'' => e = .returned (.int .i64 2) ∧ w'' = w') := fun w' hb => seq_any (L6.out.below hb L6.out.lt)
  have HGEN : Hid (∀ w', Below w6.heap.size w6 w' → Calls Try.prog 30 #[.pointer (some ⟨b, 0, none⟩)] w' fun e w'' => e = .returned (.int .i64 1) ∧ w'' = w') := fun w' hb => gen_any (L6.out.below hb L6.out.lt)
  clear hq hb6 hcc hc2 hal
  go_wp2_with fail
  refine (HSEQ.out _ (Below.refl _ _)).mono ?_
  rintro e w7 ⟨rfl, hw⟩
  obtain rfl := hw.symm
  go_wp2_with fail
  refine (HROOM.out _ (Below.refl _ _)).mono ?_
  rintro e w8 ⟨rfl, m8, rfl⟩
  go_wp2_with fail
  refine (HGEN.out _ (below_drewN (Below.refl _ _) m8)).mono ?_
  rintro e w9 ⟨rfl, hw⟩
  obtain rfl := hw.symm
  go_wp2
  go_ret
  exact ⟨rfl, below_drewN B6.out m8⟩
end Go.Proofs.Ytkbjhnlihnakkaa
