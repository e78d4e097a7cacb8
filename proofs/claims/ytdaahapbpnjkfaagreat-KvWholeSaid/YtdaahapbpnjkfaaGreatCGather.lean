/-
  Plain mathematics of layer 7: a disk that holds a log; what Append and Begin make of it, with and without a crash. No program is run here. No conditions.
  Plain mathematics of layer 9: an area of a disk that holds a log; what Append and Begin make of it, with and without a crash, and that the rest of the disk stays. No program is run here. No conditions.
  A slice of slices of bytes: what it shows, and how that is kept. No program is named here.
  A list of lists of bytes that the call gathers in a row of its own, beside the bytes of the one that is under way. No program is named here.
-/
import Derived.Test.YtdaahapbpnjkfaaGreatCLgLog
import Derived.Test.YtdaahapbpnjkfaaGreatCFlat
namespace Go.Proofs.YtdaahapbpnjkfaaGreat
open Go.RowKit
theorem bytes_all {s : Dsk} {n : Nat} (hM : s.M = []) : s.bytes 0 n = (s.K.take n).flatten := by
  unfold Dsk.bytes
  rw [view_calm hM, List.drop_zero]
theorem splice_take {α : Type} {K R : List α} {n i : Nat} (h : i + R.length ≤ n) (hn : n ≤ K.length) : (splice K i R).take n = splice (K.take n) i R := by
  unfold splice
  have l1 : (K.take i).length = i := by rw [List.length_take]; omega
  rw [List.take_append, l1, List.take_append, List.take_of_length_le (by rw [l1]; omega : (K.take i).length ≤ n), List.take_of_length_le (by omega : R.length ≤ n - i), List.take_take, Nat.min_eq_left (by omega), List.drop_take, Nat.sub_sub]
theorem ahead_take {K : List (List UInt8)} {n pos : Nat} (h : pos / 64 < n) : aheadL (K.take n) 0 pos = aheadL K 0 pos := by
  unfold aheadL
  rw [Nat.zero_add, List.getD_eq_getElem?_getD, List.getD_eq_getElem?_getD, List.getElem?_take_of_lt h]
theorem take_rows {K : List (List UInt8)} {n : Nat} (h : ∀ r ∈ K, r.length = 64) : ∀ r ∈ K.take n, r.length = 64 := fun r hr => h r (List.mem_of_mem_take hr)
structure LogHas (s : Dsk) (n : Nat) (g : Int) (ds : List (List UInt8)) : Prop where
  ok : s.Ok
  len : n ≤ s.K.length
  calm : s.M = []
  at_ : LogAt g 0 ds (s.K.take n).flatten
  some : ds ≠ []
  g1 : 1 ≤ g
  g2 : g ≤ 1152921504606846976
def LaidAt (K K' : List (List UInt8)) (pos : Nat) (code : List UInt8) : Prop := ∃ t, K'.flatten = K.flatten.take pos ++ (code ++ t) ∧ (t = [] ∨ t.head? = Option.some 0)
def SameUpTo (K K' : List (List UInt8)) (pos : Nat) : Prop := K'.length = K.length ∧ K'.flatten.take (64 * (pos / 64 + 1)) = K.flatten.take (64 * (pos / 64 + 1)) ∧ ∃ t, K'.flatten = K.flatten.take pos ++ t ∧ t.head? = (K.flatten.drop pos).head?
theorem next_down {l : Lg} {s : Dsk} {d : List UInt8} (h : l.down = true) : l.err s d = 5 ∧ l.dsk s d = s ∧ l.next s d = l := by
  unfold Lg.err Lg.dsk Lg.next
  rw [h]
  exact ⟨rfl, rfl, rfl⟩
theorem next_full {l : Lg} {s : Dsk} {d : List UInt8} (hd : l.down = false) (h : l.full d = true) : l.err s d = 4 ∧ l.dsk s d = s ∧ l.next s d = l := by
  unfold Lg.err Lg.dsk Lg.next
  rw [hd, h]
  exact ⟨rfl, rfl, rfl⟩
theorem crash_len (s : Dsk) (p : Nat → Bool) : (s.crash p).K.length = s.K.length := kept_length _ _ _ _
theorem next_laid {l : Lg} {s : Dsk} {d : List UInt8} (ok : s.Ok) (hM : s.M = []) (hf : l.f = 0) (hfit : l.Fits s) (hd : l.down = false) (h : l.full d = false) :
    (l.err s d = 0 → (l.dsk s d).M = [] ∧ LaidAt (s.K.take l.blocks) ((l.dsk s d).K.take l.blocks) l.fin (l.code d) ∧ l.next s d = l.put d) ∧
    (l.err s d ≠ 0 → l.err s d = 5 ∧ (l.next s d).down = true ∧ ∀ pick, LaidAt (s.K.take l.blocks) (((l.dsk s d).crash pick).K.take l.blocks) l.fin (l.code d) ∨ SameUpTo (s.K.take l.blocks) (((l.dsk s d).crash pick).K.take l.blocks) l.fin) ∧
    (s.Quiet → l.err s d = 0 ∧ (l.dsk s d).Quiet ∧ s.calls < (l.dsk s d).calls) := by
  obtain ⟨p1, p2, p3, p4⟩ := Lg.full_false h
  obtain ⟨m, r1, r2, _⟩ := Lg.rows hfit ok h
  have e1 : l.err s d = s.layErr (l.laid s d) (l.fin / 64) := by unfold Lg.err; rw [hd, h, hf, Nat.zero_add]; rfl
  have e2 : l.dsk s d = s.lay (l.laid s d) (l.fin / 64) := by unfold Lg.dsk; rw [hd, h, hf, Nat.zero_add]; rfl
  have e3 : l.next s d = if l.err s d = 0 then l.put d else { l with down := true } := by
    unfold Lg.next
    rw [hd, h]; rfl
  have hroom : l.room = l.blocks * 64 - l.fin := rfl
  have hfin := hfit.fin
  have harea := hfit.area
  rw [hf, Nat.zero_add] at harea
  have hpos : l.fin / 64 + (m + 1) ≤ s.K.length := by omega
  have htl : (s.K.take l.blocks).length = l.blocks := by rw [List.length_take]; omega
  have hB : l.laid s d = laidL (s.K.take l.blocks) 0 (s.K.take l.blocks).length l.fin (l.code d) := by
    unfold Lg.laid laidL
    rw [view_calm hM, hf, htl, ahead_take (by omega)]
  have hrl : (rowsOf (l.laid s d)).length = m + 1 := by rw [rowsOf_length, r1]; omega
  have hlaid : LaidAt (s.K.take l.blocks) ((splice s.K (l.fin / 64) (rowsOf (l.laid s d))).take l.blocks) l.fin (l.code d) := by
    rw [splice_take (by rw [hrl]; omega) harea, hB]
    exact laid_bytes (take_rows ok.len) p1 (by rw [htl]; omega)
  have okl : (s.lay (l.laid s d) (l.fin / 64)).Ok := ok.lay r1 hpos
  rw [e3, e1, e2]
  refine ⟨fun he => ?_, fun he => ?_, fun hq => ?_⟩
  · obtain ⟨h1, h2⟩ := Dsk.lay_done hM r1 hpos he
    rw [h2, if_pos he]
    exact ⟨h1, hlaid, rfl⟩
  · obtain ⟨h1, _, h3⟩ := Dsk.lay_not hM r1 hpos he
    refine ⟨h1, by rw [if_neg he], fun pick => ?_⟩
    rcases h3 pick with h4 | ⟨h4, h5⟩
    · rw [h4]; exact .inl hlaid
    · have hl4 : (((s.lay (l.laid s d) (l.fin / 64)).crash pick).K.take l.blocks).length = (s.K.take l.blocks).length := by rw [List.length_take, List.length_take, h4]
      have hk := same_bytes (K := s.K.take l.blocks) (K' := ((s.lay (l.laid s d) (l.fin / 64)).crash pick).K.take l.blocks) (pos := l.fin) (take_rows ok.len) (take_rows (okl.crash pick).len) hl4 (by rw [htl]; omega)
        (by rw [List.take_take, List.take_take, Nat.min_eq_left (by omega)]; exact h5)
      exact .inr ⟨hl4, hk⟩
  · obtain ⟨h1, h2, h3⟩ := hq.lay (i := l.fin / 64) r1
    exact ⟨h2, h1, h3⟩
theorem LogHas.bytes {s : Dsk} {n : Nat} {g : Int} {ds : List (List UInt8)} (h : LogHas s n g ds) : (s.K.take n).flatten.length = n * 64 := by
  rw [flat_length (m := 64) _ (take_rows h.ok.len), List.length_take, Nat.min_eq_left h.len]
theorem found_fits {s : Dsk} {n : Nat} {g : Int} {ds : List (List UInt8)} (h : LogHas s n g ds) (hn : 1 ≤ n) : (Lg.found 0 n g ds).Fits s := by
  have hl := h.bytes
  have ht := (logAt_take h.at_).2.1
  have hlen := h.len
  exact ⟨hn, by show 0 + n ≤ _; omega, by show (framesL g 0 ds).length ≤ n * 64; rw [hl] at ht; exact ht, framesL_seq g ds 0, h.g1, h.g2⟩
theorem found_put {n : Nat} {g : Int} {ds : List (List UInt8)} {d : List UInt8} (h : (Lg.found 0 n g ds).code d = frameL g (ds.length : Int) d) : (Lg.found 0 n g ds).put d = Lg.found 0 n g (ds ++ [d]) := by
  unfold Lg.put
  rw [h]
  unfold Lg.found
  rw [framesL_append, Nat.zero_add, List.length_append, List.length_append]
  simp only [framesL, List.append_nil, List.length_cons, List.length_nil]
theorem laid_log {s : Dsk} {K' : List (List UInt8)} {n : Nat} {g : Int} {ds : List (List UInt8)} {d : List UInt8} (h : LogHas s n g ds) (hm : mayB g (ds.length : Int) d.length = true) (hl : LaidAt (s.K.take n) K' (framesL g 0 ds).length (frameL g (ds.length : Int) d)) : LogAt g 0 (ds ++ [d]) K'.flatten := by
  obtain ⟨t, e, ht⟩ := hl
  rw [(logAt_take h.at_).1] at e
  rw [e]
  refine logAt_swap h.at_ ?_
  rw [Nat.zero_add]
  exact ⟨hm, t, rfl, ht⟩
theorem same_log {s : Dsk} {K' : List (List UInt8)} {n : Nat} {g : Int} {ds : List (List UInt8)} (h : LogHas s n g ds) (hp : (framesL g 0 ds).length < (s.K.take n).flatten.length) (hl : SameUpTo (s.K.take n) K' (framesL g 0 ds).length) : LogAt g 0 ds K'.flatten := by
  obtain ⟨_, _, t, e, ht⟩ := hl
  obtain ⟨h1, h2, h3⟩ := logAt_take h.at_
  rw [h1] at e
  have := logAt_swap (es := []) (t := t) h.at_ (by
    right
    rw [ht]
    rcases h3 with h3 | h3
    · have := congrArg List.length h3
      rw [List.length_drop, List.length_nil] at this
      omega
    · exact h3)
  rw [List.append_nil] at this
  rw [e]; exact this
theorem LogHas.append {s : Dsk} {n : Nat} {g : Int} {ds : List (List UInt8)} (h : LogHas s n g ds) (hn : 1 ≤ n) (d : List UInt8) :
    ((Lg.found 0 n g ds).err s d = 4 ∧ (Lg.found 0 n g ds).dsk s d = s ∧ (Lg.found 0 n g ds).next s d = Lg.found 0 n g ds ∧ (Lg.found 0 n g ds).full d = true) ∨
    ((Lg.found 0 n g ds).err s d = 0 ∧ LogHas ((Lg.found 0 n g ds).dsk s d) n g (ds ++ [d]) ∧ (Lg.found 0 n g ds).next s d = Lg.found 0 n g (ds ++ [d]) ∧ (s.Quiet → ((Lg.found 0 n g ds).dsk s d).Quiet ∧ s.calls < ((Lg.found 0 n g ds).dsk s d).calls) ∧ (Lg.found 0 n g ds).full d = false) ∨
    ((Lg.found 0 n g ds).err s d = 5 ∧ ((Lg.found 0 n g ds).next s d).down = true ∧ ¬ s.Quiet ∧ ∀ pick, LogHas (((Lg.found 0 n g ds).dsk s d).crash pick) n g ds ∨ LogHas (((Lg.found 0 n g ds).dsk s d).crash pick) n g (ds ++ [d])) := by
  have hfit := found_fits h hn
  have hnx := hfit.next (d := d)
  by_cases hfull : (Lg.found 0 n g ds).full d = true
  · exact .inl ⟨(next_full rfl hfull).1, (next_full rfl hfull).2.1, (next_full rfl hfull).2.2, hfull⟩
  have hfull : (Lg.found 0 n g ds).full d = false := by simpa using hfull
  obtain ⟨p1, p2, p3, p4⟩ := Lg.full_false hfull
  obtain ⟨h1, h2, h3⟩ := next_laid h.ok h.calm rfl hfit rfl hfull
  have hc : (Lg.found 0 n g ds).code d = frameL g (ds.length : Int) d := p4
  have hpos : (framesL g 0 ds).length < (s.K.take n).flatten.length := by
    have := hfit.fin
    have e1 : (Lg.found 0 n g ds).room = n * 64 - (framesL g 0 ds).length := rfl
    rw [h.bytes]
    omega
  have hne : ds ++ [d] ≠ [] := by simp
  by_cases he : (Lg.found 0 n g ds).err s d = 0
  · obtain ⟨q1, q2, q3⟩ := h1 he
    rw [hc] at q2
    exact .inr (.inl ⟨he, ⟨hnx.2.1 h.ok, by rw [hnx.2.2]; exact h.len, q1, laid_log h p3 q2, hne, h.g1, h.g2⟩, by rw [q3, found_put hc], fun hq => (h3 hq).2, hfull⟩)
  · obtain ⟨q1, q2, q3⟩ := h2 he
    refine .inr (.inr ⟨q1, q2, fun hq => he (h3 hq).1, fun pick => ?_⟩)
    have okc := (hnx.2.1 h.ok).crash pick
    have lenc : n ≤ (((Lg.found 0 n g ds).dsk s d).crash pick).K.length := by rw [crash_len, hnx.2.2]; exact h.len
    rcases q3 pick with q | q
    · rw [hc] at q
      exact .inr ⟨okc, lenc, rfl, laid_log h p3 q, hne, h.g1, h.g2⟩
    · exact .inl ⟨okc, lenc, rfl, same_log h hpos q, h.some, h.g1, h.g2⟩
theorem LogHas.found {s : Dsk} {n : Nat} {g : Int} {ds : List (List UInt8)} (h : LogHas s n g ds) : openL (s.bytes 0 n) = Option.some (g, ds) := by
  rw [bytes_all h.calm]
  have hat := h.at_
  have hs := h.some
  cases ds with
  | nil => exact absurd rfl hs
  | cons d ds => exact open_at hat h.g1
theorem LogHas.crash {s : Dsk} {n : Nat} {g : Int} {ds : List (List UInt8)} (h : LogHas s n g ds) (p : Nat → Bool) : LogHas (s.crash p) n g ds ∧ (s.crash p).Quiet := by
  have hK : (s.crash p).K = s.K := by
    show kept _ s.M s.K s.M.length = s.K
    rw [h.calm]; rfl
  exact ⟨⟨h.ok.crash p, by rw [hK]; exact h.len, rfl, by rw [hK]; exact h.at_, h.some, h.g1, h.g2⟩, rfl, rfl⟩
theorem LogHas.arm {s : Dsk} {n : Nat} {g : Int} {ds : List (List UInt8)} (h : LogHas s n g ds) (z : Int) : LogHas (s.arm z) n g ds := by
  have hKM : (s.arm z).K = s.K ∧ (s.arm z).M = s.M := by unfold Dsk.arm; split <;> exact ⟨rfl, rfl⟩
  exact ⟨h.ok.arm z, by rw [hKM.1]; exact h.len, by rw [hKM.2]; exact h.calm, by rw [hKM.1]; exact h.at_, h.some, h.g1, h.g2⟩
end Go.Proofs.YtdaahapbpnjkfaaGreat
namespace Go.Proofs.YtdaahapbpnjkfaaGreat
open Go.RowKit
def areaOf (K : List (List UInt8)) (f n : Nat) : List (List UInt8) := (K.drop f).take n
theorem areaOf_length {K : List (List UInt8)} {f n : Nat} (h : f + n ≤ K.length) : (areaOf K f n).length = n := by
  unfold areaOf; rw [List.length_take, List.length_drop]; omega
theorem areaOf_rows {K : List (List UInt8)} {f n : Nat} (h : ∀ r ∈ K, r.length = 64) : ∀ r ∈ areaOf K f n, r.length = 64 := fun r hr => h r (List.mem_of_mem_drop (List.mem_of_mem_take hr))
theorem areaOf_get {K : List (List UInt8)} {f n j : Nat} (h : j < n) : (areaOf K f n)[j]? = K[f + j]? := by
  unfold areaOf; rw [List.getElem?_take_of_lt h, List.getElem?_drop]
theorem areaOf_ext {K K' : List (List UInt8)} {f n : Nat} (h : ∀ j, f ≤ j → j < f + n → K'[j]? = K[j]?) : areaOf K' f n = areaOf K f n := by
  refine List.ext_getElem? fun j => ?_
  by_cases hj : j < n
  · rw [areaOf_get hj, areaOf_get hj]; exact h _ (by omega) (by omega)
  · unfold areaOf
    rw [List.getElem?_eq_none (by rw [List.length_take]; omega), List.getElem?_eq_none (by rw [List.length_take]; omega)]
theorem splice_area {K R : List (List UInt8)} {f n i : Nat} (h : i + R.length ≤ n) (hn : f + n ≤ K.length) : areaOf (splice K (f + i) R) f n = splice (areaOf K f n) i R := by
  have e : (splice K (f + i) R).drop f = splice (K.drop f) i R := by
    unfold splice
    rw [List.drop_append_of_le_length (by rw [List.length_take]; omega), List.drop_drop, ← Nat.add_assoc]
    congr 1
    rw [List.drop_take, Nat.add_sub_cancel_left]
  unfold areaOf
  rw [e]
  exact splice_take h (by rw [List.length_drop]; omega)
theorem ahead_area {K : List (List UInt8)} {f n pos : Nat} (h : pos / 64 < n) : aheadL (areaOf K f n) 0 pos = aheadL K f pos := by
  unfold aheadL
  rw [Nat.zero_add, List.getD_eq_getElem?_getD, List.getD_eq_getElem?_getD, areaOf_get h]
theorem bytes_area {s : Dsk} {f n : Nat} (hM : s.M = []) : s.bytes f n = (areaOf s.K f n).flatten := by
  unfold Dsk.bytes areaOf
  rw [view_calm hM]
structure Within (lo hi : Nat) (K : List (List UInt8)) (s : Dsk) : Prop where
  out : ∀ j, (j < lo ∨ hi ≤ j) → s.K[j]? = K[j]?
  mem : ∀ p ∈ s.M, lo ≤ p.1 ∧ p.1 < hi
section
variable {lo hi : Nat} {K : List (List UInt8)} {s : Dsk}
theorem kept_within (pick : Nat → Bool) (h : Within lo hi K s) : ∀ n, n ≤ s.M.length → ∀ j, (j < lo ∨ hi ≤ j) → (kept pick s.M s.K n)[j]? = K[j]? := fun n hn j hj => by
  rw [kept_untouched n hn (fun q hq _ => by have := h.mem _ (List.getElem_mem hq); omega)]
  exact h.out j hj
theorem Within.pw (h : Within lo hi K s) {i : Nat} (r : List UInt8) (h1 : lo ≤ i) (h2 : i < hi) : Within lo hi K (s.pw i r) := by
  unfold Dsk.pw
  split
  · exact h
  · refine ⟨h.out, fun p hp => ?_⟩
    rcases List.mem_append.1 (show p ∈ s.M ++ [(i, r)] from hp) with hp | hp
    · exact h.mem p hp
    · rw [List.mem_singleton.1 hp]; exact ⟨h1, h2⟩
theorem Within.puts : ∀ {R : List (List UInt8)} {s : Dsk} {i : Nat}, Within lo hi K s → lo ≤ i → i + R.length ≤ hi → Within lo hi K (s.puts i R)
  | [], _, _, h, _, _ => h
  | r :: R, s, i, h, h1, h2 => by
    rw [List.length_cons] at h2
    exact Within.puts (R := R) (s := s.pw i r) (i := i + 1) (h.pw r h1 (by omega)) (by omega) (by omega)
theorem Within.sput (h : Within lo hi K s) : Within lo hi K s.sput := by
  unfold Dsk.sput
  split
  · exact h
  · exact ⟨kept_within _ h _ (Nat.le_refl _), fun p hp => by cases hp⟩
theorem Within.putAll (h : Within lo hi K s) {i : Nat} {R : List (List UInt8)} (h1 : lo ≤ i) (h2 : i + R.length ≤ hi) : Within lo hi K (s.putAll i R) := by
  unfold Dsk.putAll
  split
  · exact h
  · exact (h.puts h1 h2).sput
theorem Within.lay (h : Within lo hi K s) {b : List UInt8} {i n : Nat} (hb : b.length = (n + 1) * 64) (h1 : lo ≤ i) (h2 : i + (n + 1) ≤ hi) : Within lo hi K (s.lay b i) := by
  have hr : (rowsOf (b.drop 64)).length = n := by rw [rowsOf_length, List.length_drop]; omega
  have hr1 : (rowsOf (b.take 64)).length = 1 := by rw [rowsOf_length, List.length_take]; omega
  exact (h.putAll (by omega) (by rw [hr]; omega)).putAll h1 (by rw [hr1]; omega)
theorem Within.crash (h : Within lo hi K s) (pick : Nat → Bool) : Within lo hi K (s.crash pick) := ⟨kept_within _ h _ (Nat.le_refl _), fun p hp => by cases hp⟩
theorem Within.refl {s : Dsk} (hM : s.M = []) : Within lo hi s.K s := ⟨fun _ _ => rfl, fun p hp => by rw [hM] at hp; cases hp⟩
theorem Within.area (h : Within lo hi K s) {f n : Nat} (hd : f + n ≤ lo ∨ hi ≤ f) : areaOf s.K f n = areaOf K f n := areaOf_ext fun j h1 h2 => h.out j (by omega)
end
theorem Lg.within {l : Lg} {s : Dsk} (ok : s.Ok) (hM : s.M = []) (hf : l.Fits s) (d : List UInt8) : Within l.f (l.f + l.blocks) s.K (l.dsk s d) := by
  unfold Lg.dsk
  split
  · exact .refl hM
  · rename_i h
    rw [Bool.or_eq_true, not_or] at h
    have hfull : l.full d = false := by simpa using h.2
    obtain ⟨n, h1, h2, _⟩ := Lg.rows hf ok hfull
    exact (Within.refl hM).lay h1 (by omega) (by omega)
structure AreaHas (s : Dsk) (f n : Nat) (g : Int) (ds : List (List UInt8)) : Prop where
  ok : s.Ok
  len : f + n ≤ s.K.length
  calm : s.M = []
  at_ : LogAt g 0 ds (areaOf s.K f n).flatten
  some : ds ≠ []
  g1 : 1 ≤ g
  g2 : g ≤ 1152921504606846976
theorem next_area {l : Lg} {s : Dsk} {d : List UInt8} (ok : s.Ok) (hM : s.M = []) (hfit : l.Fits s) (hd : l.down = false) (h : l.full d = false) :
    (l.err s d = 0 → (l.dsk s d).M = [] ∧ LaidAt (areaOf s.K l.f l.blocks) (areaOf (l.dsk s d).K l.f l.blocks) l.fin (l.code d) ∧ l.next s d = l.put d) ∧
    (l.err s d ≠ 0 → l.err s d = 5 ∧ (l.next s d).down = true ∧ ∀ pick, LaidAt (areaOf s.K l.f l.blocks) (areaOf ((l.dsk s d).crash pick).K l.f l.blocks) l.fin (l.code d) ∨ SameUpTo (areaOf s.K l.f l.blocks) (areaOf ((l.dsk s d).crash pick).K l.f l.blocks) l.fin) ∧
    (s.Quiet → l.err s d = 0 ∧ (l.dsk s d).Quiet ∧ s.calls < (l.dsk s d).calls) := by
  obtain ⟨p1, p2, p3, p4⟩ := Lg.full_false h
  obtain ⟨m, r1, r2, _⟩ := Lg.rows hfit ok h
  have e1 : l.err s d = s.layErr (l.laid s d) (l.f + l.fin / 64) := by unfold Lg.err; rw [hd, h]; rfl
  have e2 : l.dsk s d = s.lay (l.laid s d) (l.f + l.fin / 64) := by unfold Lg.dsk; rw [hd, h]; rfl
  have e3 : l.next s d = if l.err s d = 0 then l.put d else { l with down := true } := by
    unfold Lg.next
    rw [hd, h]; rfl
  have hroom : l.room = l.blocks * 64 - l.fin := rfl
  have hfin := hfit.fin
  have harea := hfit.area
  have hpos : l.f + l.fin / 64 + (m + 1) ≤ s.K.length := by omega
  have htl := areaOf_length harea
  have hB : l.laid s d = laidL (areaOf s.K l.f l.blocks) 0 (areaOf s.K l.f l.blocks).length l.fin (l.code d) := by
    unfold Lg.laid laidL
    rw [view_calm hM, htl, ahead_area (by omega)]
  have hrl : (rowsOf (l.laid s d)).length = m + 1 := by rw [rowsOf_length, r1]; omega
  have hlaid : LaidAt (areaOf s.K l.f l.blocks) (areaOf (splice s.K (l.f + l.fin / 64) (rowsOf (l.laid s d))) l.f l.blocks) l.fin (l.code d) := by
    rw [splice_area (by rw [hrl]; omega) harea, hB]
    exact laid_bytes (areaOf_rows ok.len) p1 (by rw [htl]; omega)
  have okl : (s.lay (l.laid s d) (l.f + l.fin / 64)).Ok := ok.lay r1 hpos
  rw [e3, e1, e2]
  refine ⟨fun he => ?_, fun he => ?_, fun hq => ?_⟩
  · obtain ⟨h1, h2⟩ := Dsk.lay_done hM r1 hpos he
    rw [h2, if_pos he]
    exact ⟨h1, hlaid, rfl⟩
  · obtain ⟨h1, _, h3⟩ := Dsk.lay_not hM r1 hpos he
    refine ⟨h1, by rw [if_neg he], fun pick => ?_⟩
    rcases h3 pick with h4 | ⟨h4, h5⟩
    · rw [h4]; exact .inl hlaid
    · have hl4 : (areaOf ((s.lay (l.laid s d) (l.f + l.fin / 64)).crash pick).K l.f l.blocks).length = (areaOf s.K l.f l.blocks).length := by rw [areaOf_length (by rw [h4]; exact harea), htl]
      have hk := same_bytes (K := areaOf s.K l.f l.blocks) (K' := areaOf ((s.lay (l.laid s d) (l.f + l.fin / 64)).crash pick).K l.f l.blocks) (pos := l.fin) (areaOf_rows ok.len) (areaOf_rows (okl.crash pick).len) hl4 (by rw [htl]; omega)
        (by
          have h6 := congrArg (List.drop l.f) h5
          rw [List.drop_take, List.drop_take, show l.f + l.fin / 64 + 1 - l.f = l.fin / 64 + 1 by omega] at h6
          unfold areaOf
          rw [List.take_take, List.take_take, Nat.min_eq_left (by omega)]
          exact h6)
      exact .inr ⟨hl4, hk⟩
  · obtain ⟨h1, h2, h3⟩ := hq.lay (i := l.f + l.fin / 64) r1
    exact ⟨h2, h1, h3⟩
section
variable {s : Dsk} {f n : Nat} {g : Int} {ds : List (List UInt8)} {d : List UInt8}
theorem AreaHas.bytes (h : AreaHas s f n g ds) : (areaOf s.K f n).flatten.length = n * 64 := by
  rw [flat_length (m := 64) _ (areaOf_rows h.ok.len), areaOf_length h.len]
theorem AreaHas.fits (h : AreaHas s f n g ds) (hn : 1 ≤ n) : (Lg.found f n g ds).Fits s := by
  have hl := h.bytes
  have ht := (logAt_take h.at_).2.1
  have hlen := h.len
  exact ⟨hn, hlen, by show (framesL g 0 ds).length ≤ n * 64; rw [hl] at ht; exact ht, framesL_seq g ds 0, h.g1, h.g2⟩
theorem found_area_put (h : (Lg.found f n g ds).code d = frameL g (ds.length : Int) d) : (Lg.found f n g ds).put d = Lg.found f n g (ds ++ [d]) := by
  unfold Lg.put
  rw [h]
  unfold Lg.found
  rw [framesL_append, Nat.zero_add, List.length_append, List.length_append]
  simp only [framesL, List.append_nil, List.length_cons, List.length_nil]
theorem laid_area {K' : List (List UInt8)} (h : AreaHas s f n g ds) (hm : mayB g (ds.length : Int) d.length = true) (hl : LaidAt (areaOf s.K f n) K' (framesL g 0 ds).length (frameL g (ds.length : Int) d)) : LogAt g 0 (ds ++ [d]) K'.flatten := by
  obtain ⟨t, e, ht⟩ := hl
  rw [(logAt_take h.at_).1] at e
  rw [e]
  refine logAt_swap h.at_ ?_
  rw [Nat.zero_add]
  exact ⟨hm, t, rfl, ht⟩
theorem same_area {K' : List (List UInt8)} (h : AreaHas s f n g ds) (hp : (framesL g 0 ds).length < (areaOf s.K f n).flatten.length) (hl : SameUpTo (areaOf s.K f n) K' (framesL g 0 ds).length) : LogAt g 0 ds K'.flatten := by
  obtain ⟨_, _, t, e, ht⟩ := hl
  obtain ⟨h1, h2, h3⟩ := logAt_take h.at_
  rw [h1] at e
  have := logAt_swap (es := []) (t := t) h.at_ (by
    right
    rw [ht]
    rcases h3 with h3 | h3
    · have := congrArg List.length h3
      rw [List.length_drop, List.length_nil] at this
      omega
    · exact h3)
  rw [List.append_nil] at this
  rw [e]; exact this
theorem AreaHas.append (h : AreaHas s f n g ds) (hn : 1 ≤ n) (d : List UInt8) :
    ((Lg.found f n g ds).err s d = 4 ∧ (Lg.found f n g ds).dsk s d = s ∧ (Lg.found f n g ds).next s d = Lg.found f n g ds ∧ (Lg.found f n g ds).full d = true) ∨
    ((Lg.found f n g ds).err s d = 0 ∧ AreaHas ((Lg.found f n g ds).dsk s d) f n g (ds ++ [d]) ∧ (Lg.found f n g ds).next s d = Lg.found f n g (ds ++ [d]) ∧ (s.Quiet → ((Lg.found f n g ds).dsk s d).Quiet ∧ s.calls < ((Lg.found f n g ds).dsk s d).calls) ∧ (Lg.found f n g ds).full d = false) ∨
    ((Lg.found f n g ds).err s d = 5 ∧ ((Lg.found f n g ds).next s d).down = true ∧ ¬ s.Quiet ∧ ∀ pick, AreaHas (((Lg.found f n g ds).dsk s d).crash pick) f n g ds ∨ AreaHas (((Lg.found f n g ds).dsk s d).crash pick) f n g (ds ++ [d])) := by
  have hfit := h.fits hn
  have hnx := hfit.next (d := d)
  by_cases hfull : (Lg.found f n g ds).full d = true
  · exact .inl ⟨(next_full rfl hfull).1, (next_full rfl hfull).2.1, (next_full rfl hfull).2.2, hfull⟩
  have hfull : (Lg.found f n g ds).full d = false := by simpa using hfull
  obtain ⟨p1, p2, p3, p4⟩ := Lg.full_false hfull
  obtain ⟨h1, h2, h3⟩ := next_area h.ok h.calm hfit rfl hfull
  have hc : (Lg.found f n g ds).code d = frameL g (ds.length : Int) d := p4
  have hpos : (framesL g 0 ds).length < (areaOf s.K f n).flatten.length := by
    have := hfit.fin
    have e1 : (Lg.found f n g ds).room = n * 64 - (framesL g 0 ds).length := rfl
    rw [h.bytes]
    omega
  have hne : ds ++ [d] ≠ [] := by simp
  by_cases he : (Lg.found f n g ds).err s d = 0
  · obtain ⟨q1, q2, q3⟩ := h1 he
    rw [hc] at q2
    exact .inr (.inl ⟨he, ⟨hnx.2.1 h.ok, by rw [hnx.2.2]; exact h.len, q1, laid_area h p3 q2, hne, h.g1, h.g2⟩, by rw [q3, found_area_put hc], fun hq => (h3 hq).2, hfull⟩)
  · obtain ⟨q1, q2, q3⟩ := h2 he
    refine .inr (.inr ⟨q1, q2, fun hq => he (h3 hq).1, fun pick => ?_⟩)
    have okc := (hnx.2.1 h.ok).crash pick
    have lenc : f + n ≤ (((Lg.found f n g ds).dsk s d).crash pick).K.length := by rw [crash_len, hnx.2.2]; exact h.len
    rcases q3 pick with q | q
    · rw [hc] at q
      exact .inr ⟨okc, lenc, rfl, laid_area h p3 q, hne, h.g1, h.g2⟩
    · exact .inl ⟨okc, lenc, rfl, same_area h hpos q, h.some, h.g1, h.g2⟩
theorem begin_area (ok : s.Ok) (hM : s.M = []) (hK : f + n ≤ s.K.length) (hn : 1 ≤ n) (g1 : 1 ≤ g) (g2 : g ≤ 1152921504606846976) (d : List UInt8) :
    ((Lg.new f n g).err s d = 4 ∧ (Lg.new f n g).dsk s d = s ∧ (Lg.new f n g).full d = true) ∨
    ((Lg.new f n g).err s d = 0 ∧ AreaHas ((Lg.new f n g).dsk s d) f n g [d] ∧ (Lg.new f n g).next s d = Lg.found f n g [d] ∧ (s.Quiet → ((Lg.new f n g).dsk s d).Quiet) ∧ (Lg.new f n g).full d = false) ∨
    ((Lg.new f n g).err s d = 5 ∧ ¬ s.Quiet ∧ ∀ pick, AreaHas (((Lg.new f n g).dsk s d).crash pick) f n g [d] ∨ SameUpTo (areaOf s.K f n) (areaOf (((Lg.new f n g).dsk s d).crash pick).K f n) 0) := by
  have hfit : (Lg.new f n g).Fits s := ⟨hn, hK, Nat.zero_le _, Nat.le_refl _, g1, g2⟩
  have hnx := hfit.next (d := d)
  by_cases hfull : (Lg.new f n g).full d = true
  · exact .inl ⟨(next_full rfl hfull).1, (next_full rfl hfull).2.1, hfull⟩
  have hfull : (Lg.new f n g).full d = false := by simpa using hfull
  obtain ⟨p1, p2, p3, p4⟩ := Lg.full_false hfull
  obtain ⟨h1, h2, h3⟩ := next_area ok hM hfit rfl hfull
  have hc : (Lg.new f n g).code d = frameL g ((0 : Nat) : Int) d := p4
  have hlog : ∀ K', LaidAt (areaOf s.K f n) K' 0 (frameL g ((0 : Nat) : Int) d) → LogAt g 0 [d] K'.flatten := fun K' ⟨t, e, ht⟩ => by
    rw [List.take_zero, List.nil_append] at e
    exact ⟨p3, t, e, ht⟩
  have hput : (Lg.new f n g).put d = Lg.found f n g [d] := by
    unfold Lg.put
    rw [hc]
    simp [Lg.new, Lg.found, framesL]
  have hfin0 : (Lg.new f n g).fin = 0 := rfl
  rw [hfin0] at h1 h2
  by_cases he : (Lg.new f n g).err s d = 0
  · obtain ⟨q1, q2, q3⟩ := h1 he
    rw [hc] at q2
    exact .inr (.inl ⟨he, ⟨hnx.2.1 ok, by rw [hnx.2.2]; exact hK, q1, hlog _ q2, by simp, g1, g2⟩, by rw [q3, hput], fun hq => (h3 hq).2.1, hfull⟩)
  · obtain ⟨q1, q2, q3⟩ := h2 he
    refine .inr (.inr ⟨q1, fun hq => he (h3 hq).1, fun pick => ?_⟩)
    have okc := (hnx.2.1 ok).crash pick
    have lenc : f + n ≤ (((Lg.new f n g).dsk s d).crash pick).K.length := by rw [crash_len, hnx.2.2]; exact hK
    rcases q3 pick with q | q
    · rw [hc] at q
      exact .inl ⟨okc, lenc, rfl, hlog _ q, by simp, g1, g2⟩
    · exact .inr q
theorem AreaHas.found (h : AreaHas s f n g ds) : openL (s.bytes f n) = Option.some (g, ds) := by
  rw [bytes_area h.calm]
  have hat := h.at_
  have hs := h.some
  cases ds with
  | nil => exact absurd rfl hs
  | cons d ds => exact open_at hat h.g1
theorem AreaHas.same {s' : Dsk} (h : AreaHas s f n g ds) (ok : s'.Ok) (hM : s'.M = []) (hl : s'.K.length = s.K.length) (he : areaOf s'.K f n = areaOf s.K f n) : AreaHas s' f n g ds := ⟨ok, by rw [hl]; exact h.len, hM, by rw [he]; exact h.at_, h.some, h.g1, h.g2⟩
end
end Go.Proofs.YtdaahapbpnjkfaaGreat
namespace Go.Proofs.YtdaahapbpnjkfaaGreat
open Go.RowKit
abbrev Piece := Option Addr × List UInt8 × Nat
def SeenAll (w : World) (A : Option Addr) (ps : List Piece) : Prop :=
  ps = [] ∨ ∃ b off, A = some ⟨b, off, none⟩ ∧ b < w.heap.size ∧ ∀ j (h : j < ps.length), w.cell? ⟨b, off + j, none⟩ = some (.slice ps[j].1 ps[j].2.1.length ps[j].2.2) ∧ Seen w ps[j].1 ps[j].2.1 ∧ ps[j].2.1.length ≤ ps[j].2.2 ∧ ps[j].2.1.length ≤ 9223372036854775807
theorem SeenAll.at_ {w : World} {A : Option Addr} {ps : List Piece} (h : SeenAll w A ps) (k : Nat) (hk : k < ps.length) :
    ∃ b off, A = some ⟨b, off, none⟩ ∧ b < w.heap.size ∧ w.cell? ⟨b, off + k, none⟩ = some (.slice ps[k].1 ps[k].2.1.length ps[k].2.2) ∧ Seen w ps[k].1 ps[k].2.1 ∧ ps[k].2.1.length ≤ ps[k].2.2 ∧ ps[k].2.1.length ≤ 9223372036854775807 := by
  rcases h with rfl | ⟨b, off, rfl, hb, hc⟩
  · simp at hk
  · exact ⟨b, off, rfl, hb, hc k hk⟩
theorem SeenAll.below {w w' : World} {A : Option Addr} {ps : List Piece} (h : SeenAll w A ps) (hb : Below w.heap.size w w') : SeenAll w' A ps := by
  rcases h with rfl | ⟨b, off, rfl, hlt, hc⟩
  · exact .inl rfl
  · refine .inr ⟨b, off, rfl, by have := hb.size; omega, fun j hj => ?_⟩
    obtain ⟨h1, h2, h3, h4⟩ := hc j hj
    exact ⟨(hb.cell (p := ⟨b, off + j, none⟩) hlt).trans h1, h2.below hb, h3, h4⟩
theorem SeenAll.take {w : World} {A : Option Addr} {ps : List Piece} (h : SeenAll w A ps) (n : Nat) : SeenAll w A (ps.take n) := by
  rcases h with rfl | ⟨b, off, rfl, hlt, hc⟩
  · exact .inl (by simp)
  · refine .inr ⟨b, off, rfl, hlt, fun j hj => ?_⟩
    rw [List.length_take] at hj
    rw [List.getElem_take]
    exact hc j (by omega)
def bytesOf (ps : List Piece) : List (List UInt8) := ps.map fun q => q.2.1
theorem length_bytesOf (ps : List Piece) : (bytesOf ps).length = ps.length := by simp [bytesOf]
end Go.Proofs.YtdaahapbpnjkfaaGreat
namespace Go.Proofs.YtdaahapbpnjkfaaGreat
open Go.RowKit
def pv (q : Piece) : Value := .slice q.1 q.2.1.length q.2.2
def Free (w : World) (x y : Option Nat) (q : Piece) : Prop :=
  (q.2.1 = [] ∨ ∃ b off, q.1 = some ⟨b, off, none⟩ ∧ b < w.heap.size ∧ some b ≠ x ∧ some b ≠ y ∧ ∀ j (h : j < q.2.1.length), w.cell? ⟨b, off + j, none⟩ = some (.int .u8 (q.2.1[j].toNat : Int))) ∧
  q.2.1.length ≤ q.2.2 ∧ q.2.1.length ≤ 9223372036854775807
structure DecAt (e f : TypeId) (w0 : World) (ps : List Piece) (p : List UInt8) (vs vp : Value) (w : World) : Prop where
  list : w.ownsRow w0.heap.size f 1 vs ps.length (ps.map pv)
  part : w.ownsRow w0.heap.size e 1 vp p.length (p.map bv)
  apart : ∀ g, vs.ownBlock = some g → vp.ownBlock ≠ some g
  each : ∀ q ∈ ps, Free w vs.ownBlock vp.ownBlock q
  below : Below w0.heap.size w0 w
theorem own_len {w : World} {base : Nat} {e : TypeId} {A : Option Addr} {n c m : Nat} {xs : List Value} (h : w.ownsRow base e 1 (.slice A n c) m xs) : m = n ∧ n ≤ c := by
  rcases h.2 with ⟨hv, h0⟩ | ⟨g, cap, cur, hv, _, _, hnc, _⟩
  · injection hv with _ hn hc; omega
  · injection hv with _ hn hc; omega
theorem own_bytes {w : World} {base g n c : Nat} {e : TypeId} {l : List UInt8} (h : w.ownsRow base e 1 (.slice (some ⟨g, 0, none⟩) n c) l.length (l.map bv)) (j : Nat) (hj : j < l.length) : w.cell? ⟨g, 0 + j, none⟩ = some (.int .u8 (l[j].toNat : Int)) := by
  have := h.cells (g := g) rfl j (bv l[j]) (by rw [List.getElem?_map, List.getElem?_eq_getElem hj]; rfl)
  rw [add_plain] at this
  exact this
section
variable {e f : TypeId} {w0 w w' : World} {ps : List Piece} {p p' : List UInt8} {vs vs' vp vp' : Value} {q : Piece} {x y x' y' row : Option Nat}
theorem DecAt.start (e f : TypeId) (w : World) : DecAt e f w [] [] (.slice none 0 0) (.slice none 0 0) w :=
  ⟨World.ownsRow_nil _ _ _ _, World.ownsRow_nil _ _ _ _, fun g h => by simp [Value.ownBlock] at h, fun q hq => by simp at hq, Below.refl _ _⟩
theorem Free.turn (h : Free w x y q) (hg : w.grownBy w' row) (hrow : row = none ∨ row = x ∨ row = y) (hx : x' = x ∨ x' = none ∨ ∃ g, x' = some g ∧ w.heap.size ≤ g) (hy : y' = y ∨ y' = none ∨ ∃ g, y' = some g ∧ w.heap.size ≤ g) : Free w' x' y' q := by
  refine ⟨?_, h.2⟩
  rcases h.1 with h0 | ⟨b, off, hA, hb, h1, h2, hc⟩
  · exact .inl h0
  · refine .inr ⟨b, off, hA, by have := hg.size; omega, ?_, ?_, fun j hj => ?_⟩
    · rcases hx with rfl | rfl | ⟨g, rfl, hge⟩
      · exact h1
      · exact fun e => by cases e
      · intro e; injection e with e; omega
    · rcases hy with rfl | rfl | ⟨g, rfl, hge⟩
      · exact h2
      · exact fun e => by cases e
      · intro e; injection e with e; omega
    · refine (World.cell?_of_block (hg.block b hb ?_)).trans (hc j hj)
      rcases hrow with rfl | rfl | rfl
      · exact fun e => by cases e
      · exact h1
      · exact h2
theorem DecAt.size (h : DecAt e f w0 ps p vs vp w) : w0.heap.size ≤ w.heap.size := h.below.size
theorem DecAt.lower (h : DecAt e f w0 ps p vs vp w) (hb : Below w.heap.size w w') : DecAt e f w0 ps p vs vp w' where
  list := own_below h.list hb
  part := own_below h.part hb
  apart := h.apart
  each q hq := (h.each q hq).turn (only_of_below hb none) (.inl rfl) (.inl rfl) (.inl rfl)
  below := hop h.below hb
theorem DecAt.more (h : DecAt e f w0 ps p vs vp w) (hq : Free w vs.ownBlock vp.ownBlock q) (hown : w'.ownsRow w0.heap.size f 1 vs' (ps.length + 1) (ps.map pv ++ [pv q])) (hg : w.grownBy w' vs.ownBlock) (hat : vs'.ownBlock = vs.ownBlock ∨ ∃ g, vs'.ownBlock = some g ∧ w.heap.size ≤ g) : DecAt e f w0 (ps ++ [q]) p vs' vp w' where
  list := by simpa using hown
  part := h.part.kept hg (by
    rcases hv : vp.ownBlock with _ | g
    · exact .inl rfl
    · exact .inr (fun e => h.apart g e.symm hv))
  apart g hs := by
    rcases hat with hat | ⟨g', hat, hge⟩
    · exact h.apart g (hat ▸ hs)
    · rw [hat] at hs
      injection hs with hs
      intro hv
      have := (h.part.lt g hv).2
      omega
  each r hr := by
    have ht : ∀ r, Free w vs.ownBlock vp.ownBlock r → Free w' vs'.ownBlock vp.ownBlock r := fun r h' => h'.turn hg (.inr (.inl rfl)) (by
      rcases hat with hat | hat
      · exact .inl hat
      · exact .inr (.inr hat)) (.inl rfl)
    rcases List.mem_append.1 hr with hr | hr
    · exact ht r (h.each r hr)
    · simp at hr; subst hr; exact ht r hq
  below := below_grown h.below h.size h.list hg
theorem DecAt.drop (h : DecAt e f w0 ps p vs vp w) : DecAt e f w0 ps [] vs (.slice none 0 0) w where
  list := h.list
  part := World.ownsRow_nil _ _ _ _
  apart g _ := by simp [Value.ownBlock]
  each q hq := (h.each q hq).turn (World.grownBy.refl w none) (.inl rfl) (.inl rfl) (.inr (.inl rfl))
  below := h.below
theorem DecAt.piece {A : Option Addr} {n c : Nat} (h : DecAt e f w0 ps p vs (.slice A n c) w) (hn : p.length ≤ 9223372036854775807) : Free w vs.ownBlock none (A, p, c) := by
  have hl := own_len h.part
  refine ⟨?_, by show p.length ≤ c; omega, hn⟩
  rcases h.part.2 with ⟨hv, h0⟩ | ⟨g, cap, cur, hv, hb, hg, hnc, _⟩
  · exact .inl (List.eq_nil_of_length_eq_zero h0)
  · injection hv with hA _ hc
    subst hA
    refine .inr ⟨g, 0, rfl, (h.part.lt g rfl).2, fun e => h.apart g e.symm rfl, (fun e => by simp at e), own_bytes h.part⟩
theorem Made.piece {A : Option Addr} {n c : Nat} {l : List UInt8} (hm : Made e w l (.slice A n c) w') (h : DecAt e f w0 ps p vs vp w) (hn : l.length ≤ 9223372036854775807) : Free w' vs.ownBlock vp.ownBlock (A, l, c) := by
  have hl := own_len hm.1
  refine ⟨?_, by show l.length ≤ c; omega, hn⟩
  rcases hm.1.2 with ⟨hv, h0⟩ | ⟨g, cap, cur, hv, hb, hg, hnc, _⟩
  · exact .inl (List.eq_nil_of_length_eq_zero h0)
  · injection hv with hA _ hc
    subst hA
    refine .inr ⟨g, 0, rfl, (hm.1.lt g rfl).2, ?_, ?_, own_bytes hm.1⟩
    · intro e; have := (h.list.lt g e.symm).2; omega
    · intro e; have := (h.part.lt g e.symm).2; omega
theorem DecAt.seen {A : Option Addr} {n c : Nat} (h : DecAt e f w0 ps p vs (.slice A n c) w) : Seen w A p := by
  have hl := own_len h.part
  have hp := h.part
  obtain ⟨rfl, _⟩ := hl
  exact (Seen.of_own hp).1
theorem DecAt.shown {A : Option Addr} {n c : Nat} (h : DecAt e f w0 ps p (.slice A n c) vp w) : SeenAll w A ps := by
  rcases h.list.2 with ⟨hv, h0⟩ | ⟨g, cap, cur, hv, hb, hg, hnc, _⟩
  · exact .inl (List.eq_nil_of_length_eq_zero h0)
  · injection hv with hA _ hc
    subst hA
    refine .inr ⟨g, 0, rfl, (h.list.lt g rfl).2, fun j hj => ?_⟩
    obtain ⟨h1, h2, h3⟩ := h.each ps[j] (List.getElem_mem hj)
    have hcell := h.list.cells (g := g) rfl j (pv ps[j]) (by rw [List.getElem?_map, List.getElem?_eq_getElem hj]; rfl)
    rw [add_plain] at hcell
    refine ⟨hcell, ?_, h2, h3⟩
    rcases h1 with h1 | ⟨b, off, hA, hb', _, _, hc⟩
    · exact .inl h1
    · exact .inr ⟨b, off, hA, hb', hc⟩
end
end Go.Proofs.YtdaahapbpnjkfaaGreat
