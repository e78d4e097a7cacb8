/-
  Plain mathematics of layer 7, the log's side: what is laid; what a log's bytes are, and what is read of them; what Append and Begin leave, with and without a crash. No program is run here. No conditions.
-/
import Derived.Test.YtkbjhnlihnakkaaLgL
import Derived.Test.YtkbjhnlihnakkaaFrL
namespace Go.Proofs.Ytkbjhnlihnakkaa
open Go.RowKit

/-! what is laid -/
def aheadL (V : List (List UInt8)) (f pos : Nat) : List UInt8 := (V.getD (f + pos / 64) []).take (pos % 64)
def filledL (a : List UInt8) (room : Nat) : List UInt8 := a ++ List.replicate (min (a.length / 64 + 1) room * 64 - a.length) 0
theorem filledL_length {a : List UInt8} {room : Nat} (h : a.length ≤ room * 64) : (filledL a room).length = min (a.length / 64 + 1) room * 64 := by
  unfold filledL
  rw [List.length_append, List.length_replicate]
  omega
theorem filledL_rows {a : List UInt8} {room : Nat} (h : a.length ≤ room * 64) (h0 : 0 < room) : ∃ n, (filledL a room).length = (n + 1) * 64 ∧ n + 1 ≤ room ∧ n ≤ a.length / 64 :=
  ⟨min (a.length / 64 + 1) room - 1, by rw [filledL_length h]; omega, by omega, by omega⟩
theorem aheadL_length {V : List (List UInt8)} {f pos : Nat} (h : ∀ r ∈ V, r.length = 64) (hl : f + pos / 64 < V.length) : (aheadL V f pos).length = pos % 64 := by
  unfold aheadL
  rw [List.getD_eq_getElem?_getD, List.getElem?_eq_getElem hl, Option.getD_some, List.length_take, h _ (List.getElem_mem hl)]
  omega
theorem flat_take {K : List (List UInt8)} (h : ∀ r ∈ K, r.length = 64) (i : Nat) (hi : i ≤ K.length) : (K.take i).flatten = K.flatten.take (i * 64) := by
  have e : K.flatten = (K.take i).flatten ++ (K.drop i).flatten := by rw [← List.flatten_append, List.take_append_drop]
  have hl := take_flat_length h i hi
  rw [e, ← hl, List.take_left' rfl]
theorem flat_drop {K : List (List UInt8)} (h : ∀ r ∈ K, r.length = 64) (i : Nat) (hi : i ≤ K.length) : (K.drop i).flatten = K.flatten.drop (i * 64) := by
  have e : K.flatten = (K.take i).flatten ++ (K.drop i).flatten := by rw [← List.flatten_append, List.take_append_drop]
  have hl := take_flat_length h i hi
  rw [e, ← hl, List.drop_left' rfl]
theorem flat_ahead {K : List (List UInt8)} (h : ∀ r ∈ K, r.length = 64) (pos : Nat) (hi : pos / 64 < K.length) : K.flatten.take (pos / 64 * 64) ++ aheadL K 0 pos = K.flatten.take pos := by
  have e1 : aheadL K 0 pos = (K.flatten.drop (pos / 64 * 64)).take (pos % 64) := by
    rw [← flat_drop h _ (Nat.le_of_lt hi), List.drop_eq_getElem_cons hi, List.flatten_cons, List.take_append_of_le_length (by rw [h _ (List.getElem_mem hi)]; omega)]
    unfold aheadL
    rw [Nat.zero_add, List.getD_eq_getElem?_getD, List.getElem?_eq_getElem hi, Option.getD_some]
  rw [e1, ← List.take_add]
  congr 1
  omega
/-- what is laid from a place on -/
def laidL (V : List (List UInt8)) (f blocks pos : Nat) (code : List UInt8) : List UInt8 := filledL (aheadL V f pos ++ code) (blocks - pos / 64)
theorem laidL_rows {V : List (List UInt8)} {f blocks pos : Nat} {code : List UInt8} (h : ∀ r ∈ V, r.length = 64) (hf : f + blocks ≤ V.length) (h0 : 0 < code.length) (hfit : pos + code.length ≤ blocks * 64) :
    ∃ n, (laidL V f blocks pos code).length = (n + 1) * 64 ∧ pos / 64 + (n + 1) ≤ blocks ∧ n ≤ code.length / 64 + 1 := by
  have hl := aheadL_length h (f := f) (pos := pos) (by omega)
  obtain ⟨n, h1, h2, h3⟩ := filledL_rows (a := aheadL V f pos ++ code) (room := blocks - pos / 64) (by rw [List.length_append, hl]; omega) (by omega)
  refine ⟨n, h1, by omega, ?_⟩
  rw [List.length_append, hl] at h3
  omega
theorem laid_bytes {K : List (List UInt8)} {pos : Nat} {code : List UInt8} (h : ∀ r ∈ K, r.length = 64) (h0 : 0 < code.length) (hfit : pos + code.length ≤ K.length * 64) :
    ∃ t, (splice K (pos / 64) (rowsOf (laidL K 0 K.length pos code))).flatten = K.flatten.take pos ++ (code ++ t) ∧ (t = [] ∨ t.head? = some 0) := by
  obtain ⟨n, h1, h2, _⟩ := laidL_rows (f := 0) (blocks := K.length) h (by omega) h0 hfit
  have hl := aheadL_length h (f := 0) (pos := pos) (by omega)
  have hr : (rowsOf (laidL K 0 K.length pos code)).length = n + 1 := by rw [rowsOf_length, h1]; omega
  have hk : K.flatten.length = K.length * 64 := flat_length K h
  refine ⟨List.replicate (min ((aheadL K 0 pos ++ code).length / 64 + 1) (K.length - pos / 64) * 64 - (aheadL K 0 pos ++ code).length) 0 ++ K.flatten.drop ((pos / 64 + (n + 1)) * 64), ?_, ?_⟩
  · unfold splice
    rw [List.flatten_append, List.flatten_append, flat_take h _ (by omega), rowsOf_flat h1, hr, flat_drop h _ h2, ← flat_ahead h pos (by omega)]
    unfold laidL filledL
    simp only [List.append_assoc]
  · have ha : (aheadL K 0 pos ++ code).length = pos % 64 + code.length := by rw [List.length_append, hl]
    have h1' := h1
    unfold laidL at h1'
    rw [filledL_length (by omega)] at h1'
    generalize hz : min ((aheadL K 0 pos ++ code).length / 64 + 1) (K.length - pos / 64) * 64 - (aheadL K 0 pos ++ code).length = z
    rcases Nat.eq_zero_or_pos z with hz0 | hz0
    · left
      subst hz0
      rw [List.drop_eq_nil_of_le (by omega)]; rfl
    · right
      obtain ⟨z', rfl⟩ : ∃ z', z = z' + 1 := ⟨z - 1, by omega⟩
      rw [List.replicate_succ]; rfl
/-- blocks up to that of a place are as they were -/
theorem same_bytes {K K' : List (List UInt8)} {pos : Nat} (h : ∀ r ∈ K, r.length = 64) (h' : ∀ r ∈ K', r.length = 64) (hl : K'.length = K.length) (hp : pos < K.length * 64) (ht : K'.take (pos / 64 + 1) = K.take (pos / 64 + 1)) :
    K'.flatten.take (64 * (pos / 64 + 1)) = K.flatten.take (64 * (pos / 64 + 1)) ∧ ∃ t, K'.flatten = K.flatten.take pos ++ t ∧ t.head? = (K.flatten.drop pos).head? := by
  have e : K'.flatten.take ((pos / 64 + 1) * 64) = K.flatten.take ((pos / 64 + 1) * 64) := by
    rw [← flat_take h _ (by omega), ← flat_take h' _ (by omega), ht]
  have hk : K.flatten.length = K.length * 64 := flat_length K h
  have hk' : K'.flatten.length = K'.length * 64 := flat_length K' h'
  have get : ∀ j, j < (pos / 64 + 1) * 64 → K'.flatten[j]? = K.flatten[j]? := fun j hj => by
    have := congrArg (·[j]?) e
    simpa [List.getElem?_take, hj] using this
  refine ⟨by rw [Nat.mul_comm]; exact e, K'.flatten.drop pos, ?_, ?_⟩
  · have e2 : K'.flatten.take pos = K.flatten.take pos := by
      have := congrArg (List.take pos) e
      rwa [List.take_take, List.take_take, Nat.min_eq_left (by omega)] at this
    rw [← e2, List.take_append_drop]
  · rw [List.head?_drop, List.head?_drop]
    exact get pos (by omega)

/-! what a log's bytes are -/
def framesL (g : Int) : Nat → List (List UInt8) → List UInt8
  | _, [] => []
  | s, d :: ds => frameL g (s : Int) d ++ framesL g (s + 1) ds
def LogAt (g : Int) : Nat → List (List UInt8) → List UInt8 → Prop
  | _, [], b => b = [] ∨ b.head? = some 0
  | s, d :: ds, b => mayB g (s : Int) d.length = true ∧ ∃ t, b = frameL g (s : Int) d ++ t ∧ LogAt g (s + 1) ds t
theorem framesL_append (g : Int) : ∀ (ds es : List (List UInt8)) (s : Nat), framesL g s (ds ++ es) = framesL g s ds ++ framesL g (s + ds.length) es
  | [], _, _ => rfl
  | d :: ds, es, s => by
    rw [List.cons_append, framesL, framesL, framesL_append g ds es (s + 1), List.append_assoc, List.length_cons, Nat.add_assoc, Nat.add_comm 1]
theorem framesL_seq (g : Int) : ∀ (ds : List (List UInt8)) (s : Nat), ds.length ≤ (framesL g s ds).length
  | [], _ => Nat.zero_le _
  | d :: ds, s => by
    have := framesL_seq g ds (s + 1)
    have := frameL_pos g (s : Int) d
    rw [framesL, List.length_append, List.length_cons]; omega
theorem logAt_split {g : Int} : ∀ {ds : List (List UInt8)} {s : Nat} {b : List UInt8}, LogAt g s ds b → ∃ t, b = framesL g s ds ++ t ∧ (t = [] ∨ t.head? = some 0)
  | [], _, b, h => ⟨b, rfl, h⟩
  | d :: ds, s, b, ⟨_, t, hb, ht⟩ => by
    obtain ⟨u, hu, hh⟩ := logAt_split ht
    exact ⟨u, by rw [hb, hu, framesL, List.append_assoc], hh⟩
theorem logAt_swap {g : Int} : ∀ {ds : List (List UInt8)} {s : Nat} {b es : _} {t : List UInt8}, LogAt g s ds b → LogAt g (s + ds.length) es t → LogAt g s (ds ++ es) (framesL g s ds ++ t)
  | [], _, _, _, _, _, h => h
  | d :: ds, s, b, es, t, ⟨hm, u, _, hu⟩, h => by
    refine ⟨hm, framesL g (s + 1) ds ++ t, by rw [framesL, List.append_assoc], ?_⟩
    rw [List.length_cons] at h
    exact logAt_swap hu (by rwa [show s + 1 + ds.length = s + (ds.length + 1) by omega])
theorem logAt_take {g : Int} {ds : List (List UInt8)} {s : Nat} {b : List UInt8} (h : LogAt g s ds b) : b.take (framesL g s ds).length = framesL g s ds ∧ (framesL g s ds).length ≤ b.length ∧ (b.drop (framesL g s ds).length = [] ∨ (b.drop (framesL g s ds).length).head? = some 0) := by
  obtain ⟨t, rfl, ht⟩ := logAt_split h
  exact ⟨List.take_left' rfl, by rw [List.length_append]; omega, by rw [List.drop_left' rfl]; exact ht⟩

/-! what is read of bytes -/
def scanL (g : Int) (s : Nat) (b : List UInt8) : List (List UInt8) :=
  match h : decF b with
  | none => []
  | some f => if f.1 = g ∧ f.2.1 = (s : Int) then f.2.2 :: scanL g (s + 1) (b.drop (frameL f.1 f.2.1 f.2.2).length) else []
termination_by b.length
decreasing_by
  have h1 := decF_fits h
  have h2 := frameL_pos f.1 f.2.1 f.2.2
  rw [List.length_drop]; omega
theorem scanL_none {g : Int} {s : Nat} {b : List UInt8} (h : decF b = none) : scanL g s b = [] := by
  rw [scanL]
  split
  · rfl
  · rename_i h'; rw [h] at h'; cases h'
theorem scanL_some {g : Int} {s : Nat} {b : List UInt8} {f : Int × Int × List UInt8} (h : decF b = some f) : scanL g s b = if f.1 = g ∧ f.2.1 = (s : Int) then f.2.2 :: scanL g (s + 1) (b.drop (frameL f.1 f.2.1 f.2.2).length) else [] := by
  rw [scanL]
  split
  · rename_i h'; rw [h] at h'; cases h'
  · rename_i f' h'
    rw [h] at h'
    injection h' with h'
    rw [h']
theorem dec_zero {b : List UInt8} (h : b = [] ∨ b.head? = some 0) : decF b = none := by
  rcases h with rfl | h
  · exact dec_short (by simp)
  · cases b with
    | nil => cases h
    | cons x r =>
      rw [List.head?_cons] at h
      injection h with h
      exact dec_mark (by rw [h]; decide)
theorem scan_at {g : Int} : ∀ {ds : List (List UInt8)} {s : Nat} {b : List UInt8}, LogAt g s ds b → scanL g s b = ds
  | [], _, _, h => scanL_none (dec_zero h)
  | d :: ds, s, b, ⟨hm, t, hb, ht⟩ => by
    have hd : decF b = some (g, (s : Int), d) := by rw [hb]; exact dec_enc hm t
    rw [scanL_some hd, if_pos ⟨rfl, rfl⟩]
    simp only
    rw [hb, List.drop_left' rfl, scan_at ht]
theorem scan_fits (g : Int) : ∀ (n : Nat) (b : List UInt8) (s : Nat), b.length ≤ n → (framesL g s (scanL g s b)).length ≤ b.length
  | 0, b, s, h => by
    rw [scanL_none (dec_short (by omega))]; exact Nat.zero_le _
  | n + 1, b, s, h => by
    rcases hd : decF b with _ | f
    · rw [scanL_none hd]; exact Nat.zero_le _
    · rw [scanL_some hd]
      split
      · rename_i hf
        have h1 := decF_fits hd
        have h2 := frameL_pos f.1 f.2.1 f.2.2
        have ih := scan_fits g n (b.drop (frameL f.1 f.2.1 f.2.2).length) (s + 1) (by rw [List.length_drop]; omega)
        rw [List.length_drop] at ih
        have e : frameL g (s : Int) f.2.2 = frameL f.1 f.2.1 f.2.2 := by rw [hf.1, hf.2]
        rw [framesL, List.length_append, e]
        omega
      · exact Nat.zero_le _
/-- what Open finds -/
def openL (b : List UInt8) : Option (Int × List (List UInt8)) :=
  match decF b with
  | none => none
  | some f => if f.1 < 1 ∨ f.2.1 ≠ 0 then none else some (f.1, scanL f.1 0 b)
theorem open_at {g : Int} {d : List UInt8} {ds : List (List UInt8)} {b : List UInt8} (h : LogAt g 0 (d :: ds) b) (hg : 1 ≤ g) : openL b = some (g, d :: ds) := by
  have hs := scan_at h
  obtain ⟨hm, t, hb, _⟩ := h
  have hd : decF b = some (g, ((0 : Nat) : Int), d) := by rw [hb]; exact dec_enc hm t
  unfold openL
  rw [hd]
  simp only
  rw [if_neg (by omega), hs]
theorem open_some {b : List UInt8} {g : Int} {ds : List (List UInt8)} (h : openL b = some (g, ds)) : 1 ≤ g ∧ g ≤ 1152921504606846976 ∧ ds = scanL g 0 b ∧ ds ≠ [] := by
  unfold openL at h
  split at h
  · cases h
  · rename_i f hd
    split at h
    · cases h
    · rename_i hf
      injection h with h
      injection h with h1 h2
      have hm := mayB_true (decF_some hd).2.1
      subst h1
      refine ⟨by omega, hm.2.1, h2.symm, ?_⟩
      rw [← h2, scanL_some hd, if_pos ⟨rfl, by omega⟩]
      exact List.cons_ne_nil _ _
/-- where the first block is of an elder turn, a frame that is found is of that turn -/
theorem turn_old {d : List UInt8} {ds : List (List UInt8)} {b b' : List UInt8} (h : LogAt 1 0 (d :: ds) b) (hb : b'.take 64 = b.take 64) : openL b' = none ∨ ∃ es, openL b' = some (1, es) := by
  obtain ⟨hm, t, rfl, _⟩ := h
  have h5 := (mayB_true hm).2.2.2.2
  have hp := putL3 h5
  have hp0 := putL_pos d.length
  have w8 := wideI_length 1
  have w9 := wideI_length ((0 : Nat) : Int)
  obtain ⟨H, hH⟩ : ∃ H, H = 245 :: (putL d.length ++ (wideI 1 ++ wideI ((0 : Nat) : Int))) := ⟨_, rfl⟩
  have hl : H.length ≤ 64 := by rw [hH, List.length_cons, List.length_append, List.length_append, w8, w9]; omega
  have e1 : frameL 1 ((0 : Nat) : Int) d ++ t = H ++ (d ++ (sumOf (headL 1 ((0 : Nat) : Int) d) ++ t)) := by
    rw [hH]; simp only [frameL, headL, List.cons_append, List.append_assoc]
  rw [e1] at hb
  have e2 : b'.take H.length = H := by
    have := congrArg (List.take H.length) hb
    rw [List.take_take, List.take_take, Nat.min_eq_left hl, List.take_left' rfl] at this
    exact this
  obtain ⟨u, hu⟩ : ∃ u, b' = H ++ u := ⟨b'.drop H.length, by conv => { lhs; rw [← List.take_append_drop H.length b'] }; rw [e2]⟩
  rcases hd : decF b' with _ | f
  · left; unfold openL; rw [hd]
  · have hr := (decF_some hd).1
    rw [hu, hH, List.cons_append, readF] at hr
    simp only [List.append_assoc] at hr
    obtain ⟨_, _, _, _, f1, f2⟩ := readR_some hr
    rw [get_put0 _ d.length (by omega)] at f1 f2
    simp only [List.drop_left] at f1 f2
    have d1 : List.take 8 (wideI 1 ++ (wideI ((0 : Nat) : Int) ++ u)) = wideI 1 := by rw [← w8]; exact List.take_left' rfl
    have d2 : List.drop 8 (wideI 1 ++ (wideI ((0 : Nat) : Int) ++ u)) = wideI ((0 : Nat) : Int) ++ u := by rw [← w8]; exact List.drop_left' rfl
    have d3 : List.take 8 (wideI ((0 : Nat) : Int) ++ u) = wideI ((0 : Nat) : Int) := by rw [← w9]; exact List.take_left' rfl
    rw [d1, nar_wideI (by omega) (by omega)] at f1
    rw [d2, d3, nar_wideI (by omega) (by omega)] at f2
    right
    unfold openL
    rw [hd]
    simp only
    rw [if_neg (by omega), f1]
    exact ⟨_, rfl⟩

/-! the log itself -/
structure Lg where
  f : Nat
  blocks : Nat
  gen : Int
  seq : Nat
  fin : Nat
  down : Bool
structure Lg.Fits (l : Lg) (s : Dsk) : Prop where
  pos : 1 ≤ l.blocks
  area : l.f + l.blocks ≤ s.K.length
  fin : l.fin ≤ l.blocks * 64
  seq : l.seq ≤ l.fin
  gen1 : 1 ≤ l.gen
  gen2 : l.gen ≤ 1152921504606846976
namespace Lg
def room (l : Lg) : Nat := l.blocks * 64 - l.fin
def code (l : Lg) (d : List UInt8) : List UInt8 := encF l.gen (l.seq : Int) d
/-- it is not put -/
def full (l : Lg) (d : List UInt8) : Bool := decide ((l.code d).length = 0) || decide (l.room < (l.code d).length)
def laid (l : Lg) (s : Dsk) (d : List UInt8) : List UInt8 := laidL s.view l.f l.blocks l.fin (l.code d)
def err (l : Lg) (s : Dsk) (d : List UInt8) : Int := if l.down then 5 else if l.full d then 4 else s.layErr (l.laid s d) (l.f + l.fin / 64)
def dsk (l : Lg) (s : Dsk) (d : List UInt8) : Dsk := if l.down || l.full d then s else s.lay (l.laid s d) (l.f + l.fin / 64)
def put (l : Lg) (d : List UInt8) : Lg := { l with fin := l.fin + (l.code d).length, seq := l.seq + 1 }
def next (l : Lg) (s : Dsk) (d : List UInt8) : Lg := if l.down || l.full d then l else if l.err s d = 0 then l.put d else { l with down := true }
def new (f blocks : Nat) (gen : Int) : Lg := ⟨f, blocks, gen, 0, 0, false⟩
/-- of the log that Open finds -/
def found (f blocks : Nat) (gen : Int) (ds : List (List UInt8)) : Lg := ⟨f, blocks, gen, ds.length, (framesL gen 0 ds).length, false⟩
theorem code_fits (l : Lg) (d : List UInt8) : (l.code d).length ≤ 65560 := encF_fits _ _ _
theorem full_false {l : Lg} {d : List UInt8} (h : l.full d = false) : 0 < (l.code d).length ∧ (l.code d).length ≤ l.room ∧ mayB l.gen (l.seq : Int) d.length = true ∧ l.code d = frameL l.gen (l.seq : Int) d := by
  unfold full at h
  rw [Bool.or_eq_false_iff, decide_eq_false_iff_not, decide_eq_false_iff_not] at h
  have hm : mayB l.gen (l.seq : Int) d.length = true := by
    cases hm : mayB l.gen (l.seq : Int) d.length
    · exfalso; apply h.1; unfold code; rw [encF_not hm]; rfl
    · rfl
  exact ⟨by omega, by omega, hm, encF_may hm⟩
theorem rows {l : Lg} {s : Dsk} {d : List UInt8} (hf : l.Fits s) (ok : s.Ok) (h : l.full d = false) :
    ∃ n, (l.laid s d).length = (n + 1) * 64 ∧ l.fin / 64 + (n + 1) ≤ l.blocks ∧ n ≤ (l.code d).length / 64 + 1 := by
  obtain ⟨h0, h1, _, _⟩ := full_false h
  have h2 := hf.fin
  unfold room at h1
  exact laidL_rows (view_len ok) (by rw [view_length]; exact hf.area) h0 (by omega)
theorem Fits.next {l : Lg} {s : Dsk} {d : List UInt8} (hf : l.Fits s) : (l.next s d).Fits (l.dsk s d) ∧ (s.Ok → (l.dsk s d).Ok) ∧ (l.dsk s d).K.length = s.K.length := by
  have hK : (l.dsk s d).K.length = s.K.length := by
    unfold dsk
    split
    · rfl
    · exact Dsk.klen_lay _ _ _
  refine ⟨?_, fun ok => ?_, hK⟩
  · unfold Lg.next
    split
    · exact ⟨hf.pos, by rw [hK]; exact hf.area, hf.fin, hf.seq, hf.gen1, hf.gen2⟩
    · rename_i h
      rw [Bool.or_eq_true, not_or] at h
      have hfull : l.full d = false := by simpa using h.2
      obtain ⟨h0, h1, _, _⟩ := full_false hfull
      unfold room at h1
      have := hf.fin
      have := hf.seq
      split
      · exact ⟨hf.pos, by rw [hK]; exact hf.area, by show l.fin + _ ≤ l.blocks * 64; omega, by show l.seq + 1 ≤ l.fin + _; omega, hf.gen1, hf.gen2⟩
      · exact ⟨hf.pos, by rw [hK]; exact hf.area, hf.fin, hf.seq, hf.gen1, hf.gen2⟩
  · unfold dsk
    split
    · exact ok
    · rename_i h
      rw [Bool.or_eq_true, not_or] at h
      obtain ⟨n, h1, h2, _⟩ := rows hf ok (d := d) (by simpa using h.2)
      have := hf.area
      exact ok.lay h1 (by omega)
theorem few {l : Lg} {s : Dsk} {d : List UInt8} {m : Nat} (hf : l.Fits s) (ok : s.Ok) (h : s.Few m) : (l.dsk s d).Few (m + (l.code d).length / 64 + 4) := by
  unfold dsk
  split
  · exact h.mono (by omega)
  · rename_i hn
    rw [Bool.or_eq_true, not_or] at hn
    obtain ⟨n, h1, h2, h3⟩ := rows hf ok (d := d) (by simpa using hn.2)
    exact (h.lay h1).mono (by omega)
end Lg
end Go.Proofs.Ytkbjhnlihnakkaa
