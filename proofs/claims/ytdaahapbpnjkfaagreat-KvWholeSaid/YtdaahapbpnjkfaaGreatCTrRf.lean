/-
  The program's disk and log and the document's, side by side: what each call leaves of them. Conditions: as each says.
  Plain mathematics of layer 9: what Commit comes to, as a function of the disk and of the store as lists. No program is run here. No conditions.
  Plain mathematics of layer 9: what Commit and Open come to on a disk that holds a store, with and without a crash. No program is run here. No conditions.
  The document's map as it lies; find, Size, Get. Conditions: at most 100,000 pairs, of at most 1,000,000,000 bytes a key and a value.
-/
import Derived.Test.YtdaahapbpnjkfaaGreatCRefF
import Derived.Test.YtdaahapbpnjkfaaGreatCFDec
import Derived.Test.YtdaahapbpnjkfaaGreatCRefOf
import Derived.Test.YtdaahapbpnjkfaaGreatCSearch
import Derived.Test.YtdaahapbpnjkfaaGreatCTrGet
import Derived.Test.YtdaahapbpnjkfaaGreatCDkImage
import Derived.BigQuiet
namespace Go.Proofs.YtdaahapbpnjkfaaGreat
open Go.RowKit
abbrev Box := Nat × List Value × TypeId
def Two (w : World) (g r : Nat) (s t : Dsk) (xs : List Box) (wr : World) : Prop :=
  ∃ F G, DiskAt wr g F s ∧ RefAt wr r G t ∧ (∀ q, F q → w.heap.size ≤ q) ∧ (∀ q, G q → w.heap.size ≤ q) ∧ (∀ q, F q → ¬ G q) ∧ Below w.heap.size w wr ∧ ∀ x ∈ xs, Blk wr x.1 x.2.1 x.2.2 ∧ ¬ F x.1 ∧ ¬ G x.1 ∧ w.heap.size ≤ x.1
section
variable {w wr w' : World} {g r b c : Nat} {s t s' t' : Dsk} {A : Option Addr} {d : List UInt8} {p : List Int} {n q cp : Nat} {i : Int} {xs ys : List Box} {l : Lg} {F G F' G' B : Nat → Prop}
theorem Two.below (h : Two w g r s t xs wr) : Below w.heap.size w wr := by obtain ⟨_, _, _, _, _, _, _, h, _⟩ := h; exact h
theorem Two.ok (h : Two w g r s t xs wr) : s.Ok := by obtain ⟨_, _, h, _⟩ := h; exact h.ok
theorem Two.box (h : Two w g r s t xs wr) {x : Box} (hx : x ∈ xs) : Blk wr x.1 x.2.1 x.2.2 := by obtain ⟨_, _, _, _, _, _, _, _, h⟩ := h; exact (h x hx).1
theorem Two.keep (h : Two w g r s t xs wr) (hy : ∀ y ∈ ys, y ∈ xs) : Two w g r s t ys wr := by
  obtain ⟨F, G, h1, h2, h3, h4, h5, h6, h7⟩ := h
  exact ⟨F, G, h1, h2, h3, h4, h5, h6, fun y hm => h7 y (hy y hm)⟩
theorem Two.still (h : Two w g r s t xs wr) (hb : Below wr.heap.size wr w') : Two w g r s t xs w' := by
  obtain ⟨F, G, h1, h2, h3, h4, h5, h6, h7⟩ := h
  exact ⟨F, G, h1.still hb, h2.still hb, h3, h4, h5, hop h6 hb, fun x hx => ⟨(h7 x hx).1.below hb (h7 x hx).1.lt, (h7 x hx).2⟩⟩
theorem Two.adds (h : Two w g r s t xs wr) (hb : Below wr.heap.size wr w') {x : Box} (hx : Blk w' x.1 x.2.1 x.2.2) (hn : wr.heap.size ≤ x.1) : Two w g r s t (x :: xs) w' := by
  obtain ⟨F, G, h1, h2, h3, h4, h5, h6, h7⟩ := h
  refine ⟨F, G, h1.still hb, h2.still hb, h3, h4, h5, hop h6 hb, fun y hy => ?_⟩
  rcases List.mem_cons.1 hy with rfl | hy
  · exact ⟨hx, fun hf => by have := h1.lt _ hf; omega, fun hg => by have := h2.lt _ hg; omega, Nat.le_trans h6.size hn⟩
  · exact ⟨(h7 y hy).1.below hb (h7 y hy).1.lt, (h7 y hy).2⟩
theorem Two.holds (h : Two w g r s t xs wr) (L : List Value) (T : TypeId) : Two w g r s t ((wr.heap.size, L, T) :: xs) (wr.alloc (.cells L.toArray T)) :=
  h.adds ((Below.refl _ _).alloc (Nat.le_refl _) _) (Blk.new wr L T) (Nat.le_refl _)
end
def lp (lo : Option Lg) (b : Nat) : Value := .pointer (lo.map fun _ => ⟨b, 0, none⟩)
def BgTo (s : Dsk) (f N gen : Int) (d : List UInt8) (E : Int) (s' : Dsk) (lo : Option Lg) : Prop :=
  (¬ (OnDisk s f N ∧ 1 ≤ gen ∧ gen ≤ 1152921504606846976) ∧ E = 1 ∧ s' = s ∧ lo = none) ∨
  ((OnDisk s f N ∧ 1 ≤ gen ∧ gen ≤ 1152921504606846976) ∧ (Lg.new f.toNat N.toNat gen).err s d ≠ 0 ∧ E = (Lg.new f.toNat N.toNat gen).err s d ∧ s' = (Lg.new f.toNat N.toNat gen).dsk s d ∧ lo = none) ∨
  ((OnDisk s f N ∧ 1 ≤ gen ∧ gen ≤ 1152921504606846976) ∧ (Lg.new f.toNat N.toNat gen).err s d = 0 ∧ E = 0 ∧ s' = (Lg.new f.toNat N.toNat gen).dsk s d ∧ lo = some ((Lg.new f.toNat N.toNat gen).next s d))
theorem bg_fits {s s' : Dsk} {f N gen E : Int} {d : List UInt8} {lo : Option Lg} {m : Nat} (h : BgTo s f N gen d E s' lo) (ok : s.Ok) (hf : s.Few m) : (∀ l, lo = some l → l.Fits s') ∧ s'.Few (m + 1100) := by
  have hc := (Lg.new f.toNat N.toNat gen).code_fits d
  rcases h with ⟨_, _, rfl, rfl⟩ | ⟨hg, _, _, rfl, rfl⟩ | ⟨hg, _, _, rfl, rfl⟩
  · exact ⟨(fun l h => by cases h), hf.mono (by omega)⟩
  · exact ⟨(fun l h => by cases h), (Lg.few (new_fits hg) ok hf).mono (by omega)⟩
  · refine ⟨fun l h => ?_, (Lg.few (new_fits hg) ok hf).mono (by omega)⟩
    injection h with h
    rw [← h]
    exact (new_fits hg).next.1
def OpTo (s : Dsk) (f N : Int) (E : Int) (lo : Option Lg) (ds : List (List UInt8)) : Prop :=
  (¬ OnDisk s f N ∧ E = 1 ∧ lo = none ∧ ds = []) ∨ (OnDisk s f N ∧ s.off = true ∧ E = 5 ∧ lo = none ∧ ds = []) ∨
  (OnDisk s f N ∧ s.off = false ∧ openL (s.bytes f.toNat N.toNat) = none ∧ E = 13 ∧ lo = none ∧ ds = []) ∨
  (OnDisk s f N ∧ s.off = false ∧ ∃ gen, openL (s.bytes f.toNat N.toNat) = some (gen, ds) ∧ E = 0 ∧ lo = some (Lg.found f.toNat N.toNat gen ds))
theorem op_fits {s : Dsk} {f N E : Int} {lo : Option Lg} {ds : List (List UInt8)} (h : OpTo s f N E lo ds) (ok : s.Ok) : (∀ l, lo = some l → l.Fits s) ∧ ds.length ≤ 262144 := by
  rcases h with ⟨_, _, rfl, rfl⟩ | ⟨_, _, _, rfl, rfl⟩ | ⟨_, _, _, _, rfl, rfl⟩ | ⟨⟨h1, h2, h3⟩, _, gen, hp, _, rfl⟩
  · exact ⟨(fun l h => by cases h), by simp⟩
  · exact ⟨(fun l h => by cases h), by simp⟩
  · exact ⟨(fun l h => by cases h), by simp⟩
  · have hK := ok.hi
    have hlen := bytes_length ok (f := f.toNat) (N := N.toNat) (by omega)
    obtain ⟨g1, g2, hds, _⟩ := open_some hp
    have hfit := scan_fits gen _ (s.bytes f.toNat N.toNat) 0 (Nat.le_refl _)
    rw [← hds, hlen] at hfit
    have hseq := framesL_seq gen ds 0
    refine ⟨fun l h => ?_, by omega⟩
    injection h with h
    rw [← h]
    exact ⟨by show 1 ≤ N.toNat; omega, by show f.toNat + N.toNat ≤ _; omega, hfit, hseq, g1, g2⟩
section
variable {w wr w' : World} {g r : Nat} {s t s' t' : Dsk} {A : Option Addr} {d : List UInt8} {n q cp : Nat} {f N gen E : Int} {xs : List Box} {lo : Option Lg} {ds : List (List UInt8)}
end
end Go.Proofs.YtdaahapbpnjkfaaGreat
namespace Go.Proofs.YtdaahapbpnjkfaaGreat
open Go.RowKit
structure KvS where
  a : Nat
  lg : Lg
  L : List Kv
  down : Bool
def turnL (h : Nat) (s : Dsk) (k : KvS) (M : List Kv) : Int × Dsk × KvS :=
  if 1152921504606846976 ≤ k.lg.gen then (4, s, k)
  else ((Lg.new ((1 - k.a) * h) h (k.lg.gen + 1)).err s (batchL (allP M)), (Lg.new ((1 - k.a) * h) h (k.lg.gen + 1)).dsk s (batchL (allP M)),
    if (Lg.new ((1 - k.a) * h) h (k.lg.gen + 1)).err s (batchL (allP M)) = 0 then { k with a := 1 - k.a, lg := (Lg.new ((1 - k.a) * h) h (k.lg.gen + 1)).next s (batchL (allP M)) } else k)
def mayOneV (p : PutV) : Bool := decide (p.1.length ≤ 512) && decide (p.2.1.length ≤ 8192)
def mayV (l : List PutV) : Bool := decide (l.length ≤ 1000) && l.all mayOneV
def KvS.ends (k : KvS) (E : Int) (M : List Kv) : KvS := { k with down := decide (E = 5), L := if E = 0 then M else k.L }
def commitL (h : Nat) (s : Dsk) (k : KvS) (l : List PutV) : Int × Dsk × KvS :=
  if k.down then (5, s, k) else if mayV l = false then (2, s, k) else if l = [] then (0, s, k)
  else if k.lg.err s (batchL l) = 4 then ((turnL h s k (doAll l k.L)).1, (turnL h s k (doAll l k.L)).2.1, (turnL h s k (doAll l k.L)).2.2.ends (turnL h s k (doAll l k.L)).1 (doAll l k.L))
  else (k.lg.err s (batchL l), k.lg.dsk s (batchL l), { k with lg := k.lg.next s (batchL l) }.ends (k.lg.err s (batchL l)) (doAll l k.L))
structure KvS.Fits (k : KvS) (h : Nat) (s : Dsk) : Prop where
  half : Halves s h
  two : k.a ≤ 1
  log : k.lg.Fits s
theorem other_on {s : Dsk} {h a : Nat} (hh : Halves s h) : OnDisk s (((1 - a) * h : Nat) : Int) (h : Int) := by
  have h1 := two_fits (a := 1 - a) (by omega) hh.fits
  have h2 := hh.pos
  exact ⟨by omega, by omega, by omega⟩
theorem turn_bg {s : Dsk} {h : Nat} {k : KvS} {M : List Kv} (f : k.Fits h s) (hg : ¬ 1152921504606846976 ≤ k.lg.gen) :
    ∃ lo, BgTo s (((1 - k.a) * h : Nat) : Int) (h : Int) (k.lg.gen + 1) (batchL (allP M)) (turnL h s k M).1 (turnL h s k M).2.1 lo ∧
      ((turnL h s k M).1 = 0 → lo = some (turnL h s k M).2.2.lg ∧ (turnL h s k M).2.2 = { k with a := 1 - k.a, lg := (turnL h s k M).2.2.lg }) ∧ ((turnL h s k M).1 ≠ 0 → lo = none ∧ (turnL h s k M).2.2 = k) := by
  have hon : OnDisk s (((1 - k.a) * h : Nat) : Int) (h : Int) ∧ 1 ≤ k.lg.gen + 1 ∧ k.lg.gen + 1 ≤ 1152921504606846976 := ⟨other_on f.half, by have := f.log.gen1; omega, by omega⟩
  unfold turnL
  rw [if_neg hg]
  simp only
  by_cases h0 : (Lg.new ((1 - k.a) * h) h (k.lg.gen + 1)).err s (batchL (allP M)) = 0
  · rw [if_pos h0]
    refine ⟨_, .inr (.inr ⟨hon, ?_, h0, rfl, rfl⟩), fun _ => ⟨rfl, rfl⟩, fun h1 => absurd h0 h1⟩
    exact h0
  · rw [if_neg h0]
    refine ⟨none, .inr (.inl ⟨hon, h0, rfl, rfl, rfl⟩), fun h1 => absurd h1 h0, fun _ => ⟨rfl, rfl⟩⟩
theorem turn_fits {s : Dsk} {h : Nat} {k : KvS} {M : List Kv} (f : k.Fits h s) : (turnL h s k M).2.2.Fits h (turnL h s k M).2.1 ∧ (s.Ok → (turnL h s k M).2.1.Ok) ∧ (turnL h s k M).2.1.K.length = s.K.length := by
  by_cases hg : 1152921504606846976 ≤ k.lg.gen
  · unfold turnL
    rw [if_pos hg]
    exact ⟨f, id, rfl⟩
  · have hfit : (Lg.new ((1 - k.a) * h) h (k.lg.gen + 1)).Fits s := ⟨f.half.pos, two_fits (a := 1 - k.a) (by omega) f.half.fits, Nat.zero_le _, Nat.le_refl _, by show 1 ≤ k.lg.gen + 1; have := f.log.gen1; omega, by show k.lg.gen + 1 ≤ _; omega⟩
    have hn := hfit.next (d := batchL (allP M))
    unfold turnL
    rw [if_neg hg]
    refine ⟨?_, hn.2.1, hn.2.2⟩
    have hh : Halves ((Lg.new ((1 - k.a) * h) h (k.lg.gen + 1)).dsk s (batchL (allP M))) h := ⟨f.half.pos, by rw [hn.2.2]; exact f.half.fits⟩
    simp only
    split
    · exact ⟨hh, by show 1 - k.a ≤ 1; omega, hn.1⟩
    · exact ⟨hh, f.two, ⟨f.log.pos, by rw [hn.2.2]; exact f.log.area, f.log.fin, f.log.seq, f.log.gen1, f.log.gen2⟩⟩
theorem turn_few {s : Dsk} {h m : Nat} {k : KvS} {M : List Kv} (f : k.Fits h s) (ok : s.Ok) (hf : s.Few m) : (turnL h s k M).2.1.Few (m + 1100) := by
  by_cases hg : 1152921504606846976 ≤ k.lg.gen
  · unfold turnL
    rw [if_pos hg]
    exact hf.mono (by omega)
  · obtain ⟨lo, hb, _⟩ := turn_bg (M := M) f hg
    exact (bg_fits hb ok hf).2
end Go.Proofs.YtdaahapbpnjkfaaGreat
namespace Go.Proofs.YtdaahapbpnjkfaaGreat
open Go.RowKit
def Mild (L : List Kv) : Prop := L.length ≤ 1000000000 ∧ sizeT L ≤ 1000000000
theorem sizeT_mem {L : List Kv} {x : Kv} (h : x ∈ L) : x.1.length + x.2.length ≤ sizeT L := by
  induction L with
  | nil => cases h
  | cons y L ih =>
    rw [sizeL_cons]
    rcases List.mem_cons.1 h with rfl | h
    · omega
    · have := ih h; omega
theorem recs_all {M : List Kv} (hs : Srt M) (hm : Mild M) : recsL [batchL (allP M)] [] = some M := by
  rw [recsL_batch (by unfold allP; rw [List.length_map]; have := hm.1; omega), do_all hs]
  intro p hp
  unfold allP at hp
  obtain ⟨x, hx, rfl⟩ := List.mem_map.1 hp
  have h1 := sizeT_mem hx
  have h2 := hm.2
  constructor
  · show x.1.length ≤ _; omega
  · show x.2.length ≤ _; omega
theorem recs_batch {l : List PutV} (h : mayV l = true) (L : List Kv) : recsL [batchL l] L = some (doAll l L) := by
  unfold mayV at h
  rw [Bool.and_eq_true, decide_eq_true_eq, List.all_eq_true] at h
  refine recsL_batch (by have := h.1; omega) (fun p hp => ?_) L
  have h2 := h.2 p hp
  unfold mayOneV at h2
  rw [Bool.and_eq_true, decide_eq_true_eq, decide_eq_true_eq] at h2
  omega
def kvAt (h a : Nat) (g : Int) (ds : List (List UInt8)) (L : List Kv) : KvS := ⟨a, kvLog h a g ds, L, false⟩
def CommitTo (h : Nat) (s : Dsk) (a : Nat) (g : Int) (ds : List (List UInt8)) (L M : List Kv) (E : Int) (s' : Dsk) (k' : KvS) : Prop :=
  (E = 0 ∧ ∃ a' g' ds', KvOn s' h a' g' ds' M ∧ k' = kvAt h a' g' ds' M ∧ (s.Quiet → s'.Quiet) ∧ g ≤ g' ∧ g' ≤ g + 1) ∨
  (E = 4 ∧ s' = s ∧ k' = kvAt h a g ds L) ∨
  (E = 5 ∧ ¬ s.Quiet ∧ k'.down = true ∧ ∀ pick, ∃ a' g' ds' N, KvOn (s'.crash pick) h a' g' ds' N ∧ (N = L ∨ N = M))
theorem commit_none {h : Nat} {s : Dsk} {k : KvS} (hd : k.down = false) : commitL h s k [] = (0, s, k) := by
  unfold commitL
  rw [if_neg (by rw [hd]; decide), if_neg (by decide), if_pos rfl]
theorem commit_to {h a : Nat} {s : Dsk} {g : Int} {ds : List (List UInt8)} {L : List Kv} {l : List PutV} (k : KvOn s h a g ds L) (hm : mayV l = true) (hl : l ≠ []) (hM : Mild (doAll l L)) :
    CommitTo h s a g ds L (doAll l L) (commitL h s (kvAt h a g ds L) l).1 (commitL h s (kvAt h a g ds L) l).2.1 (commitL h s (kvAt h a g ds L) l).2.2 := by
  have hsrt : Srt (doAll l L) := k.srt.doAll l
  have hrec := recs_batch hm L
  have hall := recs_all hsrt hM
  have happ := k.append hrec
  have e0 : commitL h s (kvAt h a g ds L) l = if (kvLog h a g ds).err s (batchL l) = 4 then ((turnL h s (kvAt h a g ds L) (doAll l L)).1, (turnL h s (kvAt h a g ds L) (doAll l L)).2.1, (turnL h s (kvAt h a g ds L) (doAll l L)).2.2.ends (turnL h s (kvAt h a g ds L) (doAll l L)).1 (doAll l L)) else ((kvLog h a g ds).err s (batchL l), (kvLog h a g ds).dsk s (batchL l), ({ kvAt h a g ds L with lg := (kvLog h a g ds).next s (batchL l) } : KvS).ends ((kvLog h a g ds).err s (batchL l)) (doAll l L)) := by
    unfold commitL
    rw [if_neg (by show ¬ (false = true); decide), if_neg (by rw [hm]; decide), if_neg hl]
    rfl
  rw [e0]
  rcases happ with ⟨h1, h2, h3⟩ | ⟨h1, h2, h3, h4⟩ | ⟨h1, h2, h3⟩
  · rw [if_pos h1]
    by_cases hg : 1152921504606846976 ≤ g
    · have e1 : turnL h s (kvAt h a g ds L) (doAll l L) = (4, s, kvAt h a g ds L) := if_pos hg
      rw [e1]
      exact .inr (.inl ⟨rfl, rfl, rfl⟩)
    · have e1 : turnL h s (kvAt h a g ds L) (doAll l L) = ((Lg.new ((1 - a) * h) h (g + 1)).err s (batchL (allP (doAll l L))), (Lg.new ((1 - a) * h) h (g + 1)).dsk s (batchL (allP (doAll l L))), if (Lg.new ((1 - a) * h) h (g + 1)).err s (batchL (allP (doAll l L))) = 0 then ⟨1 - a, (Lg.new ((1 - a) * h) h (g + 1)).next s (batchL (allP (doAll l L))), L, false⟩ else kvAt h a g ds L) := if_neg hg
      rw [e1]
      rcases k.turn hall (by omega) with ⟨t1, t2⟩ | ⟨t1, t2, t3, t4⟩ | ⟨t1, t2, t3⟩
      · rw [t1, t2]
        exact .inr (.inl ⟨rfl, rfl, rfl⟩)
      · rw [t1, t3]
        exact .inl ⟨rfl, _, _, _, t2, rfl, t4, by omega, by omega⟩
      · rw [t1]
        exact .inr (.inr ⟨rfl, t2, rfl, fun pick => (t3 pick).elim (fun h => ⟨_, _, _, _, h, .inl rfl⟩) (fun h => ⟨_, _, _, _, h, .inr rfl⟩)⟩)
  · rw [if_neg (by rw [h1]; decide), h1, h3]
    exact .inl ⟨rfl, _, _, _, h2, rfl, h4, by omega, by omega⟩
  · rw [if_neg (by rw [h1]; decide), h1]
    exact .inr (.inr ⟨rfl, h2, rfl, fun pick => (h3 pick).elim (fun h => ⟨_, _, _, _, h, .inl rfl⟩) (fun h => ⟨_, _, _, _, h, .inr rfl⟩)⟩)
def pickL (h : Nat) (s : Dsk) : Option (Nat × Int × List (List UInt8)) :=
  match openL (s.bytes 0 h), openL (s.bytes h h) with
  | none, none => none
  | some x, none => some (0, x)
  | none, some y => some (1, y)
  | some x, some y => if x.1 < y.1 then some (1, y) else some (0, x)
def openK (h : Nat) (s : Dsk) : Int × Dsk × Option KvS :=
  if h < 1 then (1, s, none) else if s.off = true then (5, s, none) else
  match pickL h s with
  | none => ((Lg.new 0 h 1).err s (batchL []), (Lg.new 0 h 1).dsk s (batchL []), if (Lg.new 0 h 1).err s (batchL []) = 0 then some ⟨0, (Lg.new 0 h 1).next s (batchL []), [], false⟩ else none)
  | some (a, g, ds) => match recsL ds [] with
    | none => (3, s, none)
    | some L => (0, s, some (kvAt h a g ds L))
section
variable {s : Dsk} {h a : Nat} {g : Int} {ds : List (List UInt8)} {L : List Kv}
theorem KvOn.pick (k : KvOn s h a g ds L) : pickL h s = some (a, g, ds) := by
  have h1 := k.mine
  have h2 := fun g' es => k.other (g' := g') (es := es)
  have ha := k.two
  unfold pickL
  rcases Nat.lt_or_ge a 1 with h0 | h0
  · obtain rfl : a = 0 := by omega
    rw [Nat.zero_mul] at h1
    rw [show (1 - 0) * h = h by omega] at h2
    rw [h1]
    cases e : openL (s.bytes h h) with
    | none => rfl
    | some y =>
      have := h2 y.1 y.2 e
      show (if g < y.1 then _ else _) = _
      rw [if_neg (by omega)]
  · obtain rfl : a = 1 := by omega
    rw [Nat.one_mul] at h1
    rw [show (1 - 1) * h = 0 by omega] at h2
    rw [h1]
    cases e : openL (s.bytes 0 h) with
    | none => rfl
    | some x =>
      have := h2 x.1 x.2 e
      show (if x.1 < g then _ else _) = _
      rw [if_pos this]
theorem open_off (hh : 1 ≤ h) (ho : s.off = true) : openK h s = (5, s, none) := by
  unfold openK
  rw [if_neg (by omega), if_pos ho]
theorem KvOn.open_ (k : KvOn s h a g ds L) (ho : s.off = false) : openK h s = (0, s, some (kvAt h a g ds L)) := by
  unfold openK
  rw [if_neg (by have := k.half.pos; omega), if_neg (by rw [ho]; decide), k.pick]
  simp only
  rw [k.recs]
theorem KvNo.pick (k : KvNo s h) : pickL h s = none := by unfold pickL; rw [k.none1, k.none2]
theorem first_fits (hh : 1 ≤ h) : (Lg.new 0 h 1).full (batchL []) = false := by
  have hc : ((Lg.new 0 h 1).code (batchL [])).length = 23 := by
    show (encF 1 ((0 : Nat) : Int) (batchL [])).length = 23
    decide +kernel
  unfold Lg.full
  rw [hc, Bool.or_eq_false_iff]
  refine ⟨by decide, decide_eq_false ?_⟩
  show ¬ (h * 64 - 0 < 23)
  omega
theorem KvNo.open_ (k : KvNo s h) (ho : s.off = false) :
    ((openK h s).1 = 0 ∧ ∃ ds, KvOn (openK h s).2.1 h 0 1 ds [] ∧ (openK h s).2.2 = some (kvAt h 0 1 ds []) ∧ (s.Quiet → (openK h s).2.1.Quiet)) ∨
    ((openK h s).1 = 5 ∧ (openK h s).2.2 = none ∧ ¬ s.Quiet ∧ ∀ pick, KvNo ((openK h s).2.1.crash pick) h ∨ ∃ ds, KvOn ((openK h s).2.1.crash pick) h 0 1 ds []) := by
  have e : openK h s = ((Lg.new 0 h 1).err s (batchL []), (Lg.new 0 h 1).dsk s (batchL []), if (Lg.new 0 h 1).err s (batchL []) = 0 then some ⟨0, (Lg.new 0 h 1).next s (batchL []), [], false⟩ else none) := by
    unfold openK
    rw [if_neg (by have := k.half.pos; omega), if_neg (by rw [ho]; decide), k.pick]
  rw [e]
  have hrec : recsL [batchL []] [] = some [] := recs_batch (l := []) rfl []
  rcases k.begin hrec (first_fits k.half.pos) with ⟨h1, h2, h3, h4⟩ | ⟨h1, h2, h3⟩
  · refine .inl ⟨h1, [batchL []], h2, ?_, h4⟩
    simp only
    rw [if_pos h1, h3]
    rfl
  · refine .inr ⟨h1, ?_, h2, fun pick => (h3 pick).imp id (fun h => ⟨_, h⟩)⟩
    simp only
    rw [if_neg (by rw [h1]; decide)]
end
end Go.Proofs.YtdaahapbpnjkfaaGreat
namespace Go.Proofs.YtdaahapbpnjkfaaGreat
open Go.RowKit
theorem low_stop {L : List Kv} (hs : Srt L) (k : Key) (i : Nat) (hi : i ≤ L.length) (h1 : ∀ j (h : j < L.length), j < i → ltK L[j].1 k = true) (h2 : ∀ h : i < L.length, ltK L[i].1 k = false) : low k L = L.take i ∧ (low k L).length = i := by
  have e : low k L = L.take i := by
    conv => lhs; rw [← List.take_append_drop i L]
    rw [low_append, low_all, low_none, List.append_nil]
    · intro x hx
      obtain ⟨j, hj, rfl⟩ := List.mem_iff_getElem.1 hx
      rw [List.length_drop] at hj
      rw [List.getElem_drop]
      rcases Nat.eq_zero_or_pos j with h0 | h0
      · subst h0; exact h2 _
      · have hlt := List.pairwise_iff_getElem.1 hs i (i + j) (by omega) (by omega) (by omega)
        cases hx : ltK L[i + j].1 k
        · rfl
        · have := ltK_trans hlt hx
          rw [h2 (by omega)] at this
          cases this
    · intro x hx
      obtain ⟨j, hj, rfl⟩ := List.mem_iff_getElem.1 hx
      rw [List.length_take] at hj
      rw [List.getElem_take]
      exact h1 j _ (by omega)
  exact ⟨e, by rw [e, List.length_take]; omega⟩
theorem place_stop {L : List Kv} (hs : Srt L) (k : Key) (i : Nat) (hi : i ≤ L.length) (h1 : ∀ j (h : j < L.length), j < i → ltK L[j].1 k = true) (h2 : ∀ h : i < L.length, ltK L[i].1 k = false) : (low k L).length = i ∧ (∀ h : i < L.length, hasL k L = decide (L[i].1 = k)) ∧ (i = L.length → hasL k L = false) := by
  obtain ⟨e, hl⟩ := low_stop hs k i hi h1 h2
  refine ⟨hl, fun h => ?_, fun h => ?_⟩
  · by_cases hk : L[i].1 = k
    · rw [decide_eq_true hk]
      unfold hasL
      rw [List.any_eq_true]
      exact ⟨L[i], List.getElem_mem h, by simp [hk]⟩
    · rw [decide_eq_false hk]
      refine hasL_none fun x hx he => ?_
      obtain ⟨j, hj, rfl⟩ := List.mem_iff_getElem.1 hx
      rcases Nat.lt_trichotomy j i with h3 | h3 | h3
      · have := h1 j hj h3
        rw [he, ltK_self] at this
        cases this
      · subst h3; exact hk he
      · have hlt := List.pairwise_iff_getElem.1 hs i j h hj h3
        have := h2 h
        rw [← he, hlt] at this
        cases this
  · refine hasL_none fun x hx he => ?_
    obtain ⟨j, hj, rfl⟩ := List.mem_iff_getElem.1 hx
    have := h1 j hj (by omega)
    rw [he, ltK_self] at this
    cases this
theorem place_get {L : List Kv} (hs : Srt L) (k : Key) (hh : hasL k L = true) : ∃ h : (low k L).length < L.length, L[(low k L).length] = (k, getT k L) := by
  rcases hs.cut k with ⟨_, h2, _⟩ | ⟨h1, _⟩
  · have hlt : (low k L).length < L.length := by
      conv => rhs; rw [h2]
      simp
    refine ⟨hlt, ?_⟩
    have : L[(low k L).length]? = some (k, getT k L) := by
      conv => lhs; arg 1; rw [h2]
      simp
    obtain ⟨_, h⟩ := List.getElem?_eq_some_iff.1 this
    exact h
  · rw [h1] at hh; cases hh
def MapAt (w : World) (F : Nat → Prop) (gm : Nat) (room : Int) (L : List Kv) : Prop :=
  F gm ∧ Srt L ∧ L.length ≤ 100000 ∧ ∃ (A : Option Addr) (c : Nat) (els : List (El 0)), els.map kv0 = L ∧ Blk w gm [.int .i64 room, .slice A L.length c] 119 ∧ Cells w F A (rowCells 0 els) ∧ L.length ≤ c ∧ AllOk w F 0 els
theorem MapAt.moved {w w' : World} {F G : Nat → Prop} {gm : Nat} {room : Int} {L : List Kv} (t : MapAt w F gm room L) (hs : Spared w w' (fun b => F b ∧ b ≠ gm)) (hG : ∀ i, G i → F i ∨ w.heap.size ≤ i) (hg : G gm) : MapAt w' G gm room L := by
  obtain ⟨_, h1, h2, A, c, els, he, hb, hc, hl, ha⟩ := t
  exact ⟨hg, h1, h2, A, c, els, he, hs.blk hb (fun h => h.2 rfl), hc.moved (hs.mono (fun _ h => h.1)) hG, hl, fun x hx => EOk.moved (hs.mono (fun _ h => h.1)) hG 0 x (ha x hx)⟩
theorem MapAt.below {w w' : World} {F : Nat → Prop} {gm : Nat} {room : Int} {L : List Kv} (t : MapAt w F gm room L) (hb : Below w.heap.size w w') : MapAt w' F gm room L := t.moved (.of_below hb _) (fun _ h => .inl h) t.1
theorem MapAt.lt {w : World} {F : Nat → Prop} {gm : Nat} {room : Int} {L : List Kv} (t : MapAt w F gm room L) : gm < w.heap.size := by
  obtain ⟨_, _, _, _, _, _, _, hb, _⟩ := t
  exact hb.lt
def PairAt (w : World) (A : Option Addr) (L : List Kv) : Prop := ∀ i (h : i < L.length), ∃ b off A0 c0 A1 c1, A = some ⟨b, off, none⟩ ∧ (∀ W, Below w.heap.size w W → W.cell? ⟨b, off + i * 2, none⟩ = some (.slice A0 L[i].1.length c0) ∧ W.cell? ⟨b, off + i * 2 + 1, none⟩ = some (.slice A1 L[i].2.length c1) ∧ Seen W A0 L[i].1 ∧ Seen W A1 L[i].2) ∧ L[i].1.length ≤ 1000000000 ∧ L[i].2.length ≤ 1000000000
theorem pairs_at {w : World} {F : Nat → Prop} {A : Option Addr} {els : List (El 0)} (hc : Cells w F A (rowCells 0 els)) (ha : AllOk w F 0 els) : PairAt w A (els.map kv0) := fun i hi => by
  rw [List.length_map] at hi
  obtain ⟨b, off, hA, hb, _, hcell⟩ := hc.elem i hi
  have h0 : w.cell? ⟨b, off + i * 2, none⟩ = some (pv (epiece 0 els[i])) := hcell 0 (by decide)
  have h1 : w.cell? ⟨b, off + i * 2 + 1, none⟩ = some (pv (eval0 els[i])) := hcell 1 (by decide)
  have he := ha els[i] (List.getElem_mem hi)
  have e : (els.map kv0)[i]'(by rw [List.length_map]; exact hi) = kv0 els[i] := by simp
  have s1 : Seen w (epiece 0 els[i]).1 (epiece 0 els[i]).2.1 := he.1.1.seen
  have s2 : Seen w (eval0 els[i]).1 (eval0 els[i]).2.1 := he.2.1.seen
  have m1 : (epiece 0 els[i]).2.1.length ≤ 1000000000 := he.1.2.2
  have m2 : (eval0 els[i]).2.1.length ≤ 1000000000 := he.2.2.2
  rw [e]
  exact ⟨b, off, _, _, _, _, hA, fun W hW => ⟨(hW.cell (p := ⟨b, off + i * 2, none⟩) hb).trans h0, (hW.cell (p := ⟨b, off + i * 2 + 1, none⟩) hb).trans h1, s1.below hW, s2.below hW⟩, m1, m2⟩
theorem map_open {w : World} {F : Nat → Prop} {gm : Nat} {room : Int} {L : List Kv} (t : MapAt w F gm room L) : ∃ A c, L.length ≤ c ∧ L.length ≤ 100000 ∧ (∀ W, Below w.heap.size w W → W.cell? ⟨gm, 0, none⟩ = some (.int .i64 room) ∧ W.cell? ⟨gm, 1, none⟩ = some (.slice A L.length c)) ∧ PairAt w A L := by
  obtain ⟨_, h1, h2, A, c, els, rfl, hb, hc, hl, ha⟩ := t
  refine ⟨A, c, hl, h2, fun W hW => ?_, pairs_at hc ha⟩
  have := hb.below hW hb.lt
  exact ⟨this.cell (i := 0) (by simp), this.cell (i := 1) (by simp)⟩
set_option maxRecDepth 100000 in
set_option maxHeartbeats 2000000 in
theorem rfind_any (w : World) (F : Nat → Prop) (gm : Nat) (room : Int) (L : List Kv) (B : Option Addr) (k : Key) (m d : Nat) (t : MapAt w F gm room L) (hk : Seen w B k) (hm : k.length = m) :
    Calls Tryz.prog 93 #[.pointer (some ⟨gm, 0, none⟩), .slice B m d] w fun e w' => e = .returned (.tuple #[.int .i64 ((low k L).length : Nat), .bool (hasL k L)]) ∧ Below w.heap.size w w' := by
  obtain ⟨A, c, _, hn9, hcell, hat⟩ := map_open t
  have HSRT : Hid (Srt L) := t.2.1
  obtain ⟨n, hn⟩ : ∃ n, n = L.length := ⟨_, rfl⟩
  rw [← hn] at hn9 hcell
  have HN := Lib.hid hn
  have HC := Lib.hid hcell
  have HA := Lib.hid hat
  have HK := Lib.hid hk
  have HM := Lib.hid hm
  obtain ⟨has, hhas⟩ : ∃ has, has = hasL k L := ⟨_, rfl⟩
  obtain ⟨pl, hpl⟩ : ∃ pl, pl = (low k L).length := ⟨_, rfl⟩
  have HHAS := Lib.hid hhas
  have HPL := Lib.hid hpl
  rw [← hhas, ← hpl]
  clear hn hcell hat hk hm t hhas hpl
  go_enter Tryz.func93, Tryz.ntmps93
  go_wp2_with fail
  go_loopg [6] n (fun kx s wr => ∃ i : Nat, i + kx = n ∧ s = .int .i64 (i : Int) ∧ Below w.heap.size w wr ∧ ∀ j (h : j < L.length), j < i → ltK L[j].1 k = true)
  case atStart => exact ⟨0, by omega, rfl, Below.refl _ _, fun j _ h => by omega⟩
  case round =>
    obtain ⟨i, hi, rfl, hbr, hall⟩ := hrel
    have HBR := Lib.hid hbr
    have HI := Lib.hid hi
    have HALL := Lib.hid hall
    obtain ⟨x0, x1⟩ := HC.out wr hbr
    clear hbr hi hall
    by_cases hlt : i < n
    · have hkl : (i : Int) < (n : Int) := by omega
      have hil : i < L.length := by have := HN.out; omega
      obtain ⟨b, off, A0, c0, A1, c1, rfl, hcl, hl1, hl2⟩ := HA.out i hil
      obtain ⟨q0, q1, s0, s1⟩ := hcl wr HBR.out
      obtain ⟨y, hy⟩ : ∃ y, y = L[i].1 := ⟨_, rfl⟩
      have HY := Lib.hid hy
      rw [← hy] at q0 s0
      have cv : ∀ q, (convert 22 9 (.slice A0 y.length c0)).run Tryz.prog (wr.drewN q) = .ok (.string ⟨y.toArray⟩) (wr.drewN q) := fun q => (s0.below (below_drewN (Below.refl _ _) q)).text (P := Tryz.prog) 22 9 5 Tryz.underlying22 Tryz.underlying5 Tryz.underlying9 c0
      have hkm := HM.out
      subst hkm
      have cw : ∀ q, (convert 22 9 (.slice B k.length d)).run Tryz.prog (wr.drewN q) = .ok (.string ⟨k.toArray⟩) (wr.drewN q) := fun q => ((HK.out.below HBR.out).below (below_drewN (Below.refl _ _) q)).text (P := Tryz.prog) 22 9 5 Tryz.underlying22 Tryz.underlying5 Tryz.underlying9 d
      have hwi : IntKind.i64.wrap ((i : Int) + 1) = ((i + 1 : Nat) : Int) := by rw [IntKind.wrap_i64]; omega
      clear hcl hl1 hl2 hy s0 q1 s1
      cases hlk : ltK y k
      · -- here
        have HE : Hid (pl = i ∧ has = (y == k)) := by
          have := place_stop HSRT.out k i (by omega) HALL.out (fun h => by rw [← HY.out]; exact hlk)
          refine ⟨HPL.out.trans this.1, ?_⟩
          rw [HHAS.out, HY.out, this.2.1 hil, Bool.eq_iff_iff, beq_iff_eq, decide_eq_true_iff]
        have hge : Op.bytesLess (⟨y.toArray⟩ : ByteArray).toList (⟨k.toArray⟩ : ByteArray).toList = false := by
          rw [Lib.toList_data, Lib.toList_data]; exact hlk
        have hge2 : Op.bytesLess y k = false := hlk
        obtain ⟨rfl, rfl⟩ := HE.out
        clear hlk HE
        go_wp2_with fail
        go_quiet (fail)
        go_wp2_with fail
        go_quiet (fail)
        go_wp2_with fail
        go_ret2
        exact ⟨rfl, below_drewN (below_drewN HBR.out _) _⟩
      · have HALL2 : Hid (∀ j (h : j < L.length), j < i + 1 → ltK L[j].1 k = true) := fun j h hj => by
          rcases Nat.lt_or_ge j i with h1 | h1
          · exact HALL.out j h h1
          · obtain rfl : j = i := by omega
            rw [← HY.out]; exact hlk
        have hge : Op.bytesLess (⟨y.toArray⟩ : ByteArray).toList (⟨k.toArray⟩ : ByteArray).toList = true := by
          rw [Lib.toList_data, Lib.toList_data]; exact hlk
        have hge2 : Op.bytesLess y k = true := hlk
        clear hlk
        go_wp2_with fail
        go_quiet (fail)
        go_wp2_with fail
        go_roundg (n - (i + 1))
        case measure => have := HI.out; omega
        case rel => exact ⟨i + 1, by have := HI.out; omega, rfl, below_drewN HBR.out _, HALL2.out⟩
    · obtain rfl : i = n := by have := HI.out; omega
      have hkl : ¬ (i : Int) < (i : Int) := by omega
      have HE : Hid (pl = i ∧ has = false) := by
        have := place_stop HSRT.out k i (by have := HN.out; omega) HALL.out (fun h => by have := HN.out; omega)
        rw [HPL.out, HHAS.out]
        exact ⟨this.1, this.2.2 HN.out⟩
      obtain ⟨rfl, rfl⟩ := HE.out
      clear HE
      go_wp2_with fail
      go_quiet (fail)
      go_wp2_with fail
      go_quiet (fail)
      go_wp2_with fail
      go_ret2
      exact ⟨rfl, below_drewN (below_drewN HBR.out _) _⟩
theorem sizeL_step {L : List Kv} {i : Nat} (hi : i < L.length) : sizeT (L.take (i + 1)) = sizeT (L.take i) + L[i].1.length + L[i].2.length := by
  rw [List.take_succ_eq_append_getElem hi, sizeL_append, sizeL_cons]
  show _ + (_ + _ + 0) = _
  omega
set_option maxHeartbeats 2000000 in
theorem rsize_any (w : World) (F : Nat → Prop) (gm : Nat) (room : Int) (L : List Kv) (t : MapAt w F gm room L) :
    Calls Tryz.prog 95 #[.pointer (some ⟨gm, 0, none⟩)] w fun e w' => e = .returned (.int .i64 (sizeT L : Int)) ∧ Below w.heap.size w w' := by
  obtain ⟨A, c, _, hn9, hcell, hat⟩ := map_open t
  obtain ⟨n, hn⟩ : ∃ n, n = L.length := ⟨_, rfl⟩
  rw [← hn] at hn9 hcell
  have HC := Lib.hid hcell
  have HN := Lib.hid hn
  have HA := Lib.hid hat
  obtain ⟨S, hS⟩ : ∃ S, S = sizeT L := ⟨_, rfl⟩
  have HS := Lib.hid hS
  rw [← hS]
  clear hn hcell hat t hS
  go_enter Tryz.func95, Tryz.ntmps95
  go_wp2_with fail
  go_loopg [3, 4] n (fun kx s3 s4 wr => ∃ i T : Nat, i + kx = n ∧ s4 = .int .i64 (i : Int) ∧ s3 = .int .i64 (T : Int) ∧ Hid (T = sizeT (L.take i)) ∧ T ≤ i * 2000000000 ∧ Below w.heap.size w wr)
  case atStart => exact ⟨0, 0, by omega, rfl, rfl, (by rfl : (0 : Nat) = sizeT (L.take 0)), Nat.zero_le _, Below.refl _ _⟩
  case round =>
    obtain ⟨i, T, hi, rfl, rfl, HT, hle, hbr⟩ := hrel
    have HI := Lib.hid hi
    have HBR := Lib.hid hbr
    obtain ⟨x0, x1⟩ := HC.out wr hbr
    clear hi hbr
    by_cases hlt : i < n
    · have hkl : (i : Int) < (n : Int) := by omega
      have hil : i < L.length := by have := HN.out; omega
      obtain ⟨b, off, A0, c0, A1, c1, rfl, hcl, hl1, hl2⟩ := HA.out i hil
      obtain ⟨q0, q1, s0, s1⟩ := hcl wr HBR.out
      have HST := Lib.hid (sizeL_step hil)
      generalize L[i].1.length = na at *
      generalize L[i].2.length = nb at *
      have hw1 : IntKind.i64.wrap ((T : Int) + (na : Int)) = ((T + na : Nat) : Int) := by rw [IntKind.wrap_i64]; omega
      have hw2 : IntKind.i64.wrap (((T + na : Nat) : Int) + (nb : Int)) = ((T + na + nb : Nat) : Int) := by rw [IntKind.wrap_i64]; omega
      have hwi : IntKind.i64.wrap ((i : Int) + 1) = ((i + 1 : Nat) : Int) := by rw [IntKind.wrap_i64]; omega
      clear hcl s0 s1
      go_wp2_with fail
      go_quiet (fail)
      go_wp2_with fail
      go_roundg (n - (i + 1))
      case measure => have := HI.out; omega
      case rel => exact ⟨i + 1, T + na + nb, by have := HI.out; omega, rfl, rfl, (by show _ = _; rw [HST.out, HT.out]), by omega, below_drewN HBR.out _⟩
    · obtain rfl : i = n := by have := HI.out; omega
      have hkl : ¬ (i : Int) < (i : Int) := by omega
      have HE : Hid (T = S) := by show _ = _; rw [HT.out, HS.out, HN.out, List.take_length]
      obtain rfl := HE.out
      clear HE
      go_wp2_with fail
      go_ret
      exact ⟨rfl, HBR.out⟩
def gv (k : Key) (L : List Kv) : Key := if hasL k L then getT k L else []
theorem info8i : (Tryz.prog.info? 5).map (fun i => (i.zero, i.size, i.bytes)) = some (some (.int .u8 0), 1, 1) := by kernel_rfl
end Go.Proofs.YtdaahapbpnjkfaaGreat
