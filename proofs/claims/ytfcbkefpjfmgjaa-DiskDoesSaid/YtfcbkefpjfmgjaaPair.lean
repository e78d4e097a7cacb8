/-
  The program's disk and the document's, side by side: what each call leaves of both. Conditions: as each says.
-/
import Derived.Test.YtfcbkefpjfmgjaaRfWrite
import Derived.Test.YtfcbkefpjfmgjaaRfCrash
import Derived.Test.YtfcbkefpjfmgjaaRfNew
import Derived.Test.YtfcbkefpjfmgjaaDkAwake
namespace Go.Proofs.Ytfcbkefpjfmgjaa
open Go.RowKit

/-- the program's disk g is s, the document's r is t; none lies in the other, both behind w -/
def Pair (w : World) (g r : Nat) (s t : Dsk) (ob : Option (Nat × List Value)) (wr : World) : Prop :=
  ∃ F G, DiskAt wr g F s ∧ RefAt wr r G t ∧ (∀ q, F q → w.heap.size ≤ q) ∧ (∀ q, G q → w.heap.size ≤ q) ∧ (∀ q, F q → ¬ G q) ∧ Below w.heap.size w wr ∧ ∀ p, ob = some p → Blk wr p.1 p.2 37 ∧ ¬ F p.1 ∧ ¬ G p.1

section
variable {w wr w' : World} {g r : Nat} {s t s' t' : Dsk} {A : Option Addr} {l : List UInt8} {p : List Int} {n c : Nat} {i : Int} {ob : Option (Nat × List Value)}
theorem Pair.below (h : Pair w g r s t ob wr) : Below w.heap.size w wr := by obtain ⟨_, _, _, _, _, _, _, h, _⟩ := h; exact h
theorem Pair.still (h : Pair w g r s t ob wr) (hb : Below wr.heap.size wr w') : Pair w g r s t ob w' := by
  obtain ⟨F, G, h1, h2, h3, h4, h5, h6, h7⟩ := h
  exact ⟨F, G, h1.still hb, h2.still hb, h3, h4, h5, hop h6 hb, fun p hp => ⟨(h7 p hp).1.below hb (h7 p hp).1.lt, (h7 p hp).2⟩⟩
theorem Pair.same (h : Pair w g r s t ob wr) (hs : s = s') (ht : t = t') : Pair w g r s' t' ob wr := by subst hs ht; exact h
theorem pair_disk {F G : Nat → Prop} (h2 : RefAt wr r G t) (h3 : ∀ q, F q → w.heap.size ≤ q) (h4 : ∀ q, G q → w.heap.size ≤ q) (h5 : ∀ q, F q → ¬ G q) (h6 : Below w.heap.size w wr) (h7 : ∀ p, ob = some p → Blk wr p.1 p.2 37 ∧ ¬ F p.1 ∧ ¬ G p.1) (m : Moved wr g F s' w') : Pair w g r s' t ob w' := by
  obtain ⟨F', m1, m2, m3⟩ := m
  refine ⟨F', G, m1, h2.apart m2 (fun k hg hf => h5 k hf hg), fun q hq => (m3 q hq).elim (h3 q) (Nat.le_trans h6.size), h4, fun q hq hg => (m3 q hq).elim (fun hf => h5 q hf hg) (fun h => by have := h2.lt q hg; omega), m2.below h6 h3, fun p hp => ⟨m2.blk (h7 p hp).1 (h7 p hp).2.1, fun hf => (m3 _ hf).elim (h7 p hp).2.1 (fun h => by have := (h7 p hp).1.lt; omega), (h7 p hp).2.2⟩⟩
theorem pair_ref {F G : Nat → Prop} (h1 : DiskAt wr g F s) (h3 : ∀ q, F q → w.heap.size ≤ q) (h4 : ∀ q, G q → w.heap.size ≤ q) (h5 : ∀ q, F q → ¬ G q) (h6 : Below w.heap.size w wr) (h7 : ∀ p, ob = some p → Blk wr p.1 p.2 37 ∧ ¬ F p.1 ∧ ¬ G p.1) (m : RMoved wr r G t' w') : Pair w g r s t' ob w' := by
  obtain ⟨G', m1, m2, m3⟩ := m
  refine ⟨F, G', h1.apart m2 (fun k hf hg => h5 k hf hg), m1, h3, fun q hq => (m3 q hq).elim (h4 q) (Nat.le_trans h6.size), fun q hf hq => (m3 q hq).elim (h5 q hf) (fun h => by have := h1.lt q hf; omega), m2.below h6 h4, fun p hp => ⟨m2.blk (h7 p hp).1 (h7 p hp).2.2, (h7 p hp).2.1, fun hf => (m3 _ hf).elim (h7 p hp).2.2 (fun h => by have := (h7 p hp).1.lt; omega)⟩⟩

theorem pair_write (h : Pair w g r s t ob wr) (hl : l.length = n) (hn : n ≤ 9223372036854775807) (hs : Seen w A l) (hf : s.Few 1000000) :
    Calls Try.prog 17 #[.pointer (some ⟨g, 0, none⟩), .int .i64 i, .slice A n c] wr fun e w' => e = .returned (.int .i64 (s.werr i n)) ∧ Pair w g r (s.wput i l) t ob w' := by
  obtain ⟨F, G, h1, h2, h3, h4, h5, h6, h7⟩ := h
  exact (write_all wr g F s i A l n c h1 hl hn (hs.below h6) hf).mono fun e w' ⟨he, m⟩ => ⟨he, pair_disk h2 h3 h4 h5 h6 h7 m⟩
theorem pair_refWrite (h : Pair w g r s t ob wr) (hl : l.length = n) (hn : n ≤ 9223372036854775807) (hs : Seen w A l) (hf : t.Few 1000000) :
    Calls Try.prog 18 #[.pointer (some ⟨r, 0, none⟩), .int .i64 i, .slice A n c] wr fun e w' => e = .returned (.int .i64 (t.werr i n)) ∧ Pair w g r s (t.wput i l) ob w' := by
  obtain ⟨F, G, h1, h2, h3, h4, h5, h6, h7⟩ := h
  exact (refWrite_all wr r G t i A l n c h2 hl hn (hs.below h6) hf).mono fun e w' ⟨he, m⟩ => ⟨he, pair_ref h1 h3 h4 h5 h6 h7 m⟩
theorem pair_sync (h : Pair w g r s t ob wr) (hf : s.Few 1000000) :
    Calls Try.prog 21 #[.pointer (some ⟨g, 0, none⟩)] wr fun e w' => e = .returned (.int .i64 (if s.off then 5 else 0)) ∧ Pair w g r s.sput t ob w' := by
  obtain ⟨F, G, h1, h2, h3, h4, h5, h6, h7⟩ := h
  exact (sync_all wr g F s h1 hf).mono fun e w' ⟨he, m⟩ => ⟨he, pair_disk h2 h3 h4 h5 h6 h7 m⟩
theorem pair_refSync (h : Pair w g r s t ob wr) (hf : t.Few 1000000) :
    Calls Try.prog 22 #[.pointer (some ⟨r, 0, none⟩)] wr fun e w' => e = .returned (.int .i64 (if t.off then 5 else 0)) ∧ Pair w g r s t.sput ob w' := by
  obtain ⟨F, G, h1, h2, h3, h4, h5, h6, h7⟩ := h
  exact (refSync_all wr r G t h2 hf).mono fun e w' ⟨he, m⟩ => ⟨he, pair_ref h1 h3 h4 h5 h6 h7 m⟩
theorem pair_arm (h : Pair w g r s t ob wr) :
    Calls Try.prog 23 #[.pointer (some ⟨g, 0, none⟩), .int .i64 i] wr fun e w' => e = .returned (.tuple #[]) ∧ Pair w g r (s.arm i) t ob w' := by
  obtain ⟨F, G, h1, h2, h3, h4, h5, h6, h7⟩ := h
  exact (arm_any wr g F s i h1).mono fun e w' ⟨he, m⟩ => ⟨he, pair_disk h2 h3 h4 h5 h6 h7 m⟩
theorem pair_refArm (h : Pair w g r s t ob wr) :
    Calls Try.prog 24 #[.pointer (some ⟨r, 0, none⟩), .int .i64 i] wr fun e w' => e = .returned (.tuple #[]) ∧ Pair w g r s (t.arm i) ob w' := by
  obtain ⟨F, G, h1, h2, h3, h4, h5, h6, h7⟩ := h
  exact (refArm_any wr r G t i h2).mono fun e w' ⟨he, m⟩ => ⟨he, pair_ref h1 h3 h4 h5 h6 h7 m⟩
theorem pair_crash (h : Pair w g r s t ob wr) (hs : Ints w A p) (hn : p.length = n) (hl : n ≤ 9223372036854775807) (hb : ∀ x ∈ p, -9223372036854775808 ≤ x ∧ x ≤ 9223372036854775807) :
    Calls Try.prog 25 #[.pointer (some ⟨g, 0, none⟩), .slice A n c] wr fun e w' => e = .returned (.tuple #[]) ∧ Pair w g r (s.crash (pickOf p)) t ob w' := by
  subst hn
  obtain ⟨F, G, h1, h2, h3, h4, h5, h6, h7⟩ := h
  exact (crash_any wr g F s h1 A p c (hs.away h6 h3) hb hl).mono fun e w' ⟨he, m⟩ => ⟨he, pair_disk h2 h3 h4 h5 h6 h7 m⟩
theorem pair_refCrash (h : Pair w g r s t ob wr) (hs : Ints w A p) (hn : p.length = n) (hl : n ≤ 9223372036854775807) (hb : ∀ x ∈ p, -9223372036854775808 ≤ x ∧ x ≤ 9223372036854775807) :
    Calls Try.prog 26 #[.pointer (some ⟨r, 0, none⟩), .slice A n c] wr fun e w' => e = .returned (.tuple #[]) ∧ Pair w g r s (t.crash (pickOf p)) ob w' := by
  subst hn
  obtain ⟨F, G, h1, h2, h3, h4, h5, h6, h7⟩ := h
  exact (refCrash_any wr r G t h2 A p c (hs.away h6 h4) hb hl).mono fun e w' ⟨he, m⟩ => ⟨he, pair_ref h1 h3 h4 h5 h6 h7 m⟩
/-- what Read answers, under one name: its text and its number -/
def ReadTo (T : ByteArray) (E : Int) (w w' : World) (e : Ending) : Prop :=
  Below w.heap.size w w' ∧ ∃ A n c, e = .returned (.tuple #[.slice A n c, .int .i64 E]) ∧ ∀ w'', Below w'.heap.size w' w'' → (convert 22 9 (.slice A n c)).run Try.prog w'' = .ok (.string T) w''
theorem last_some (s : Dsk) (i : Nat) (hi : i < s.K.length) : ∃ x, s.Last i x := by
  by_cases h : ∃ k, ∃ h : k < s.M.length, s.M[k].1 = i
  · -- the last of these
    have key : ∀ n, n ≤ s.M.length → (∃ k, ∃ h : k < s.M.length, k < n ∧ s.M[k].1 = i) → (∀ j (hj : j < s.M.length), n ≤ j → s.M[j].1 ≠ i) → ∃ x, s.Last i x := by
      intro n
      induction n with
      | zero => rintro _ ⟨k, _, hk, _⟩; omega
      | succ n ih =>
        intro hn hex hno
        by_cases hm : s.M[n].1 = i
        · exact ⟨s.M[n].2, .inl ⟨n, by omega, hm, rfl, fun j hj hlt => hno j hj (by omega)⟩⟩
        · refine ih (by omega) ?_ (fun j hj hle => ?_)
          · obtain ⟨k, hk, hlt, he⟩ := hex
            refine ⟨k, hk, ?_, he⟩
            rcases Nat.lt_or_ge k n with h | h
            · exact h
            · obtain rfl : k = n := by omega
              exact absurd he hm
          · rcases Nat.lt_or_ge n j with h | h
            · exact hno j hj (by omega)
            · obtain rfl : j = n := by omega
              exact hm
    obtain ⟨k, hk, he⟩ := h
    exact key s.M.length (Nat.le_refl _) ⟨k, hk, hk, he⟩ (fun j hj hle => by omega)
  · exact ⟨s.K[i], .inr ⟨fun j hj he => h ⟨j, hj, he⟩, List.getElem?_eq_getElem hi⟩⟩
theorem text_nil : ∀ (w : World), (convert 22 9 (.slice none 0 0)).run Try.prog w = .ok (.string ⟨#[]⟩) w := fun w => text_on (l := []) (.inl rfl) 0 0 rfl w (Below.refl _ _)
/-- both Reads answer the same -/
theorem pair_reads (s : Dsk) (i : Int) (hok : s.Ok) : ∃ T E, (∀ (wr : World) (g : Nat) (F : Nat → Prop), DiskAt wr g F s → Calls Try.prog 19 #[.pointer (some ⟨g, 0, none⟩), .int .i64 i] wr (fun e w' => ReadTo T E wr w' e)) ∧
    (∀ (wr : World) (r : Nat) (G : Nat → Prop), RefAt wr r G s → Calls Try.prog 20 #[.pointer (some ⟨r, 0, none⟩), .int .i64 i] wr (fun e w' => ReadTo T E wr w' e)) := by
  by_cases h0 : 0 ≤ i ∧ i < s.K.length
  · by_cases ho : s.off = true
    · refine ⟨⟨#[]⟩, 5, fun wr g F h => (read_any wr g F s i h).mono ?_, fun wr r G h => (refRead_any wr r G s i h).mono ?_⟩
      · rintro e w' ⟨hb, ⟨hn, _⟩ | ⟨_, _, rfl⟩ | ⟨_, hf, _⟩⟩
        · exact absurd h0 hn
        · exact ⟨hb, none, 0, 0, rfl, fun w'' _ => text_nil w''⟩
        · rw [ho] at hf; cases hf
      · rintro e w' ⟨hb, ⟨hn, _⟩ | ⟨_, _, rfl⟩ | ⟨_, hf, _⟩⟩
        · exact absurd h0 hn
        · exact ⟨hb, none, 0, 0, rfl, fun w'' _ => text_nil w''⟩
        · rw [ho] at hf; cases hf
    · obtain ⟨x, hx⟩ := last_some s i.toNat (by omega)
      have h64 := hx.length hok
      refine ⟨⟨x.toArray⟩, 0, fun wr g F h => (read_any wr g F s i h).mono ?_, fun wr r G h => (refRead_any wr r G s i h).mono ?_⟩
      · rintro e w' ⟨hb, ⟨hn, _⟩ | ⟨_, hf, _⟩ | ⟨_, _, y, gb, hy, _, hk, rfl⟩⟩
        · exact absurd h0 hn
        · exact absurd hf ho
        · obtain rfl := hy.one hx
          exact ⟨hb, _, _, _, rfl, text_on (blk_seen hk) 64 64 h64⟩
      · rintro e w' ⟨hb, ⟨hn, _⟩ | ⟨_, hf, _⟩ | ⟨_, _, y, A, c, hy, hs, rfl⟩⟩
        · exact absurd h0 hn
        · exact absurd hf ho
        · obtain rfl := hy.one hx
          exact ⟨hb, _, _, _, rfl, text_on hs 64 c h64⟩
  · refine ⟨⟨#[]⟩, 1, fun wr g F h => (read_any wr g F s i h).mono ?_, fun wr r G h => (refRead_any wr r G s i h).mono ?_⟩
    · rintro e w' ⟨hb, ⟨_, rfl⟩ | ⟨hn, _⟩ | ⟨hn, _⟩⟩
      · exact ⟨hb, none, 0, 0, rfl, fun w'' _ => text_nil w''⟩
      · exact absurd hn h0
      · exact absurd hn h0
    · rintro e w' ⟨hb, ⟨_, rfl⟩ | ⟨hn, _⟩ | ⟨hn, _⟩⟩
      · exact ⟨hb, none, 0, 0, rfl, fun w'' _ => text_nil w''⟩
      · exact absurd hn h0
      · exact absurd hn h0
theorem Pair.ok (h : Pair w g r s t ob wr) : s.Ok := by obtain ⟨_, _, h, _⟩ := h; exact h.ok
/-- what both are asked behind each call -/
theorem pair_on (h : Pair w g r s t ob wr) : Calls Try.prog 12 #[.pointer (some ⟨g, 0, none⟩)] wr fun e w' => e = .returned (.bool (!s.off)) ∧ w' = wr := by
  obtain ⟨_, _, h, _⟩ := h; exact on_any h
theorem pair_calls (h : Pair w g r s t ob wr) : Calls Try.prog 13 #[.pointer (some ⟨g, 0, none⟩)] wr fun e w' => e = .returned (.int .i64 (s.calls : Int)) ∧ w' = wr := by
  obtain ⟨_, _, h, _⟩ := h; exact calls_any h
def ImageTo (T : ByteArray) (n : Nat) (w w' : World) (e : Ending) : Prop :=
  ∃ A c, e = .returned (.slice A n c) ∧ (∀ w'', Below w'.heap.size w' w'' → (convert 22 9 (.slice A n c)).run Try.prog w'' = .ok (.string T) w'') ∧ Below w.heap.size w w'
theorem pair_image (h : Pair w g r s t ob wr) : Calls Try.prog 15 #[.pointer (some ⟨g, 0, none⟩)] wr fun e w' => ImageTo ⟨s.K.flatten.toArray⟩ s.K.flatten.length wr w' e := by
  obtain ⟨_, _, h, _⟩ := h
  refine (image_any wr g _ s h).mono ?_
  rintro e w' ⟨v, rfl, hm⟩
  obtain ⟨A, c, rfl, hs⟩ := hm.form
  exact ⟨A, c, rfl, text_on hs _ c rfl, hm.2⟩
theorem pair_refImage (h : Pair w g r s t ob wr) : Calls Try.prog 27 #[.pointer (some ⟨r, 0, none⟩)] wr fun e w' => ImageTo ⟨t.K.flatten.toArray⟩ t.K.flatten.length wr w' e := by
  obtain ⟨_, _, _, h, _⟩ := h
  refine (refImage_any wr r _ t h).mono ?_
  rintro e w' ⟨v, rfl, hm⟩
  obtain ⟨A, c, rfl, hs⟩ := hm.form
  exact ⟨A, c, rfl, text_on hs _ c rfl, hm.2⟩
theorem pair_cells (h : Pair w g r s t ob wr) : ∀ w', Below wr.heap.size wr w' → w'.cell? ⟨r, 2, none⟩ = some (.bool t.off) ∧ w'.cell? ⟨r, 5, none⟩ = some (.int .i64 (t.calls : Int)) := by
  obtain ⟨_, _, _, ⟨_, _, _, _, _, _, h⟩, _⟩ := h
  intro w' hb
  have h' := h.still hb
  exact ⟨h'.cells.2.2.1, h'.cells.2.2.2.2.2⟩
/-- with a block more, just made -/
theorem Pair.holds (h : Pair w g r s t none wr) (L : List Value) : Pair w g r s t (some (wr.heap.size, L)) (wr.alloc (.cells L.toArray 37)) := by
  obtain ⟨F, G, h1, h2, h3, h4, h5, h6, _⟩ := h
  have hb : Below wr.heap.size wr (wr.alloc (.cells L.toArray 37)) := (Below.refl _ _).alloc (Nat.le_refl _) _
  refine ⟨F, G, h1.still hb, h2.still hb, h3, h4, h5, hop h6 hb, fun p hp => ?_⟩
  injection hp with hp
  subst hp
  exact ⟨Blk.new wr L _, fun hf => by have := h1.lt _ hf; exact absurd this (Nat.lt_irrefl _), fun hf => by have := h2.lt _ hf; exact absurd this (Nat.lt_irrefl _)⟩
theorem Pair.drop (h : Pair w g r s t ob wr) : Pair w g r s t none wr := by
  obtain ⟨F, G, h1, h2, h3, h4, h5, h6, _⟩ := h
  exact ⟨F, G, h1, h2, h3, h4, h5, h6, fun p hp => by cases hp⟩
theorem Pair.op {b : Nat} {L : List Value} (h : Pair w g r s t (some (b, L)) wr) : Blk wr b L 37 := by
  obtain ⟨F, G, h1, h2, h3, h4, h5, h6, h7⟩ := h
  exact (h7 _ rfl).1
theorem Pair.opcells {b : Nat} {v0 v1 v2 v3 : Value} (h : Pair w g r s t (some (b, [v0, v1, v2, v3])) wr) : wr.cell? ⟨b, 1, none⟩ = some v1 ∧ wr.cell? ⟨b, 2, none⟩ = some v2 ∧ wr.cell? ⟨b, 3, none⟩ = some v3 :=
  ⟨h.op.cell (i := 1) (by simp), h.op.cell (i := 2) (by simp), h.op.cell (i := 3) (by simp)⟩
theorem pair_read {T : ByteArray} {E : Int} (h : Pair w g r s t ob wr) (hR : ∀ (wr : World) (g : Nat) (F : Nat → Prop), DiskAt wr g F s → Calls Try.prog 19 #[.pointer (some ⟨g, 0, none⟩), .int .i64 i] wr (fun e w' => ReadTo T E wr w' e)) :
    Calls Try.prog 19 #[.pointer (some ⟨g, 0, none⟩), .int .i64 i] wr (fun e w' => ReadTo T E wr w' e) := by
  obtain ⟨F, _, h, _⟩ := h
  exact hR wr g F h
theorem pair_refRead {T : ByteArray} {E : Int} (h : Pair w g r s t ob wr) (hR : ∀ (wr : World) (r : Nat) (G : Nat → Prop), RefAt wr r G t → Calls Try.prog 20 #[.pointer (some ⟨r, 0, none⟩), .int .i64 i] wr (fun e w' => ReadTo T E wr w' e)) :
    Calls Try.prog 20 #[.pointer (some ⟨r, 0, none⟩), .int .i64 i] wr (fun e w' => ReadTo T E wr w' e) := by
  obtain ⟨_, G, _, h, _⟩ := h
  exact hR wr r G h
end
end Go.Proofs.Ytfcbkefpjfmgjaa
