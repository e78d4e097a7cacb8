/-
  The reader: what is left to read, and what its methods make of it; where they cannot go on they panic, with what there was as it was but for the reader. Conditions: how the reader lies in memory.
-/
import Derived.Test.YtkbjhnlihnakkaaMadeN
import Derived.Test.YtkbjhnlihnakkaaGet
import Derived.Test.YtkbjhnlihnakkaaBaL
import Derived.Test.YtkbjhnlihnakkaaFrL
namespace Go.Proofs.Ytkbjhnlihnakkaa
open Go.RowKit

/-- block p is a reader that has l still to read, of a block that is none of F -/
def RdAt (w : World) (p : Nat) (F : Nat → Prop) (l : List UInt8) : Prop := F p ∧ ∃ A c, Blk w p [.slice A l.length c] 101 ∧ Away w F A l ∧ l.length ≤ c
/-- the reader's panic -/
abbrev wrong : Ending := .panicked [{ v := .iface 27 (.int .i64 3), recovered := false }]

theorem take_no (w : World) (p : Nat) (F : Nat → Prop) (l : List UInt8) (n : Nat) (N : Int) (hN : (n : Int) = N) (h : RdAt w p F l) (hlt : l.length < n) :
    Calls Try.prog 75 #[.pointer (some ⟨p, 0, none⟩), .int .i64 N] w fun e w' => e = wrong ∧ w = w' := by
  subst hN
  obtain ⟨_, A, c, hb, _, _⟩ := h
  have hc := hb.cell (i := 0) (by simp)
  have hf := hb.free 0
  simp only [List.getElem_cons_zero] at hc
  clear hb
  go_enter Try.func75, Try.ntmps75
  go_wp2
  exact ⟨rfl, rfl, rfl⟩

/-- what take leaves: n bytes, where they are -/
def Taken (w : World) (p : Nat) (F : Nat → Prop) (l : List UInt8) (n : Nat) (e : Ending) (w' : World) : Prop :=
  ∃ A c, e = .returned (.slice A n c) ∧ Away w' F A (l.take n) ∧ n ≤ c ∧ RdAt w' p F (l.drop n) ∧ w.grownBy w' (some p)
theorem take_ok (w : World) (p : Nat) (F : Nat → Prop) (l : List UInt8) (n : Nat) (N : Int) (hN : (n : Int) = N) (h : RdAt w p F l) (hlt : n ≤ l.length) :
    Calls Try.prog 75 #[.pointer (some ⟨p, 0, none⟩), .int .i64 N] w (Taken w p F l n) := by
  subst hN
  obtain ⟨hF, A, c, hb, ha, hcap⟩ := h
  have hc := hb.cell (i := 0) (by simp)
  have hf := hb.free 0
  simp only [List.getElem_cons_zero] at hc
  have HT := cut_tail A l.length c n hlt
  have HH := cut_head A l.length c n (by omega)
  have B1 := Lib.hid hb
  have A1 := Lib.hid ha
  clear hb ha
  obtain ⟨A2, hA2⟩ : ∃ A2, A2 = (if c = n then A else A.map (·.add (n * 1))) := ⟨_, rfl⟩
  rw [← hA2] at HT
  have E2 := Lib.hid hA2
  clear hA2
  go_enter Try.func75, Try.ntmps75
  go_wp2
  go_ret
  have hs : Spared w (w.setCell ⟨p, 0, none⟩ (.slice A2 (l.length - n) (c - n))) F := (Spared.refl w F).setCell (g := p) hF 0 _
  refine ⟨A, c, rfl, (A1.out.take n).moved hs (fun _ h => .inl h), by omega, ⟨hF, A2, c - n, ?_, ?_, by rw [List.length_drop]; omega⟩, only_setCell (World.grownBy.refl w _) 0 _⟩
  · have := B1.out.set 0 (.slice A2 (l.length - n) (c - n))
    rw [List.length_drop]
    exact this
  · have h2 := A1.out.drop n c hcap
    rw [← E2.out] at h2
    exact h2.moved hs (fun _ h => .inl h)

/-- what the reader has, in memory -/
theorem RdAt.open {w : World} {p : Nat} {F : Nat → Prop} {l : List UInt8} (h : RdAt w p F l) : ∃ A c, w.cell? ⟨p, 0, none⟩ = some (.slice A l.length c) ∧ Seen w A l ∧ l.length ≤ c := by
  obtain ⟨hF, A, c, hb, ha, hcap⟩ := h
  have hc := hb.cell (i := 0) (by simp)
  simp only [List.getElem_cons_zero] at hc
  exact ⟨A, c, hc, ha.seen, hcap⟩

theorem number_no (w : World) (p : Nat) (F : Nat → Prop) (l : List UInt8) (h : RdAt w p F l) (hl : l.length ≤ 9223372036854775807) (hk : (getL l 0 0).2 = 0) :
    Calls Try.prog 76 #[.pointer (some ⟨p, 0, none⟩)] w fun e w' => e = wrong ∧ w = w' := by
  obtain ⟨A, c, hc, hs, _⟩ := h.open
  have HS := Lib.hid hs
  have HK := Lib.hid hk
  clear h hs hk
  go_enter Try.func76, Try.ntmps76
  go_wp2_with fail
  refine (get_any A l c _ hl HS.out).mono ?_
  rintro e w1 ⟨rfl, rfl⟩
  rw [HK.out]
  go_wp2_with fail
  exact ⟨rfl, rfl, rfl⟩
theorem number_ok (w : World) (p : Nat) (F : Nat → Prop) (l : List UInt8) (h : RdAt w p F l) (hl : l.length ≤ 9223372036854775807) (hk : (getL l 0 0).2 ≠ 0) :
    Calls Try.prog 76 #[.pointer (some ⟨p, 0, none⟩)] w fun e w' => e = .returned (.int .i64 ((getL l 0 0).1 : Nat)) ∧ RdAt w' p F (l.drop (getL l 0 0).2) ∧ w.grownBy w' (some p) := by
  obtain ⟨A, c, hc, hs, _⟩ := h.open
  have HS := Lib.hid hs
  have HR := Lib.hid h
  have hf := (get_fits (l := l)).1
  have HG := Lib.hid (get_any A l c w hl hs)
  generalize (getL l 0 0).2 = k at *
  generalize (getL l 0 0).1 = n at *
  have ht : ((k : Int) == 0) = false := by rw [beq_eq_false_iff_ne]; omega
  clear h hs hk
  go_enter Try.func76, Try.ntmps76
  go_wp2_with fail
  refine HG.out.mono ?_
  rintro e w1 ⟨rfl, rfl⟩
  go_wp2_with fail
  refine (take_ok w p F l k _ rfl HR.out hf).mono ?_
  rintro e w2 ⟨A2, c2, rfl, _, _, hr2, hg2⟩
  have HR2 := Lib.hid hr2
  have HG2 := Lib.hid hg2
  clear hr2 hg2
  go_wp2_with fail
  go_ret
  exact ⟨rfl, HR2.out, HG2.out⟩

theorem narrow_made (A : Option Addr) (l : List UInt8) (c : Nat) (w : World) (hl : l.length = 8) (hs : Seen w A l) :
    Calls Try.prog 83 #[.slice A 8 c] w fun e w' => e = .returned (.tuple #[.int .i64 (narI l), .int .i64 0]) ∧ w = w' := by
  have := narrow_any A l c w hl hs
  rw [hl] at this
  exact this
theorem wide_no (w : World) (p : Nat) (F : Nat → Prop) (l : List UInt8) (h : RdAt w p F l) (hl : l.length < 8) :
    Calls Try.prog 77 #[.pointer (some ⟨p, 0, none⟩)] w fun e w' => e = wrong ∧ w = w' := by
  have HR := Lib.hid h
  clear h
  go_enter Try.func77, Try.ntmps77
  go_wp2_with fail
  refine (take_no w p F l 8 8 rfl HR.out hl).mono ?_
  rintro e w1 ⟨rfl, rfl⟩
  go_wp2_with fail
  exact ⟨rfl, rfl, rfl⟩
theorem wide_ok (w : World) (p : Nat) (F : Nat → Prop) (l : List UInt8) (h : RdAt w p F l) (hl : 8 ≤ l.length) :
    Calls Try.prog 77 #[.pointer (some ⟨p, 0, none⟩)] w fun e w' => e = .returned (.int .i64 (narI (l.take 8))) ∧ RdAt w' p F (l.drop 8) ∧ w.grownBy w' (some p) := by
  have HR := Lib.hid h
  have HL : Hid ((l.take 8).length = 8) := by show _ = _; rw [List.length_take]; omega
  clear h
  go_enter Try.func77, Try.ntmps77
  go_wp2_with fail
  refine (take_ok w p F l 8 8 rfl HR.out hl).mono ?_
  rintro e w2 ⟨A2, c2, rfl, ha2, _, hr2, hg2⟩
  have HA2 := Lib.hid ha2.seen
  have HR2 := Lib.hid hr2
  have HG2 := Lib.hid hg2
  clear hr2 hg2 ha2
  go_wp2_with fail
  refine (narrow_made A2 _ c2 _ HL.out HA2.out).mono ?_
  rintro e w3 ⟨rfl, rfl⟩
  go_wp2_with fail
  go_ret
  exact ⟨rfl, HR2.out, HG2.out⟩

/-- what part leaves: its bytes, in a block of their own -/
def Parted (w : World) (p : Nat) (F : Nat → Prop) (t u : List UInt8) (e : Ending) (w' : World) : Prop :=
  ∃ A n c, e = .returned (.slice A n c) ∧ t.length = n ∧ n ≤ c ∧ Away w' (fun b => b < w.heap.size) A t ∧ RdAt w' p F u ∧ w.grownBy w' (some p)
theorem RdAt.below {w w' : World} {p : Nat} {F : Nat → Prop} {l : List UInt8} (h : RdAt w p F l) (hb : Below w.heap.size w w') : RdAt w' p F l := by
  obtain ⟨h0, A, c, h1, h2, h3⟩ := h
  exact ⟨h0, A, c, h1.below hb h1.lt, h2.moved (Spared.of_below hb F) (fun _ h => .inl h), h3⟩
theorem RdAt.mono {w : World} {p : Nat} {F G : Nat → Prop} {l : List UInt8} (h : RdAt w p F l) (hp : G p) (hG : ∀ b, G b → F b ∨ w.heap.size ≤ b) : RdAt w p G l := by
  obtain ⟨_, A, c, h1, h2, h3⟩ := h
  exact ⟨hp, A, c, h1, h2.moved (Spared.refl w F) hG, h3⟩
theorem RdAt.lt {w : World} {p : Nat} {F : Nat → Prop} {l : List UInt8} (h : RdAt w p F l) : p < w.heap.size := by
  obtain ⟨_, A, c, h, _⟩ := h
  exact h.lt
theorem Blk.only {w w' : World} {g p : Nat} {L : List Value} {t : TypeId} (h : Blk w g L t) (hg : w.grownBy w' (some p)) (hne : g ≠ p) : Blk w' g L t :=
  (hg.block g h.lt (fun e => hne (by injection e))).trans h
theorem World.size_alloc (w : World) (o : Obj) : (w.alloc o).heap.size = w.heap.size + 1 := by simp
/-- a row of the call's own lies past what there was -/
theorem Made.past {e : TypeId} {w0 w : World} {l : List UInt8} {A : Option Addr} {n c : Nat} (h : Made e w0 l (.slice A n c) w) : Away w (fun b => b < w0.heap.size) A l := by
  rcases h.1.2 with ⟨_, h0⟩ | ⟨g, cap, cur, hv, hB, _⟩
  · exact .inl (List.eq_nil_of_length_eq_zero h0)
  · injection hv with hA _ _
    subst hA
    exact Away.of_seen h.at_len.2 (fun b off e hlt hF => by injection e with e; injection e with e1 _ _; omega)
end Go.Proofs.Ytkbjhnlihnakkaa
