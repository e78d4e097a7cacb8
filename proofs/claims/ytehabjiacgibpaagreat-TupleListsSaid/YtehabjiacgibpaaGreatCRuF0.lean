/-
  What a part of the grammar comes to in the reader: live (no fault yet) as its list says, dead (a fault stands) it changes nothing; parts behind one another. No program is named.
  The document's two, in the reader.
  Rows of relations and of types: their cells, by number; what a parser answers. No program is named but its types.
  each over refs, relations, types: are all as they may be? By the contract of what asks it of one. Conditions: the list is there.
  May an expression be, by the program? Conditions: it is there; what it may have is from 0 to 1,000.
  May a ref, a relation, a type, a schema be, by the program? Conditions: they are there.
  The program's sizes: what is wrong with how much there is of a schema. Condition: the schema is there.
  IndexFunc and ContainsFunc over refs, relations, types: the number of the first that is so; is any so? By the contract of the closure that is asked of one. Conditions: the list is there.
  The program's repetitions: the first name that stands for two things. Conditions: the schema is there; its types are no more than its row has room for.
  A relation without anything, as it lies. No program is named.
-/
import Derived.Test.YtehabjiacgibpaaGreatCLpR
import Derived.Test.YtehabjiacgibpaaGreatCTpL
import Derived.Test.YtehabjiacgibpaaGreatCRowG
import Derived.Shelf.Abstract
import Derived.Test.YtehabjiacgibpaaGreatCNmShow
import Derived.Test.YtehabjiacgibpaaGreatCRoO
import Derived.Deep.QuietTactic
import Derived.BigQuiet
namespace Go.Proofs.YtehabjiacgibpaaGreat
open Go.RowKit
def Ends (L : List Tk) : Prop := ∀ k (h : k < L.length), k + 1 = L.length → L[k].1 = [] ∨ L[k].1 = [63]
theorem nx_drop {L : List Tk} {k : Nat} (h : k < L.length) : nx (L.drop k) = L[k] := by
  rw [nx, List.drop_eq_getElem_cons h]
  rfl
theorem drop_tail {L : List Tk} {k : Nat} : (L.drop k).tail = L.drop (k + 1) := by simp
theorem Ends.more {L : List Tk} (he : Ends L) {k : Nat} (h : k < L.length) (h1 : L[k].1 ≠ []) (h2 : L[k].1 ≠ [63]) : k + 1 < L.length := by
  by_cases hk : k + 1 = L.length
  · rcases he k h hk with e | e
    · exact absurd e h1
    · exact absurd e h2
  · omega
def Goes {α : Type} (P : List Tk → Rs α) (L : List Tk) (k : Nat) (d : Dg) (a : α) (k' : Nat) (d' : Dg) : Prop :=
  (d.2.2 = 0 → (∃ r, P (L.drop k) = .ok a r ∧ r = L.drop k' ∧ d' = d) ∨ (P (L.drop k) = .no d' ∧ d'.2.2 ≠ 0)) ∧ (d.2.2 ≠ 0 → d' = d) ∧ k ≤ k' ∧ k' < L.length
theorem Goes.then {α β : Type} {P : List Tk → Rs α} {f : α → List Tk → Rs β} {L : List Tk} {k k1 k2 : Nat} {d d1 d2 : Dg} {a : α} {b : β} (h1 : Goes P L k d a k1 d1) (h2 : Goes (f a) L k1 d1 b k2 d2) :
    Goes (fun ts => (P ts).then f) L k d b k2 d2 := by
  obtain ⟨l1, e1, m1, n1⟩ := h1
  obtain ⟨l2, e2, m2, n2⟩ := h2
  refine ⟨fun hd => ?_, fun hd => ?_, Nat.le_trans m1 m2, n2⟩
  · rcases l1 hd with ⟨r, hP, rfl, rfl⟩ | ⟨hP, hn⟩
    · simp only [hP, Rs.then]
      exact l2 hd
    · simp only [hP, Rs.then]
      refine .inr ⟨?_, ?_⟩
      · rw [e2 hn]
      · rw [e2 hn]; exact hn
  · have := e1 hd
    subst this
    exact e2 hd
theorem Goes.ok {α : Type} {L : List Tk} {k : Nat} {d : Dg} (a : α) (hk : k < L.length) : Goes (fun ts => .ok a ts) L k d a k d := ⟨fun _ => .inl ⟨_, rfl, rfl, rfl⟩, fun _ => rfl, Nat.le_refl _, hk⟩
theorem Goes.dead {α : Type} {P : List Tk → Rs α} {L : List Tk} {k : Nat} {d : Dg} (hd : d.2.2 ≠ 0) (a : α) (hk : k < L.length) : Goes P L k d a k d := ⟨fun h => absurd h hd, fun _ => rfl, Nat.le_refl _, hk⟩
theorem Goes.fail {α : Type} {P : List Tk → Rs α} {L : List Tk} {k : Nat} {d e : Dg} (a : α) (hk : k < L.length) (hd : d.2.2 = 0) (he : e.2.2 ≠ 0) (hP : P (L.drop k) = .no e) : Goes P L k d a k e :=
  ⟨fun _ => .inr ⟨hP, he⟩, fun h => absurd hd h, Nat.le_refl _, hk⟩
theorem Goes.take {α : Type} {Q R : List Tk → Rs α} {L : List Tk} {k k' : Nat} {d d' : Dg} {a : α} {s : Txt} (hk : k < L.length) (h : d.2.2 = 0 ∧ L[k].1 = s) (hq : Goes Q L (k + 1) d a k' d') :
    Goes (fun ts => if (nx ts).1 = s then Q ts.tail else R ts) L k d a k' d' := by
  obtain ⟨l, e, m, n⟩ := hq
  refine ⟨fun hd => ?_, e, by omega, n⟩
  simp only [nx_drop hk, h.2, if_true, drop_tail]
  exact l hd
theorem Goes.pass {α : Type} {Q R : List Tk → Rs α} {L : List Tk} {k k' : Nat} {d d' : Dg} {a : α} {s : Txt} (hk : k < L.length) (h : ¬ (d.2.2 = 0 ∧ L[k].1 = s)) (hr : Goes R L k d a k' d') :
    Goes (fun ts => if (nx ts).1 = s then Q ts.tail else R ts) L k d a k' d' := by
  obtain ⟨l, e, m, n⟩ := hr
  refine ⟨fun hd => ?_, e, m, n⟩
  have h1 : ¬ L[k].1 = s := fun hs => h ⟨hd, hs⟩
  simp only [nx_drop hk, h1, if_false]
  exact l hd
theorem fail8 (t : Tk) : (failT t 8).2.2 ≠ 0 := Nat.succ_ne_zero 7
theorem fail9 (t : Tk) : (failT t 9).2.2 ≠ 0 := Nat.succ_ne_zero 8
theorem nameL_ends {s : Txt} (h : nameL s = true) : s ≠ [] ∧ s ≠ [63] := by
  constructor
  · rintro rfl; revert h; decide
  · rintro rfl; revert h; decide
theorem name_goes {L : List Tk} (he : Ends L) {k : Nat} {d : Dg} (hk : k < L.length) : Goes nameP L k d (afterName L k hk d).1 (afterName L k hk d).2.1 (afterName L k hk d).2.2 := by
  unfold afterName
  by_cases h0 : d.2.2 = 0
  · rw [if_pos h0]
    by_cases h1 : nameL L[k].1 = true
    · rw [if_pos h1]
      have h2 := nameL_ends h1
      refine ⟨fun _ => .inl ⟨_, ?_, rfl, rfl⟩, fun _ => rfl, by simp, he.more hk h2.1 h2.2⟩
      simp only [nameP, nx_drop hk, h1, if_true, drop_tail]
    · rw [if_neg h1]
      refine Goes.fail _ hk h0 (fail8 _) ?_
      simp only [nameP, nx_drop hk, h1]
      rfl
  · rw [if_neg h0]
    exact Goes.dead h0 _ hk
theorem must_goes {L : List Tk} (he : Ends L) {k : Nat} {d : Dg} (hk : k < L.length) {s : Txt} (hs : s ≠ [] ∧ s ≠ [63]) : Goes (mustP s) L k d () (afterMust L k hk d s).1 (afterMust L k hk d s).2 := by
  unfold afterMust
  by_cases h0 : d.2.2 = 0
  · rw [if_pos h0]
    by_cases h1 : L[k].1 = s
    · rw [if_pos h1]
      refine ⟨fun _ => .inl ⟨_, ?_, rfl, rfl⟩, fun _ => rfl, by simp, he.more hk (h1 ▸ hs.1) (h1 ▸ hs.2)⟩
      simp only [mustP, nx_drop hk, h1, if_true, drop_tail]
    · rw [if_neg h1]
      refine Goes.fail _ hk h0 (fail8 _) ?_
      simp only [mustP, nx_drop hk, h1, if_false]
  · rw [if_neg h0]
    exact Goes.dead h0 _ hk
theorem rname_goes {W : World} {g : Nat} {Q : Option Addr × Nat} {L : List Tk} {k op : Nat} {d : Dg} (he : Ends L) (h : Rd W g Q L k op d) (hk : k < L.length) :
    Calls Tryz.prog 31 #[.pointer (some ⟨g, 0, none⟩)] W fun r w' =>
      ∃ s k' d', r = .returned (strV s) ∧ small s ∧ Goes nameP L k d s k' d' ∧ Rd w' g Q L k' op d' ∧ Spared W w' (onG g) :=
  (rname_any h hk).mono fun r w' ⟨h1, h2, h3⟩ => by
    refine ⟨_, _, _, h1, ?_, name_goes he hk, h2, h3⟩
    obtain ⟨b, off, c, _, hs, _⟩ := h.at_ hk
    unfold afterName
    split
    · split
      · exact hs.1
      · exact Nat.zero_le _
    · exact Nat.zero_le _
theorem must_any' {W : World} {g : Nat} {Q : Option Addr × Nat} {L : List Tk} {k op : Nat} {d : Dg} (he : Ends L) (h : Rd W g Q L k op d) (hk : k < L.length) (s : Txt) (hs : s ≠ [] ∧ s ≠ [63]) :
    Calls Tryz.prog 53 #[.pointer (some ⟨g, 0, none⟩), strV s] W fun r w' =>
      ∃ k' d', r = .returned (.tuple #[]) ∧ Goes (mustP s) L k d () k' d' ∧ Rd w' g Q L k' op d' ∧ Spared W w' (onG g) :=
  (must_any h hk s).mono fun _ _ ⟨h1, h2, h3⟩ => ⟨_, _, h1, must_goes he hk hs, h2, h3⟩
end Go.Proofs.YtehabjiacgibpaaGreat
namespace Go.Proofs.YtehabjiacgibpaaGreat
open Go.RowKit
theorem ExAt.shape {W : World} {F : Nat → Prop} {e : Ex} {cs : List Value} (h : ExAt W F e cs) : ∃ k n o A m c, cs = [.int .i64 k, strV n, strV o, .slice A m c] := by
  obtain ⟨k, n, o, ks⟩ := e
  obtain ⟨A, c, rfl, _⟩ := h.row
  exact ⟨_, _, _, _, _, _, rfl⟩
theorem two_world {F : Nat → Prop} {W : World} {g : Nat} {Q : Option Addr × Nat} {L : List Tk} {k op : Nat} {d : Dg} (hF : ∀ i, F i → i < W.heap.size) (h : Rd W g Q L k op d) {K : Int} (hK : fitsI K) {a b : Ex} {k1 : Int} {n1 o1 : Txt} {A1 : Option Addr} {m1 c1 : Nat} {k2 : Int} {n2 o2 : Txt} {A2 : Option Addr} {m2 c2 : Nat} (ha : ExAt W F a [.int .i64 k1, strV n1, strV o1, .slice A1 m1 c1]) (hb : ExAt W F b [.int .i64 k2, strV n2, strV o2, .slice A2 m2 c2])
    {t1 : Txt} {t2 t3 : Nat} {R : Array Value} {W6 : World} (hW : W6 = ((((((W.alloc (.cells #[strV t1, .int .i64 (t2 : Int), .int .i64 (t3 : Int)] 75)).alloc (.cells #[.int .i64 k1, strV n1, strV o1, .slice A1 m1 c1] 69)).alloc (.cells #[.int .i64 k2, strV n2, strV o2, .slice A2 m2 c2] 69)).alloc (.cells R 69)).alloc (.cells #[.int .i64 k1, strV n1, strV o1, .slice A1 m1 c1, .int .i64 k2, strV n2, strV o2, .slice A2 m2 c2] 69)).alloc (.cells #[.int .i64 K, .string ⟨#[]⟩, .string ⟨#[]⟩, .slice (some ⟨W.heap.size + 1 + 1 + 1 + 1, 0, none⟩) 2 2] 69))) :
    Below W.heap.size W W6 ∧ Rd W6 g Q L k op d ∧ W6.heap.size = W.heap.size + 6 ∧ Blk W6 W.heap.size [strV t1, .int .i64 (t2 : Int), .int .i64 (t3 : Int)] 75 ∧ Blk W6 (W.heap.size + 1 + 1 + 1) R.toList 69 ∧
      Blk W6 (W.heap.size + 1 + 1 + 1 + 1 + 1) [.int .i64 K, .string ⟨#[]⟩, .string ⟨#[]⟩, .slice (some ⟨W.heap.size + 1 + 1 + 1 + 1, 0, none⟩) 2 2] 69 ∧ ExAt W6 (fun x => F x ∨ x = W.heap.size + 1 + 1 + 1) (.mk K [] [] [a, b]) [.int .i64 K, .string ⟨#[]⟩, .string ⟨#[]⟩, .slice (some ⟨W.heap.size + 1 + 1 + 1 + 1, 0, none⟩) 2 2] := by
  have hB6 : Below W.heap.size W W6 := by
    rw [hW]
    exact ((((((Below.refl W.heap.size W).alloc (Nat.le_refl _) _).alloc (by simp only [World.size_alloc]; omega) _).alloc (by simp only [World.size_alloc]; omega) _).alloc (by simp only [World.size_alloc]; omega) _).alloc (by simp only [World.size_alloc]; omega) _).alloc (by simp only [World.size_alloc]; omega) _
  have hr6 := h.below hB6
  have hsz : W6.heap.size = W.heap.size + 6 := by rw [hW]; simp
  have hbt : Blk W6 W.heap.size [strV t1, .int .i64 (t2 : Int), .int .i64 (t3 : Int)] 75 := by
    rw [hW]
    exact (((((Blk.new W _ _).alloc _).alloc _).alloc _).alloc _).alloc _
  have hbr : Blk W6 (W.heap.size + 1 + 1 + 1) R.toList 69 := by
    rw [hW]
    have := Blk.new (((W.alloc (.cells #[strV t1, .int .i64 (t2 : Int), .int .i64 (t3 : Int)] 75)).alloc (.cells #[.int .i64 k1, strV n1, strV o1, .slice A1 m1 c1] 69)).alloc (.cells #[.int .i64 k2, strV n2, strV o2, .slice A2 m2 c2] 69)) R.toList 69
    simp only [World.size_alloc] at this
    exact (this.alloc _).alloc _
  have hba : Blk W6 (W.heap.size + 1 + 1 + 1 + 1) [.int .i64 k1, strV n1, strV o1, .slice A1 m1 c1, .int .i64 k2, strV n2, strV o2, .slice A2 m2 c2] 69 := by
    rw [hW]
    have := Blk.new ((((W.alloc (.cells #[strV t1, .int .i64 (t2 : Int), .int .i64 (t3 : Int)] 75)).alloc (.cells #[.int .i64 k1, strV n1, strV o1, .slice A1 m1 c1] 69)).alloc (.cells #[.int .i64 k2, strV n2, strV o2, .slice A2 m2 c2] 69)).alloc (.cells R 69)) [.int .i64 k1, strV n1, strV o1, .slice A1 m1 c1, .int .i64 k2, strV n2, strV o2, .slice A2 m2 c2] 69
    simp only [World.size_alloc] at this
    exact this.alloc _
  have hbe : Blk W6 (W.heap.size + 1 + 1 + 1 + 1 + 1) [.int .i64 K, .string ⟨#[]⟩, .string ⟨#[]⟩, .slice (some ⟨W.heap.size + 1 + 1 + 1 + 1, 0, none⟩) 2 2] 69 := by
    rw [hW]
    have := Blk.new (((((W.alloc (.cells #[strV t1, .int .i64 (t2 : Int), .int .i64 (t3 : Int)] 75)).alloc (.cells #[.int .i64 k1, strV n1, strV o1, .slice A1 m1 c1] 69)).alloc (.cells #[.int .i64 k2, strV n2, strV o2, .slice A2 m2 c2] 69)).alloc (.cells R 69)).alloc (.cells #[.int .i64 k1, strV n1, strV o1, .slice A1 m1 c1, .int .i64 k2, strV n2, strV o2, .slice A2 m2 c2] 69)) [.int .i64 K, .string ⟨#[]⟩, .string ⟨#[]⟩, .slice (some ⟨W.heap.size + 1 + 1 + 1 + 1, 0, none⟩) 2 2] 69
    simp only [World.size_alloc] at this
    exact this
  have hlt := h.lt
  refine ⟨hB6, hr6, hsz, hbt, hbr, hbe, ?_⟩
  refine ExAt.of_row (n := []) (o := []) ⟨hK, Nat.zero_le _, Nat.zero_le _, by simp⟩ (.inr ⟨_, 0, rfl, by rw [hsz]; omega, by intro hc; rcases hc with hc | hc; have := hF _ hc; omega; omega, fun j hj => ?_⟩)
  have hw : ∀ {x : Ex} {cs : List Value}, ExAt W F x cs → ExAt W6 (fun x => F x ∨ x = W.heap.size + 1 + 1 + 1) x cs := fun h => ExAt.moved (Spared.of_below hB6 F) (fun i hi => by rcases hi with hi | hi; exact .inl hi; exact .inr (by omega)) _ _ h
  have hc : ∀ i, i < 8 → W6.cell? ⟨W.heap.size + 1 + 1 + 1 + 1, i, none⟩ = [.int .i64 k1, strV n1, strV o1, .slice A1 m1 c1, .int .i64 k2, strV n2, strV o2, .slice A2 m2 c2][i]? := fun i hi => by
    rw [hba.cell (by simpa using hi), List.getElem?_eq_getElem]
  match j, hj with
  | 0, _ => exact ⟨_, hw ha, fun i hi => by
      rw [show 0 + 0 * 4 + i = i by omega, hc i (by omega)]
      match i, hi with
      | 0, _ => rfl
      | 1, _ => rfl
      | 2, _ => rfl
      | 3, _ => rfl⟩
  | 1, _ => exact ⟨_, hw hb, fun i hi => by
      rw [show 0 + 1 * 4 + i = 4 + i by omega, hc _ (by omega)]
      match i, hi with
      | 0, _ => rfl
      | 1, _ => rfl
      | 2, _ => rfl
      | 3, _ => rfl⟩
abbrev Old (g : Nat) (W : World) : Nat → Prop := fun b => b = g ∨ b < W.heap.size
def ExOut (s : Nat) (P : List Tk → Rs Ex) (F : Nat → Prop) (W : World) (g : Nat) (Q : Option Addr × Nat) (L : List Tk) (k op : Nat) (d : Dg) (r : Ending) (w' : World) : Prop :=
  ∃ e cs k' op' d', r = .returned (.agg cs.toArray) ∧ ExAt w' F e cs ∧ ((d'.2.2 = 0 → heightE e ≤ 12 ∧ op' = op) ∧ op ≤ op' ∧ op' ≤ op + s) ∧ Goes P L k d e k' d' ∧ Rd w' g Q L k' op' d' ∧ Spared W w' (onG g)
set_option maxHeartbeats 1000000 in
theorem two_goes {F : Nat → Prop} {W : World} {g : Nat} {Q : Option Addr × Nat} {L : List Tk} {k op : Nat} {d : Dg} (hg : F g) (hF : ∀ i, F i → i < W.heap.size) (h : Rd W g Q L k op d) (hk : k < L.length) (K : Int) (hK : fitsI K) (t : Tk) {a b : Ex} {ca cb : List Value} (ha : ExAt W F a ca) (hb : ExAt W F b cb)
    (hm : d.2.2 = 0 → heightE a ≤ 12 ∧ heightE b ≤ 12) :
    Calls Tryz.prog 88 #[.pointer (some ⟨g, 0, none⟩), .int .i64 K, .agg #[strV t.1, .int .i64 (t.2.1 : Int), .int .i64 (t.2.2 : Int)], .agg ca.toArray, .agg cb.toArray] W (ExOut 0 (twoP K t a b) F W g Q L k op d) := by
  obtain ⟨k1, n1, o1, A1, m1, c1, rfl⟩ := ha.shape
  obtain ⟨k2, n2, o2, A2, m2, c2, rfl⟩ := hb.shape
  obtain ⟨t1, t2, t3⟩ := t
  dsimp only
  show Calls _ _ #[_, _, _, .agg #[.int .i64 k1, strV n1, strV o1, .slice A1 m1 c1], .agg #[.int .i64 k2, strV n2, strV o2, .slice A2 m2 c2]] _ _
  obtain ⟨W6, hW⟩ : ∃ W6, W6 = ((((((W.alloc (.cells #[strV t1, .int .i64 (t2 : Int), .int .i64 (t3 : Int)] 75)).alloc (.cells #[.int .i64 k1, strV n1, strV o1, .slice A1 m1 c1] 69)).alloc (.cells #[.int .i64 k2, strV n2, strV o2, .slice A2 m2 c2] 69)).alloc (.cells #[.int .i64 0, .string ⟨#[]⟩, .string ⟨#[]⟩, .slice none 0 0] 69)).alloc (.cells #[.int .i64 k1, strV n1, strV o1, .slice A1 m1 c1, .int .i64 k2, strV n2, strV o2, .slice A2 m2 c2] 69)).alloc (.cells #[.int .i64 K, .string ⟨#[]⟩, .string ⟨#[]⟩, .slice (some ⟨W.heap.size + 1 + 1 + 1 + 1, 0, none⟩) 2 2] 69)) := ⟨_, rfl⟩
  obtain ⟨WN, hN⟩ : ∃ WN, WN = ((((((W.alloc (.cells #[strV t1, .int .i64 (t2 : Int), .int .i64 (t3 : Int)] 75)).alloc (.cells #[.int .i64 k1, strV n1, strV o1, .slice A1 m1 c1] 69)).alloc (.cells #[.int .i64 k2, strV n2, strV o2, .slice A2 m2 c2] 69)).alloc (.cells #[.int .i64 K, .string ⟨#[]⟩, .string ⟨#[]⟩, .slice (some ⟨W.heap.size + 1 + 1 + 1 + 1, 0, none⟩) 2 2] 69)).alloc (.cells #[.int .i64 k1, strV n1, strV o1, .slice A1 m1 c1, .int .i64 k2, strV n2, strV o2, .slice A2 m2 c2] 69)).alloc (.cells #[.int .i64 K, .string ⟨#[]⟩, .string ⟨#[]⟩, .slice (some ⟨W.heap.size + 1 + 1 + 1 + 1, 0, none⟩) 2 2] 69)) := ⟨_, rfl⟩
  obtain ⟨hB6, hr6, hsz, hbt, hbr, hbe, hEW⟩ := two_world hF h hK ha hb hW
  obtain ⟨bB6, br6, bsz, bbt, bbr, bbe, bEW⟩ := two_world hF h hK ha hb hN
  have hE := ExAt.moved (G := F) (Spared.refl W6 _) (fun _ h => .inl (.inl h)) _ _ hEW
  have bE := ExAt.moved (G := F) (Spared.refl WN _) (fun _ h => .inl (.inl h)) _ _ bEW
  obtain ⟨P, hP⟩ : ∃ P, P = twoP K (t1, t2, t3) a b := ⟨_, rfl⟩
  obtain ⟨e, he⟩ : ∃ e, e = Ex.mk K [] [] [a, b] := ⟨_, rfl⟩
  have hh : d.2.2 = 0 → heightE e ≤ 13 := fun h0 => by
    obtain ⟨q1, q2⟩ := hm h0
    rw [he, heightE, heightL, heightL, heightL]
    omega
  have HP : Hid (∀ ts, P ts = if 12 < heightE e then .no (failT (t1, t2, t3) 9) else .ok e ts) := Lib.hid (fun ts => by rw [hP, he]; rfl)
  rw [← he] at hE bE hEW
  have HPE := Lib.hid hP
  have x5 := hr6.1.cell (i := 5) (by simp)
  simp only [List.getElem_cons_succ, List.getElem_cons_zero] at x5
  have HC : Hid (d.2.2 = 0 → Calls Tryz.prog 106 #[.agg #[.int .i64 K, .string ⟨#[]⟩, .string ⟨#[]⟩, .slice (some ⟨W.heap.size + 1 + 1 + 1 + 1, 0, none⟩) 2 2]] W6 fun e' w' => e' = .returned (.int .i64 (heightE e)) ∧ Below W6.heap.size W6 w') := Lib.hid (fun h0 => height_any e W6 _ _ hE (by have := hh h0; omega))
  have HT := Lib.hid hbt
  have HBR := Lib.hid hbr
  have HBE := Lib.hid hbe
  have HE := Lib.hid hE
  have HR6 := Lib.hid hr6
  have HR0 := Lib.hid h
  have HB6 := Lib.hid hB6
  have HW := Lib.hid hW
  have HNW := Lib.hid hN
  have HNB := Lib.hid bB6
  have HNR := Lib.hid br6
  have HNE := Lib.hid bE
  have HNX := Lib.hid bbr
  have HSZ := Lib.hid hsz
  have HHE : ∃ H, Hid (H = heightE e) := ⟨_, Lib.hid rfl⟩
  obtain ⟨H, HHE⟩ := HHE
  rw [← HHE.out] at HP HC hh
  have HH := Lib.hid hh
  rw [hW] at x5 HC
  have HME := Lib.hid hEW
  clear hEW bEW hP hbt hbr hbe hE hr6 h hB6 hW hh ha hb hm hsz hK he hN bB6 br6 bE bbr bbt bbe bsz
  by_cases h0 : d.2.2 = 0
  · have hd : ((d.2.2 : Int) == 0) = true := by rw [h0]; rfl
    have HL := HH.out h0
    have HC1 := Lib.hid (HC.out h0)
    have HD0 := Lib.hid h0
    have HGN := HR0.out.lt
    have HG3 : Hid (¬ onG g (W.heap.size + 1 + 1 + 1)) := Lib.hid (by show ¬ (_ = g); omega)
    have HG5 : Hid (¬ onG g (W.heap.size + 1 + 1 + 1 + 1 + 1)) := Lib.hid (by show ¬ (_ = g); omega)
    have HF : Hid (∀ w7, Rd w7 g Q L k op d → Calls Tryz.prog 34 #[.pointer (some ⟨g, 0, none⟩), .agg #[strV t1, .int .i64 (t2 : Int), .int .i64 (t3 : Int)], .int .i64 9] w7 fun r w' => r = .returned (.tuple #[]) ∧ Rd w' g Q L k op (failT (t1, t2, t3) 9) ∧ Spared w7 w' (onG g)) := Lib.hid (fun w7 h7 => (fail_any h7 hk (t1, t2, t3) 9).mono fun r w' q => by rwa [if_pos h0] at q)
    clear HGN
    rw [← HW.out] at HC1 x5
    by_cases h12 : 12 < H
    · have hx : decide ((12 : Int) < (H : Int)) = true := decide_eq_true (by omega)
      have HH12 := Lib.hid h12
      rw [HW.out] at x5
      clear h0 h12
      go_enter Tryz.func88, Tryz.ntmps88
      go_wp2_with (first
        | (go_at_call 106; rw [← HW.out]; with_reducible refine HC1.out.mono ?_; rintro r w7 ⟨rfl, hb7⟩; have HB7 := Lib.hid hb7; have HBR7 := Lib.hid (HBR.out.below hb7 HBR.out.lt); have HBE7 := Lib.hid (HBE.out.below hb7 HBE.out.lt); have hT7 := (HT.out.below hb7 HT.out.lt); have t0 := hT7.cell (i := 0) (by simp); have t1' := hT7.cell (i := 1) (by simp); have t2' := hT7.cell (i := 2) (by simp); simp only [List.getElem_cons_succ, List.getElem_cons_zero] at t0 t1' t2'; clear hT7 hb7)
        | (go_at_call 34; with_reducible refine (HF.out _ (HR6.out.below HB7.out)).mono ?_; rintro r w8 ⟨rfl, hr8, hs8⟩; have HR8 := Lib.hid hr8; have HS8 := Lib.hid hs8; have HBR8 := Lib.hid (hs8.blk HBR7.out HG3.out); have HBE8 := Lib.hid (hs8.blk HBE7.out HG5.out); clear hr8 hs8; have e0 := HBE8.out.cell (i := 0) (by simp); have e1 := HBE8.out.cell (i := 1) (by simp); have e2 := HBE8.out.cell (i := 2) (by simp); have e3 := HBE8.out.cell (i := 3) (by simp); have v0 := HBR8.out.cell (i := 0) (by simp); have v1 := HBR8.out.cell (i := 1) (by simp); have v2 := HBR8.out.cell (i := 2) (by simp); have v3 := HBR8.out.cell (i := 3) (by simp); simp only [List.getElem_cons_succ, List.getElem_cons_zero] at e0 e1 e2 e3 v0 v1 v2 v3; have f0 := HBR8.out.free 0; have f1 := HBR8.out.free 1; have f2 := HBR8.out.free 2; have f3 := HBR8.out.free 3))
      refine bodyPost_ret (v := .agg #[.int .i64 K, .string ⟨#[]⟩, .string ⟨#[]⟩, .slice (some ⟨W.heap.size + 1 + 1 + 1 + 1, 0, none⟩) 2 2]) (by simp [results, Tryz.results88, go_sem, v0, v1, v2, v3]) rfl ?_
      have GE : Hid (W.heap.size ≤ W.heap.size + 1 + 1 + 1) := Lib.hid (by omega)
      have S8 := sp_trans (Spared.of_below HB6.out (onG g)) (sp_trans (Spared.of_below HB7.out (onG g)) HS8.out)
      unfold ExOut
      refine ⟨e, _, k, op, failT (t1, t2, t3) 9, rfl, ?_, ⟨fun h => absurd h (fail9 _), Nat.le_refl _, Nat.le_refl _⟩, ?_, HR0.out.setNew (HR0.out.setNew (HR0.out.setNew (HR0.out.setNew HR8.out GE.out 0 _) GE.out 1 _) GE.out 2 _) GE.out 3 _, ((((S8).setNew GE.out 0 _).setNew GE.out 1 _).setNew GE.out 2 _).setNew GE.out 3 _⟩
      · exact ExAt.moved (G := F) (((((((Spared.of_below HB7.out (fun x => F x ∨ x = W.heap.size + 1 + 1 + 1)).trans (HS8.out.mono (fun _ h => .inl (h ▸ hg))) (fun _ h => .inl h))).setCell (g := W.heap.size + 1 + 1 + 1) (.inr rfl) 0 _).setCell (g := W.heap.size + 1 + 1 + 1) (.inr rfl) 1 _).setCell (g := W.heap.size + 1 + 1 + 1) (.inr rfl) 2 _).setCell (g := W.heap.size + 1 + 1 + 1) (.inr rfl) 3 _) (fun _ h => .inl (.inl h)) _ _ HME.out
      · rw [← HPE.out]
        refine Goes.fail e hk HD0.out (fail9 _) ?_
        rw [HP.out, if_pos HH12.out]
    · have hx : decide ((12 : Int) < (H : Int)) = false := decide_eq_false (by omega)
      have HH12 := Lib.hid h12
      rw [HW.out] at x5
      clear h0 h12
      go_enter Tryz.func88, Tryz.ntmps88
      go_wp2_with (first
        | (go_at_call 106; rw [← HW.out]; with_reducible refine HC1.out.mono ?_; rintro r w7 ⟨rfl, hb7⟩; have HB7 := Lib.hid hb7; have HBR7 := Lib.hid (HBR.out.below hb7 HBR.out.lt); have HBE7 := Lib.hid (HBE.out.below hb7 HBE.out.lt); have e0 := HBE7.out.cell (i := 0) (by simp); have e1 := HBE7.out.cell (i := 1) (by simp); have e2 := HBE7.out.cell (i := 2) (by simp); have e3 := HBE7.out.cell (i := 3) (by simp); have v0 := HBR7.out.cell (i := 0) (by simp); have v1 := HBR7.out.cell (i := 1) (by simp); have v2 := HBR7.out.cell (i := 2) (by simp); have v3 := HBR7.out.cell (i := 3) (by simp); simp only [List.getElem_cons_succ, List.getElem_cons_zero] at e0 e1 e2 e3 v0 v1 v2 v3; have f0 := HBR7.out.free 0; have f1 := HBR7.out.free 1; have f2 := HBR7.out.free 2; have f3 := HBR7.out.free 3; clear hb7))
      refine bodyPost_ret (v := .agg #[.int .i64 K, .string ⟨#[]⟩, .string ⟨#[]⟩, .slice (some ⟨W.heap.size + 1 + 1 + 1 + 1, 0, none⟩) 2 2]) (by simp [results, Tryz.results88, go_sem, v0, v1, v2, v3]) rfl ?_
      have GE : Hid (W.heap.size ≤ W.heap.size + 1 + 1 + 1) := Lib.hid (by omega)
      have S8 := sp_trans (Spared.of_below HB6.out (onG g)) (Spared.of_below HB7.out (onG g))
      unfold ExOut
      refine ⟨e, _, k, op, d, rfl, ?_, ⟨fun _ => ⟨by have := HH12.out; rw [← HHE.out]; omega, rfl⟩, Nat.le_refl _, Nat.le_refl _⟩, ?_, HR0.out.setNew (HR0.out.setNew (HR0.out.setNew (HR0.out.setNew (HR6.out.below HB7.out) GE.out 0 _) GE.out 1 _) GE.out 2 _) GE.out 3 _, ((((S8).setNew GE.out 0 _).setNew GE.out 1 _).setNew GE.out 2 _).setNew GE.out 3 _⟩
      · exact ExAt.moved (G := F) ((((((Spared.of_below HB7.out (fun x => F x ∨ x = W.heap.size + 1 + 1 + 1))).setCell (g := W.heap.size + 1 + 1 + 1) (.inr rfl) 0 _).setCell (g := W.heap.size + 1 + 1 + 1) (.inr rfl) 1 _).setCell (g := W.heap.size + 1 + 1 + 1) (.inr rfl) 2 _).setCell (g := W.heap.size + 1 + 1 + 1) (.inr rfl) 3 _) (fun _ h => .inl (.inl h)) _ _ HME.out
      · rw [← HPE.out]
        refine ⟨fun _ => .inl ⟨_, ?_, rfl, rfl⟩, fun _ => rfl, Nat.le_refl _, hk⟩
        rw [HP.out, if_neg HH12.out]
  · have hd : ((d.2.2 : Int) == 0) = false := beq_eq_false_iff_ne.2 (by omega)
    go_enter Tryz.func88, Tryz.ntmps88
    go_wp2_with fail
    rw [← HNW.out]
    have y0 := HNX.out.cell (i := 0) (by simp)
    have y1 := HNX.out.cell (i := 1) (by simp)
    have y2 := HNX.out.cell (i := 2) (by simp)
    have y3 := HNX.out.cell (i := 3) (by simp)
    simp only [List.getElem_cons_succ, List.getElem_cons_zero] at y0 y1 y2 y3
    refine bodyPost_ret (v := .agg #[.int .i64 K, .string ⟨#[]⟩, .string ⟨#[]⟩, .slice (some ⟨W.heap.size + 1 + 1 + 1 + 1, 0, none⟩) 2 2]) (by simp [results, Tryz.results88, go_sem, y0, y1, y2, y3]) rfl ?_
    exact ⟨e, _, k, op, d, rfl, HNE.out, ⟨fun h => absurd h h0, Nat.le_refl _, Nat.le_refl _⟩, Goes.dead h0 _ hk, HNR.out, Spared.of_below HNB.out _⟩
end Go.Proofs.YtehabjiacgibpaaGreat
namespace Go.Proofs.YtehabjiacgibpaaGreat
open Go.RowKit
theorem RlAt.shape {W : World} {F : Nat → Prop} {x : Rl} {cs : List Value} (h : RlAt W F x cs) : ∃ a A1 n1 c1 k n o A2 n2 c2, cs = [strV a, .slice A1 n1 c1, .int .i64 k, strV n, strV o, .slice A2 n2 c2] := by
  obtain ⟨A, c, es, rfl, _, _, h⟩ := h
  obtain ⟨k, n, o, A2, n2, c2, rfl⟩ := h.shape
  exact ⟨_, _, _, _, _, _, _, _, _, _, rfl⟩
theorem rl_one (a : Txt) (A1 : Option Addr) (n1 c1 : Nat) (k : Int) (n o : Txt) (A2 : Option Addr) (n2 c2 : Nat) : ∀ u ∈ ([strV a, .slice A1 n1 c1, .int .i64 k, strV n, strV o, .slice A2 n2 c2] : List Value), u.oneCell' = true := by
  intro u hu
  simp only [List.mem_cons, List.not_mem_nil, or_false] at hu
  rcases hu with rfl | rfl | rfl | rfl | rfl | rfl <;> rfl
theorem rowRel : ∃ i z, RowT Tryz.prog 63 71 6 104 i z := by
  have hf : (Tryz.prog.info? 71).map (fun i => (i.zero, i.size, i.bytes)) = some (some (.agg #[.string ⟨#[]⟩, .slice none 0 0, .int .i64 0, .string ⟨#[]⟩, .string ⟨#[]⟩, .slice none 0 0]), 6, 104) := by kernel_rfl
  obtain ⟨i, hi, hz, hs, hb⟩ := info_parts hf
  exact ⟨i, _, Tryz.underlying63, hi, hz, hs, hb, rfl⟩
theorem TyAt.shape {W : World} {F : Nat → Prop} {x : Ty} {cs : List Value} (h : TyAt W F x cs) : ∃ a A1 n1 c1, cs = [strV a, .slice A1 n1 c1] := by
  obtain ⟨A, c, rfl, _, _⟩ := h
  exact ⟨_, _, _, _, rfl⟩
theorem ty_one (a : Txt) (A1 : Option Addr) (n1 c1 : Nat) : ∀ u ∈ ([strV a, .slice A1 n1 c1] : List Value), u.oneCell' = true := by
  intro u hu
  simp only [List.mem_cons, List.not_mem_nil, or_false] at hu
  rcases hu with rfl | rfl <;> rfl
theorem rowTy : ∃ i z, RowT Tryz.prog 37 65 2 40 i z := by
  have hf : (Tryz.prog.info? 65).map (fun i => (i.zero, i.size, i.bytes)) = some (some (.agg #[.string ⟨#[]⟩, .slice none 0 0]), 2, 40) := by kernel_rfl
  obtain ⟨i, hi, hz, hs, hb⟩ := info_parts hf
  exact ⟨i, _, Tryz.underlying37, hi, hz, hs, hb, rfl⟩
def ParsedAs (W : World) (R : Sc × Dg) (e : Ending) (w' : World) : Prop := ∃ A c, e = .returned (.tuple #[.agg #[.slice A R.1.length c], .agg #[.int .i64 (R.2.1 : Int), .int .i64 (R.2.2.1 : Int), .int .i64 (R.2.2.2 : Int)]]) ∧
  ScAt w' (fun b => b < W.heap.size) A R.1 ∧ (R.1.length ≤ 5000 ∧ R.1.length ≤ c) ∧ Below W.heap.size W w'
end Go.Proofs.YtehabjiacgibpaaGreat
namespace Go.Proofs.YtehabjiacgibpaaGreat
open Go.RowKit
def EAsk {α : Type} (n f : Nat) (Sh : List Value → Prop) (p : α → Bool) (W : World) (A : Option Addr) (l : List α) : Prop :=
  ∀ j (hj : j < l.length), ∃ b off cs, A = some ⟨b, off, none⟩ ∧ Sh cs ∧ (∀ W', Below W.heap.size W W' → ∀ i, i < n → W'.cell? ⟨b, off + j * n + i, none⟩ = cs[i]?) ∧
    ∀ W', Below W.heap.size W W' → Calls Tryz.prog f #[.agg cs.toArray] W' fun e w' => e = .returned (.bool (p l[j])) ∧ Below W'.heap.size W' w'
theorem EAsk.mono {α : Type} {n f : Nat} {Sh : List Value → Prop} {p : α → Bool} {W W1 : World} {A : Option Addr} {l : List α} (h : EAsk n f Sh p W A l) (hb : Below W.heap.size W W1) : EAsk n f Sh p W1 A l := by
  intro j hj
  obtain ⟨b, off, cs, h1, h2, h3, h4⟩ := h j hj
  exact ⟨b, off, cs, h1, h2, fun W' hW => h3 W' (hb.trans (hW.mono hb.size)), fun W' hW => h4 W' (hb.trans (hW.mono hb.size))⟩
def ShRef (cs : List Value) : Prop := ∃ (s0 s1 : Txt), cs = [strV s0, strV s1]
def ShRel (cs : List Value) : Prop := ∃ (s0 : Txt) (A1 : Option Addr) (n1 c1 : Nat) (k : Int) (s2 s3 : Txt) (A2 : Option Addr) (n2 c2 : Nat), cs = [strV s0, .slice A1 n1 c1, .int .i64 k, strV s2, strV s3, .slice A2 n2 c2]
def ShType (cs : List Value) : Prop := ∃ (s0 : Txt) (A1 : Option Addr) (n1 c1 : Nat), cs = [strV s0, .slice A1 n1 c1]
end Go.Proofs.YtehabjiacgibpaaGreat
namespace Go.Proofs.YtehabjiacgibpaaGreat
open Go.RowKit
end Go.Proofs.YtehabjiacgibpaaGreat
namespace Go.Proofs.YtehabjiacgibpaaGreat
open Go.RowKit
theorem RfAt.sh {W : World} {F : Nat → Prop} (x : Rf) (cs : List Value) (h : RfAt W F x cs) : ShRef cs := ⟨_, _, h.1⟩
theorem RlAt.sh {W : World} {F : Nat → Prop} (x : Rl) (cs : List Value) (h : RlAt W F x cs) : ShRel cs := by
  obtain ⟨A, c, k, n, o, E, m, d, rfl, _⟩ := h.six
  exact ⟨_, _, _, _, _, _, _, _, _, _, rfl⟩
theorem TyAt.sh {W : World} {F : Nat → Prop} (x : Ty) (cs : List Value) (h : TyAt W F x cs) : ShType cs := by
  obtain ⟨A, c, rfl, _⟩ := h
  exact ⟨_, _, _, _, rfl⟩
end Go.Proofs.YtehabjiacgibpaaGreat
namespace Go.Proofs.YtehabjiacgibpaaGreat
open Go.RowKit
end Go.Proofs.YtehabjiacgibpaaGreat
namespace Go.Proofs.YtehabjiacgibpaaGreat
open Go.RowKit
def EAskC {α : Type} (n g : Nat) (mk : Value → Array Value) (Sh : List Value → Prop) (p : α → Bool) (W : World) (A : Option Addr) (l : List α) : Prop :=
  ∀ j (hj : j < l.length), ∃ b off cs, A = some ⟨b, off, none⟩ ∧ Sh cs ∧ (∀ W', Below W.heap.size W W' → ∀ i, i < n → W'.cell? ⟨b, off + j * n + i, none⟩ = cs[i]?) ∧
    ∀ W', Below W.heap.size W W' → Calls Tryz.prog g (mk (.agg cs.toArray)) W' fun e w' => e = .returned (.bool (p l[j])) ∧ Below W'.heap.size W' w'
theorem RowAt.asksC {α : Type} {n g : Nat} {mk : Value → Array Value} {R : World → (Nat → Prop) → α → List Value → Prop} {Sh : List Value → Prop} {p : α → Bool} {W : World} {F : Nat → Prop} {A : Option Addr} {l : List α} (h : RowAt n R W F A l)
    (hS : ∀ x cs, R W F x cs → Sh cs) (hf : ∀ x ∈ l, ∀ cs, R W F x cs → ∀ W', Below W.heap.size W W' → Calls Tryz.prog g (mk (.agg cs.toArray)) W' fun e w' => e = .returned (.bool (p x)) ∧ Below W'.heap.size W' w') : EAskC n g mk Sh p W A l := by
  intro j hj
  rcases h with rfl | ⟨b, off, rfl, hb, _, hk⟩
  · simp at hj
  · obtain ⟨cs, h1, h2⟩ := hk j hj
    exact ⟨b, off, cs, rfl, hS _ _ h1, fun W' hW i hi => (hW.cell (p := ⟨b, off + j * n + i, none⟩) hb).trans (h2 i hi), hf _ (List.getElem_mem hj) cs h1⟩
set_option maxHeartbeats 1000000 in
theorem indexC_Type1 {α : Type} {g : Nat} (eg : ∀ args w, (callFunc g args).run Tryz.prog w = .ok (.enter g args) w) {p : α → Bool} {W : World} {A : Option Addr} {l : List α} (c : Nat) {p1 : Value} (h : EAskC 2 g (fun v => #[v, p1]) ShType p W A l) (hl : l.length ≤ 9223372036854775807) :
    Calls Tryz.prog 58 #[.slice A l.length c, .func (.func g) #[] #[p1]] W fun e w' => e = .returned (.int .i64 (atN p l 0)) ∧ Below W.heap.size W w' := by
  obtain ⟨v, hv⟩ : ∃ v, v = atN p l 0 := ⟨_, rfl⟩
  rw [← hv]
  have HV := Lib.hid hv
  have HR := Lib.hid h
  clear h hv
  go_enter Tryz.func58, Tryz.ntmps58
  go_wp2_with fail
  go_loopw [8] (fun x wr => ∃ j : Nat, j ≤ l.length ∧ x = .int .i64 j ∧ Hid (v = atN p (l.drop j) j) ∧ Hid (Below W.heap.size W wr)) (fun x _ => l.length - (intOf x).toNat)
  case atStart => exact ⟨0, by omega, rfl, Lib.hid (by rw [HV.out]; rfl), Lib.hid (Below.refl _ _)⟩
  case round =>
    obtain ⟨j, hj, rfl, H, BW⟩ := hrel
    by_cases hlt : j < l.length
    · have HD := Lib.hid (atN_drop (p := p) hlt)
      obtain ⟨b, off, cs, rfl, ⟨s0, A1, n1, c1, rfl⟩, hc, hf⟩ := HR.out j hlt
      have hc' := hc wr BW.out
      have z0 : wr.cell? ⟨b, off + j * 2, none⟩ = some (strV s0) := hc' 0 (by decide)
      have z1 : wr.cell? ⟨b, off + j * 2 + 1, none⟩ = some (.slice A1 n1 c1) := hc' 1 (by decide)
      have HC := Lib.hid (hf wr BW.out)
      have HC : Hid (Calls Tryz.prog g #[.agg #[strV s0, .slice A1 n1 c1], p1] wr fun e w' => e = .returned (.bool (p l[j])) ∧ Below wr.heap.size wr w') := HC
      obtain ⟨q, hq⟩ : ∃ q, p l[j] = q := ⟨_, rfl⟩
      rw [hq] at HC HD
      clear hc hc' hf hq
      cases q
      · have HN : Hid (v = atN p (l.drop (j + 1)) (j + 1)) := Lib.hid (by rw [H.out, HD.out]; rfl)
        go_wp2_with (go_at_fn g; refine HC.out.mono ?_; rintro e w2 ⟨rfl, hb2⟩)
        go_roundw
        case rel => exact ⟨j + 1, by omega, by go_num, HN, Lib.hid (hop BW.out hb2)⟩
        case measure => simp [intOf]; omega
      · have HN : Hid (v = (j : Int)) := Lib.hid (by rw [H.out, HD.out]; rfl)
        go_wp2_with (go_at_fn g; refine HC.out.mono ?_; rintro e w2 ⟨rfl, hb2⟩)
        go_ret
        exact ⟨by rw [HN.out]; rfl, hop BW.out hb2⟩
    · have HN : Hid (v = -1) := Lib.hid (by rw [H.out, List.drop_of_length_le (by omega)]; rfl)
      go_wp2_with fail
      go_ret
      exact ⟨by rw [HN.out]; rfl, BW.out⟩
set_option maxHeartbeats 1000000 in
theorem indexC_Rel1 {α : Type} {g : Nat} (eg : ∀ args w, (callFunc g args).run Tryz.prog w = .ok (.enter g args) w) {p : α → Bool} {W : World} {A : Option Addr} {l : List α} (c : Nat) {p1 : Value} (h : EAskC 6 g (fun v => #[v, p1]) ShRel p W A l) (hl : l.length ≤ 9223372036854775807) :
    Calls Tryz.prog 93 #[.slice A l.length c, .func (.func g) #[] #[p1]] W fun e w' => e = .returned (.int .i64 (atN p l 0)) ∧ Below W.heap.size W w' := by
  obtain ⟨v, hv⟩ : ∃ v, v = atN p l 0 := ⟨_, rfl⟩
  rw [← hv]
  have HV := Lib.hid hv
  have HR := Lib.hid h
  clear h hv
  go_enter Tryz.func93, Tryz.ntmps93
  go_wp2_with fail
  go_loopw [8] (fun x wr => ∃ j : Nat, j ≤ l.length ∧ x = .int .i64 j ∧ Hid (v = atN p (l.drop j) j) ∧ Hid (Below W.heap.size W wr)) (fun x _ => l.length - (intOf x).toNat)
  case atStart => exact ⟨0, by omega, rfl, Lib.hid (by rw [HV.out]; rfl), Lib.hid (Below.refl _ _)⟩
  case round =>
    obtain ⟨j, hj, rfl, H, BW⟩ := hrel
    by_cases hlt : j < l.length
    · have HD := Lib.hid (atN_drop (p := p) hlt)
      obtain ⟨b, off, cs, rfl, ⟨s0, A1, n1, c1, k, s2, s3, A2, n2, c2, rfl⟩, hc, hf⟩ := HR.out j hlt
      have hc' := hc wr BW.out
      have z0 : wr.cell? ⟨b, off + j * 6, none⟩ = some (strV s0) := hc' 0 (by decide)
      have z1 : wr.cell? ⟨b, off + j * 6 + 1, none⟩ = some (.slice A1 n1 c1) := hc' 1 (by decide)
      have z2 : wr.cell? ⟨b, off + j * 6 + 2, none⟩ = some (.int .i64 k) := hc' 2 (by decide)
      have z3 : wr.cell? ⟨b, off + j * 6 + 3, none⟩ = some (strV s2) := hc' 3 (by decide)
      have z4 : wr.cell? ⟨b, off + j * 6 + 4, none⟩ = some (strV s3) := hc' 4 (by decide)
      have z5 : wr.cell? ⟨b, off + j * 6 + 5, none⟩ = some (.slice A2 n2 c2) := hc' 5 (by decide)
      have HC := Lib.hid (hf wr BW.out)
      have HC : Hid (Calls Tryz.prog g #[.agg #[strV s0, .slice A1 n1 c1, .int .i64 k, strV s2, strV s3, .slice A2 n2 c2], p1] wr fun e w' => e = .returned (.bool (p l[j])) ∧ Below wr.heap.size wr w') := HC
      obtain ⟨q, hq⟩ : ∃ q, p l[j] = q := ⟨_, rfl⟩
      rw [hq] at HC HD
      clear hc hc' hf hq
      cases q
      · have HN : Hid (v = atN p (l.drop (j + 1)) (j + 1)) := Lib.hid (by rw [H.out, HD.out]; rfl)
        go_wp2_with (go_at_fn g; refine HC.out.mono ?_; rintro e w2 ⟨rfl, hb2⟩)
        go_roundw
        case rel => exact ⟨j + 1, by omega, by go_num, HN, Lib.hid (hop BW.out hb2)⟩
        case measure => simp [intOf]; omega
      · have HN : Hid (v = (j : Int)) := Lib.hid (by rw [H.out, HD.out]; rfl)
        go_wp2_with (go_at_fn g; refine HC.out.mono ?_; rintro e w2 ⟨rfl, hb2⟩)
        go_ret
        exact ⟨by rw [HN.out]; rfl, hop BW.out hb2⟩
    · have HN : Hid (v = -1) := Lib.hid (by rw [H.out, List.drop_of_length_le (by omega)]; rfl)
      go_wp2_with fail
      go_ret
      exact ⟨by rw [HN.out]; rfl, BW.out⟩
end Go.Proofs.YtehabjiacgibpaaGreat
namespace Go.Proofs.YtehabjiacgibpaaGreat
open Go.RowKit
theorem RowAt.take {α : Type} {n : Nat} {R : World → (Nat → Prop) → α → List Value → Prop} {W : World} {F : Nat → Prop} {A : Option Addr} {l : List α} (h : RowAt n R W F A l) (i : Nat) : RowAt n R W F A (l.take i) := by
  rcases h with rfl | ⟨b, off, rfl, hb, hF, hk⟩
  · exact .inl (by simp)
  · refine .inr ⟨b, off, rfl, hb, hF, fun j hj => ?_⟩
    have hj' : j < l.length := by rw [List.length_take] at hj; omega
    obtain ⟨cs, h1, h2⟩ := hk j hj'
    exact ⟨cs, by rw [List.getElem_take]; exact h1, h2⟩
theorem TyAt.sh2 {W : World} {F : Nat → Prop} (x : Ty) (cs : List Value) (h : TyAt W F x cs) : ShType cs := TyAt.sh x cs h
theorem RlAt.shC {W : World} {F : Nat → Prop} (x : Rl) (cs : List Value) (h : RlAt W F x cs) : ShRel cs := by
  obtain ⟨a, A1, n1, c1, k, n, o, A2, n2, c2, rfl⟩ := h.shape
  exact ⟨a, A1, n1, c1, k, n, o, A2, n2, c2, rfl⟩
end Go.Proofs.YtehabjiacgibpaaGreat
namespace Go.Proofs.YtehabjiacgibpaaGreat
open Go.RowKit
theorem noRel_at (W : World) (F : Nat → Prop) : RlAt W F noRel [.string ⟨#[]⟩, .slice none 0 0, .int .i64 0, .string ⟨#[]⟩, .string ⟨#[]⟩, .slice none 0 0] :=
  ⟨none, 0, _, rfl, ⟨Nat.zero_le _, Nat.zero_le _⟩, .inl rfl, ExAt.of_row (k := 0) (n := []) (o := []) (ks := []) (A := none) (c := 0) ⟨⟨by decide, by decide⟩, Nat.zero_le _, Nat.zero_le _, Nat.zero_le _⟩ (.inl rfl)⟩
end Go.Proofs.YtehabjiacgibpaaGreat
