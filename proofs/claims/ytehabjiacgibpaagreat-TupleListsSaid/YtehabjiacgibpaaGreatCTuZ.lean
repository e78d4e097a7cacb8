/-
  The calls of layer 13's lists, the lengths under names. Conditions: the rows are there; at most 100,000 tuples.
-/
import Derived.Test.YtehabjiacgibpaaGreatCTuI
import Derived.Test.YtehabjiacgibpaaGreatCTuN
import Derived.Test.YtehabjiacgibpaaGreatCMpT
import Derived.Test.YtehabjiacgibpaaGreatCTuQ
namespace Go.Proofs.YtehabjiacgibpaaGreat
open Go.RowKit
theorem ins_len (l : List Tup) (t : Tup) : (Ord.ins lessT l t).length ≤ l.length + 1 := by
  unfold Ord.ins
  split
  · omega
  · simp only [List.length_append, List.length_cons, List.length_take, List.length_drop]
    omega
theorem insAll_len : ∀ (more l : List Tup), (Ord.insAll lessT l more).length ≤ l.length + more.length
  | [], l => Nat.le_refl _
  | t :: more, l => by
    have h1 := insAll_len more (Ord.ins lessT l t)
    have h2 := ins_len l t
    unfold Ord.insAll at h1 ⊢
    rw [List.foldl_cons, List.length_cons]
    omega
theorem rem_len (l gone : List Tup) : (Ord.rem l gone).length ≤ l.length := by
  unfold Ord.rem
  exact List.length_filter_le _ _
theorem srt_nil : Ord.Srt lessT ([] : List Tup) := List.Pairwise.nil
section
variable {w : World} {A B : Option Addr} {n m c d : Nat} {r s : List Tup}
theorem insert_n (ho : Ord.Srt lessT r) (hn : n = r.length) (hm : m = s.length) (h : TuR w A r) (h' : TuR w B s) (hl : r.length ≤ 100000) (hg : s.length ≤ 100000) :
    Calls Tryz.prog 9 #[.slice A n c, .slice B m d] w (TupsP w (Ord.insAll lessT r s)) := by
  subst hn hm; exact insert_srt r s A B c d w h h' hl hg ho
theorem refInsert_n (hn : n = r.length) (hm : m = s.length) (h : TuR w A r) (h' : TuR w B s) (hl : r.length ≤ 100000) (hg : s.length ≤ 100000) :
    Calls Tryz.prog 7 #[.slice A n c, .slice B m d] w (TupsP w (Ord.insAll lessT r s)) := by
  subst hn hm; exact refInsert_any r s A B c d w h h' hl hg
theorem remove_n (hn : n = r.length) (hm : m = s.length) (h : TuR w A r) (h' : TuR w B s) (hl : r.length ≤ 100000) (hg : s.length ≤ 100000) :
    Calls Tryz.prog 10 #[.slice A n c, .slice B m d] w (TupsP w (Ord.rem r s)) := by
  subst hn hm; exact remove_any r s A B c d w h h' (by omega) (by omega)
theorem refRemove_n (hn : n = r.length) (hm : m = s.length) (h : TuR w A r) (h' : TuR w B s) (hl : r.length ≤ 100000) (hg : s.length ≤ 100000) :
    Calls Tryz.prog 11 #[.slice A n c, .slice B m d] w (TupsP w (Ord.rem r s)) := by
  subst hn hm; exact refRemove_any r s A B c d w h h' (by omega) (by omega)
theorem of_n (o1 o2 rel : Txt) (hn : n = r.length) (h : TuR w A r) (hl : r.length ≤ 100000) :
    Calls Tryz.prog 12 #[.slice A n c, .agg #[strV o1, strV o2], strV rel] w (TupsP w (r.filter (ofB o1 o2 rel))) := by
  subst hn; exact of_any r o1 o2 rel A c w h (by omega)
theorem refOf_n (o1 o2 rel : Txt) (hn : n = r.length) (h : TuR w A r) (hl : r.length ≤ 100000) :
    Calls Tryz.prog 13 #[.slice A n c, .agg #[strV o1, strV o2], strV rel] w (TupsP w (r.filter (ofB o1 o2 rel))) := by
  subst hn; exact refOf_any r o1 o2 rel A c w h (by omega)
theorem lists_n (hn : n = r.length) (hm : m = r.length) (h : TuR w A r) (h' : TuR w B r) (hl : r.length ≤ 1000000) :
    Calls Tryz.prog 8 #[.slice A n c, .slice B m d] w fun e w' => e = .returned (.bool true) ∧ Below w.heap.size w w' := by
  subst hn hm; exact lists_same r A B c d w h h' (by omega)
theorem in_n (ho : Ord.Srt lessT r) (hn : n = r.length) (h : TuR w A r) (hl : r.length ≤ 1000000) :
    Calls Tryz.prog 14 #[.slice A n c] w fun e w' => e = .returned (.bool true) ∧ Below w.heap.size w w' := by
  subst hn; exact in_any r A c w h hl ho
theorem has_n {q0 q1 q2 q3 q4 q5 : Txt} {v : Bool} (hn : n = r.length) (hv : decide ((q0, q1, q2, q3, q4, q5) ∈ r) = v) (h : TuR w A r) (hl : r.length ≤ 1000000) :
    Calls Tryz.prog 15 #[.slice A n c, .agg #[strV q0, strV q1, strV q2, strV q3, strV q4, strV q5]] w fun e w' => e = .returned (.bool v) ∧ Below w.heap.size w w' := by
  subst hn; exact has_tup r _ rfl A c w h (by omega) hv
end
end Go.Proofs.YtehabjiacgibpaaGreat
