/-
  A row of slices of bytes of the call's own, to which such slices are appended. No program is named here.
-/
import Derived.Test.YtkbjhnlihnakkaaGather
namespace Go.Proofs.Ytkbjhnlihnakkaa
open Go.RowKit

/-- v holds the pieces, in a row of its own, made behind w0 -/
def MadeAll (f : TypeId) (w0 : World) (ps : List Piece) (v : Value) (w : World) : Prop :=
  w.ownsRow w0.heap.size f 1 v ps.length (ps.map pv) ∧ Below w0.heap.size w0 w
/-- each piece is there -/
def EachSeen (w : World) (ps : List Piece) : Prop := ∀ q ∈ ps, Seen w q.1 q.2.1 ∧ q.2.1.length ≤ q.2.2 ∧ q.2.1.length ≤ 9223372036854775807
theorem SeenAll.each {w : World} {A : Option Addr} {ps : List Piece} (h : SeenAll w A ps) : EachSeen w ps := by
  intro q hq
  obtain ⟨j, hj, rfl⟩ := List.getElem_of_mem hq
  obtain ⟨_, _, _, _, _, h1, h2, h3⟩ := h.at_ j hj
  exact ⟨h1, h2, h3⟩
theorem EachSeen.append {w : World} {ps qs : List Piece} (h : EachSeen w ps) (k : EachSeen w qs) : EachSeen w (ps ++ qs) := by
  intro q hq
  rcases List.mem_append.1 hq with hq | hq
  · exact h q hq
  · exact k q hq
theorem EachSeen.below {w w' : World} {ps : List Piece} (h : EachSeen w ps) (hb : Below w.heap.size w w') : EachSeen w' ps :=
  fun q hq => ⟨(h q hq).1.below hb, (h q hq).2⟩
theorem MadeAll.nil (f : TypeId) (w : World) : MadeAll f w [] (.slice none 0 0) w := ⟨World.ownsRow_nil _ _ _ _, Below.refl _ _⟩
theorem MadeAll.shown {f : TypeId} {w0 w : World} {ps : List Piece} {v : Value} (h : MadeAll f w0 ps v w) (hp : EachSeen w ps) : ∃ A c, v = .slice A ps.length c ∧ SeenAll w A ps ∧ ps.length ≤ c := by
  rcases h.1.2 with ⟨rfl, h0⟩ | ⟨g, cap, cur, rfl, hb, hg, hnc, _⟩
  · exact ⟨none, 0, by rw [h0], .inl (List.eq_nil_of_length_eq_zero h0), by omega⟩
  · refine ⟨_, _, rfl, .inr ⟨g, 0, rfl, (h.1.lt g rfl).2, fun j hj => ?_⟩, hnc⟩
    obtain ⟨h1, h2, h3⟩ := hp ps[j] (List.getElem_mem hj)
    have hcell := h.1.cells (g := g) rfl j (pv ps[j]) (by rw [List.getElem?_map, List.getElem?_eq_getElem hj]; rfl)
    rw [add_plain] at hcell
    exact ⟨hcell, h1, h2, h3⟩

/-- 'append(v, qs...)' -/
theorem wpList_append_all {P : Program} (w : World) {ops : Array Oper} {rest : List Oper} {o : Oper} {ac : Act} {Q : Exit → Act → World → Prop} (hgd : o.guard = none) (s x : Operand) (t : TypeId)
    (ho : o.op = .call { callee := .builtin .append, args := #[s, x], argTypes := #[t, t] })
    (f : TypeId) (i : TypeInfo) (z : Value) (ht : P.underlying t = some (.slice f)) (hi : P.info? f = some i) (hz : i.zero = some z)
    (hsize : i.size = 1) (hby : i.bytes = 24) (hzs : z.cells.size = 1)
    (w0 : World) (ps : List Piece) (v : Value) (A : Option Addr) (qs : List Piece) (n c : Nat) (hs : ac.eval s = v) (hx : ac.eval x = .slice A n c) (hn : qs.length = n)
    (H : MadeAll f w0 ps v w) (hq : SeenAll w A qs) (hb : ps.length + n ≤ 5864062014805)
    (h : ∀ v' w', MadeAll f w0 (ps ++ qs) v' w' → wpList P ops Q rest (ac.put o.dst v') w') :
    wpList P ops Q (o :: rest) ac w := by
  subst hn
  have hB := H.2.size
  rcases A with _ | ad
  · obtain rfl : qs = [] := by
      rcases hq with h0 | ⟨_, _, h0, _⟩
      · exact h0
      · cases h0
    refine wpList_plain hgd fun K hK => ?_
    have hrun := run_append_nought (P := P) w w0.heap.size t o.type f i 1 ht hi v ps.length (ps.map pv) H.1 c
    unfold Oper.wp execOp
    simp only [ho, resolve, invoke, builtin, Sem.run_bind, Sem.run_pure, Result.andThen_ok, List.map_toArray, List.map_cons, List.map_nil, hs, hx, List.length_nil, hrun]
    exact hK _ _ (h v w (by simpa using H))
  · refine wpList_append_own_at w hgd s x t ho w0.heap.size f i z 1 24 ht hi hz hsize hby hzs (by decide) v ps.length (ps.map pv) hs H.1 ad qs.length c (qs.map pv) hx (by simp) ?_ ?_ (by unfold maxLen; omega) (by omega) hB ?_
    · intro j u hu
      obtain ⟨hj, hju⟩ := List.getElem?_eq_some_iff.1 hu
      rw [List.length_map] at hj
      obtain ⟨b, off, ha, _, hc, _⟩ := hq.at_ j hj
      injection ha with ha
      subst ha
      rw [add_plain, hc, ← hju, List.getElem_map]
      rfl
    · intro u hu
      obtain ⟨q, _, rfl⟩ := List.mem_map.1 hu
      rfl
    · intro v' w' hown hg _ _
      refine h v' w' ⟨?_, below_grown H.2 hB H.1 hg⟩
      rw [List.length_append, List.map_append]
      exact hown
end Go.Proofs.Ytkbjhnlihnakkaa
