/-
  Few parts are few of each kind. No program is named.
  RulesTexts, walked. Conditions: the argument is there.
  From a walk to a row: what every law of this seat shares. A law answers true and leaves what was there as it was; its arguments are numbers, bytes and texts. No conditions of its own.
-/
import Derived.Test.YtdnhbledndgbcaaCPaSz0
import Derived.Test.YtdnhbledndgbcaaCRkRd
import Derived.Test.YtdnhbledndgbcaaCNmRefN
import Derived.ProofKit
import Derived.OpenShut
import Derived.Carry
import Derived.SizedLaws
namespace Go.Proofs.Ytdnhbledndgbcaa
open Go.RowKit
theorem wRs_mem : ∀ {l : List Rl} {x : Rl}, x ∈ l → wR x ≤ wRs l
  | [], _, h => by cases h
  | y :: r, x, h => by
    rcases List.mem_cons.1 h with rfl | h
    · unfold wRs; omega
    · have := wRs_mem h
      unfold wRs; omega
theorem wRs_len : ∀ l : List Rl, l.length ≤ wRs l
  | [] => Nat.zero_le _
  | y :: r => by
    have := wRs_len r
    have h2 := nodes_pos y.expr
    unfold wRs wR
    rw [List.length_cons]; omega
theorem wTs_mem : ∀ {s : Sc} {t : Ty}, t ∈ s → wRs t.rels ≤ wTs s
  | [], _, h => by cases h
  | y :: r, x, h => by
    rcases List.mem_cons.1 h with rfl | h
    · unfold wTs; omega
    · have := wTs_mem h
      unfold wTs; omega
theorem wTs_len : ∀ s : Sc, s.length ≤ wTs s
  | [] => Nat.zero_le _
  | y :: r => by
    have := wTs_len r
    unfold wTs
    rw [List.length_cons]; omega
theorem kids_nodes : ∀ ks : List Ex, ks.length ≤ nodesL ks
  | [] => Nat.zero_le _
  | x :: r => by
    have := kids_nodes r
    have h2 := nodes_pos x
    unfold nodesL
    rw [List.length_cons]; omega
theorem refs_few {s : Sc} {t : Ty} {r : Rl} (ht : t ∈ s) (hr : r ∈ t.rels) : r.refs.length + nodes r.expr ≤ wTs s := by
  have h1 := wRs_mem hr
  have h2 := wTs_mem ht
  unfold wR at h1
  omega
theorem relAt_few (s : Sc) (t k : Int) : (relAt s t k).refs.length ≤ wTs s := by
  unfold relAt
  cases h : (ofT s t)[k.toNat]? with
  | none => exact Nat.zero_le _
  | some r =>
    have h1 : r ∈ ofT s t := List.mem_of_getElem? h
    unfold ofT at h1
    split at h1
    · cases h1
    · cases h2 : s[t.toNat]? with
      | none => rw [h2] at h1; cases h1
      | some ty =>
        rw [h2] at h1
        have := refs_few (List.mem_of_getElem? h2) h1
        show r.refs.length ≤ _
        omega
theorem filterMap_len {α β : Type} (f : α → Option β) : ∀ l : List α, (l.filterMap f).length ≤ l.length
  | [] => Nat.zero_le _
  | x :: r => by
    have := filterMap_len f r
    rw [List.filterMap_cons]
    cases f x with
    | none => dsimp only; rw [List.length_cons]; omega
    | some y => dsimp only; rw [List.length_cons, List.length_cons]; omega
theorem leafLn_len (s : Sc) (t : Nat) (k : Int) (n o : Txt) (out : Bool) : (leafLn s t k n o out).length ≤ 1 + wTs s := by
  unfold leafLn
  rw [List.length_cons]
  split
  · have h1 := filterMap_len (fun (r : Rf) => if r.2 = [] ∧ 0 ≤ relN s (typN s r.1) o then some (((typN s r.1).toNat, (relN s (typN s r.1) o).toNat), out) else none) (relAt s t (relN s t n)).refs
    have h2 := relAt_few s t (relN s t n)
    omega
  · simp
theorem leansE_len (s : Sc) (t : Nat) : ∀ (e : Ex) (out : Bool), (leansE s t e out).length ≤ nodes e * (1 + wTs s) := by
  intro e
  refine Ex.all (P := fun e => ∀ out : Bool, (leansE s t e out).length ≤ nodes e * (1 + wTs s)) (fun k n o ks ih out => ?_) e
  have hL : ∀ (l : List Ex), (∀ x ∈ l, x ∈ ks) → ∀ (i : Nat), (leansL s t k l i out).length ≤ nodesL l * (1 + wTs s) := by
    intro l
    induction l with
    | nil => intro _ i; unfold leansL nodesL; simp
    | cons x r ihr =>
      intro hs i
      have h1 := ih x (hs x (List.mem_cons_self ..)) (out || (decide (k = 4) && decide (i = 1)))
      have h2 := ihr (fun y hy => hs y (List.mem_cons_of_mem _ hy)) (i + 1)
      unfold leansL nodesL
      rw [List.length_append, Nat.add_mul]
      omega
  unfold leansE nodes
  rw [Nat.succ_mul]
  split
  · have := hL ks (fun _ h => h) 0
    omega
  · have := leafLn_len s t k n o out
    omega
theorem allN_len {s : Sc} {i k : Nat} (hi : i < s.length) (hk : k < s[i].rels.length) : (allN s i s[i].rels[k]).length ≤ wTs s * (1 + wTs s) := by
  have h1 := refs_few (List.getElem_mem hi) (List.getElem_mem hk)
  have h3 : wTs s ≤ wTs s * (1 + wTs s) := by rw [Nat.mul_add, Nat.mul_one]; exact Nat.le_add_right _ _
  unfold allN
  split
  · have h2 := leansE_len s i s[i].rels[k].expr false
    have h4 : nodes s[i].rels[k].expr * (1 + wTs s) ≤ wTs s * (1 + wTs s) := Nat.mul_le_mul_right _ (by omega)
    omega
  · have h2 := filterMap_len (fun (r : Rf) => if r.2 ≠ [] then some (((typN s r.1).toNat, (relN s (typN s r.1) r.2).toNat), false) else none) s[i].rels[k].refs
    omega
theorem few_ln {s : Sc} (h : wTs s ≤ 700) : FewLn s := fun i hi k hk => by
  have h1 := allN_len hi hk
  have h2 : wTs s * (1 + wTs s) ≤ 700 * 701 := Nat.mul_le_mul h (by omega)
  omega
theorem few_refs {s : Sc} (h : wTs s ≤ 700) : ∀ t ∈ s, ∀ r ∈ t.rels, r.refs.length ≤ 1000000 := fun t ht r hr => by
  have := refs_few ht hr
  omega
theorem few_80 {s : Sc} (h : fewS s 80 = true) : wTs s ≤ 700 := by
  have := few_parts h
  omega
end Go.Proofs.Ytdnhbledndgbcaa
namespace Go.Proofs.Ytdnhbledndgbcaa
open Go.RowKit
set_option maxRecDepth 100000 in
set_option maxHeartbeats 4000000 in
theorem rulesTexts_walk (s : ByteArray) (W : World) (hm : s.size ≤ 140737488351232) :
    Calls Try.prog 3 #[.string s] W fun e w' => e = .returned (.bool true) ∧ Below W.heap.size W w' := by
  have HA := Lib.hid (awake_any W)
  by_cases hlen : 600 < s.size
  · have hl1 : (600 : Int) < (s.size : Int) := by omega
    go_enter Try.func3, Try.ntmps3
    go_wp2_with fail
    refine HA.out.mono ?_
    rintro e w1 ⟨rfl, hb1⟩
    go_wp2_with fail
    go_ret
    exact ⟨rfl, hb1⟩
  have hl1 : ¬ ((600 : Int) < (s.size : Int)) := by omega
  have HR := Lib.hid (fun w => read_any s w (by omega))
  have HP : Hid (wTs (parseT s.data.toList).1 ≤ 700) := Lib.hid (by
    have h1 := parse_len s.data.toList
    have h2 : s.data.toList.length = s.size := rfl
    omega)
  go_enter Try.func3, Try.ntmps3
  go_wp2_with fail
  refine HA.out.mono ?_
  rintro e w1 ⟨rfl, hb1⟩
  have HB1 := Lib.hid hb1
  clear hb1
  go_wp2_with fail
  refine (HR.out w1).mono ?_
  generalize (parseT s.data.toList).1 = sc at *
  rintro e w2 ⟨A, c, rfl, hs2, ⟨hc1, hc2⟩, hb2⟩
  obtain ⟨w3, hw3⟩ : ∃ w3, w3 = w2.alloc (.cells #[.slice A sc.length c] 25) := ⟨_, rfl⟩
  have hb3 : Below w2.heap.size w2 w3 := by rw [hw3]; exact (Below.refl _ _).alloc (Nat.le_refl _) _
  have hk3 : Blk w3 w2.heap.size [.slice A sc.length c] 25 := by rw [hw3]; exact Blk.new _ _ _
  have HB3 : Hid (Below W.heap.size W w3) := Lib.hid ((HB1.out.trans (hb2.mono HB1.out.size)).trans (hb3.mono (by have := HB1.out.size; have := hb2.size; omega)))
  have hs3 := hs2.below hb3
  have HCP : Hid (∀ w, Below w3.heap.size w3 w → Calls Try.prog 9 #[.agg #[.slice A sc.length c]] w fun r w' => r = .returned (faV (docC sc)) ∧ Below w.heap.size w w') := Lib.hid (fun w hw => (check_any sc _ A c (by omega) hc2 (few_refs HP.out) w (hs3.below hw)).mono (fun r w' h => by
    obtain ⟨z, rfl, hb, hx⟩ := h
    exact ⟨by rw [hx.doc.1], hb⟩))
  have HCD : Hid (∀ w, Below w3.heap.size w3 w → Calls Try.prog 10 #[.agg #[.slice A sc.length c]] w fun r w' => r = .returned (faV (docC sc)) ∧ Below w.heap.size w w') := Lib.hid (fun w hw => rcheck_any sc A c (by omega) (few_ln HP.out) _ w (hs3.below hw))
  generalize docC sc = z at *
  obtain ⟨z1, z2, z3⟩ := z
  have hN : ∀ w, Below w3.heap.size w3 w → (Below w3.heap.size w3 w ∧ w.cell? ⟨w2.heap.size, 0, none⟩ = some (.slice A sc.length c)) := fun w hw => ⟨hw, (hk3.below hw hk3.lt).cell (i := 0) (by simp)⟩
  have hS0 := hN w3.drew (Below.refl _ _).drew
  have HN := Lib.hid hN
  have HW3 := Lib.hid hw3
  clear hN hb2 hb3 hk3 hs2 hs3 hw3 hc1 hc2
  go_wp2_with fail
  rw [← HW3.out]
  go_region_held_law (fun w => (Below w3.heap.size w3 w ∧ w.cell? ⟨w2.heap.size, 0, none⟩ = some (.slice A sc.length c)))
    (with_reducible assumption)
    (first
      | (go_at_call 9; (with_reducible refine (HCP.out _ (Below.refl w3.heap.size w3).drew).mono ?_); rintro r w6 ⟨rfl, hb6⟩; have HB6 := Lib.hid (hop (Below.refl w3.heap.size w3).drew hb6); have hS6 := HN.out w6 HB6.out; clear hb6)
      | (go_at_call 10; (with_reducible refine (HCD.out _ HB6.out).mono ?_); rintro r w7 ⟨rfl, hb7⟩; have HB7 := Lib.hid (hop HB6.out hb7); have hS7 := HN.out w7 HB7.out; clear hb7))
  go_wp2_with fail
  go_ret
  exact ⟨rfl, HB3.out.trans (HB7.out.mono HB3.out.size)⟩
end Go.Proofs.Ytdnhbledndgbcaa
namespace Go.Proofs.Ytdnhbledndgbcaa
open Go.ChangeShapes Go.WideShapes Go.ChangeAt Go.RowKit
section
variable {H : Type} {enc : TypeId × Value → H} {P : Program}
theorem trodAll_stays (hl : laidOutB P = true) {W W' : World} (hb : Below W.heap.size W W') :
    ∀ {ts : List TypeId} {vs : List Value} {ds : List (DataW H)} {ps : List MemPlace}, (∀ t ∈ ts, P.readableRec t = true ∧ t < P.types.size) → (∀ x ∈ ps, x.block < W.heap.size) →
      DataW.TrodAll enc P W 0 (fun _ => true) true ts vs ds ps → DataW.TrodAll enc P W' 0 (fun b => decide (b < W.heap.size)) true ts vs ds ps
  | [], vs, ds, ps, _, _, h => by
    obtain ⟨rfl, rfl, rfl⟩ := trodAll_nil h
    exact trodAll_mk0
  | t :: ts, vs, ds, ps, ht, hlt, h => by
    obtain ⟨v, vs', d, ds', p, q, rfl, rfl, rfl, h1, h2⟩ := trodAll_cons h
    have ht0 := ht t (by simp)
    exact trodAll_cons_mk (Below.trod hl ht0.1 ht0.2 h1 hb (fun x hx => hlt x (by simp [hx]))) (trodAll_stays hl hb (fun t h => ht t (by simp [h])) (fun x hx => hlt x (by simp [hx])) h2)
theorem law_post {f : Func} {s : ChangeSpec} {tb : TypeId} (hvars : s.vars = []) (hres : f.resultTypes = #[tb]) (htb : P.underlying tb = some .bool) (hl : laidOutB P = true) (hread : ∀ t ∈ f.params.toList, P.readableRec t = true ∧ t < P.types.size)
    {W W' : World} {args : Array Value} {ds gs : List (DataW H)} {before : List MemPlace} (hW : DataW.Whole enc P f.params.toList s.vars false W args.toList ds gs before)
    (hfn : s.fn H (ds ++ gs) = { results := [.lit (.bool true)], args := ds }) (hb : Below W.heap.size W W') : s.post enc P f false true false false W args (.bool true) W' := by
  have hlt : ∀ p ∈ before, p.block < W.heap.size := fun p hp => hW.lt p hp
  have hW' := hW
  obtain ⟨p, q, hA, hV, rfl, _, _⟩ := hW
  rw [hvars] at hV
  obtain ⟨rfl, rfl⟩ := trodVars_none hV
  refine ⟨ds, [], _, [], p, [], hW', ?_, ?_, ?_, World.keptBut_mono (fun x hx => ⟨hx, ?_⟩) (hb.frame (· ∈ p ++ [])), fun h => by cases h⟩
  · rw [hfn, hres]
    exact trodAll_cons_mk (shut_bool htb _) trodAll_mk0
  · rw [hfn]
    exact trodAll_stays hl hb hread (fun x hx => hlt x (by simp [hx])) hA
  · rw [hfn, hvars]
    rfl
  · simpa using hx
end
end Go.Proofs.Ytdnhbledndgbcaa
