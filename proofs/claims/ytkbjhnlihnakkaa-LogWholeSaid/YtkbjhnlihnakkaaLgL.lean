/-
  Plain mathematics of layer 7, the disk's side: what writes leave of a disk, row by row; what laying bytes leaves, and what is there behind a crash. No program is run here. No conditions.
-/
import Derived.Test.YtkbjhnlihnakkaaDkAll
import Derived.Deep.Slices
namespace Go.Proofs.Ytkbjhnlihnakkaa
open Go.RowKit

/-! the disk as it is read -/
def Dsk.view (s : Dsk) : List (List UInt8) := kept (fun _ => true) s.M s.K s.M.length
theorem view_length (s : Dsk) : s.view.length = s.K.length := kept_length _ _ _ _
theorem view_len {s : Dsk} (h : s.Ok) : ∀ r ∈ s.view, r.length = 64 := kept_len h.mem h.len _
theorem view_calm {s : Dsk} (h : s.M = []) : s.view = s.K := by unfold Dsk.view; rw [h]; rfl
theorem kept_untouched {pick : Nat → Bool} {M : List (Nat × List UInt8)} {K : List (List UInt8)} {i : Nat} : ∀ n, n ≤ M.length → (∀ j (hj : j < M.length), j < n → M[j].1 ≠ i) → (kept pick M K n)[i]? = K[i]?
  | 0, _, _ => rfl
  | n + 1, hn, h => by
    have ih := kept_untouched (pick := pick) (K := K) n (by omega) (fun j hj hlt => h j hj (by omega))
    rw [kept_step (by omega)]
    split
    · rw [List.getElem?_set_ne (h n (by omega) (by omega))]; exact ih
    · exact ih
theorem last_view {s : Dsk} (ok : s.Ok) {i : Nat} {x : List UInt8} (h : s.Last i x) : s.view[i]? = some x := by
  rcases h with ⟨k, hk, h1, h2, h3⟩ | ⟨h1, h2⟩
  · have key : ∀ n, k < n → n ≤ s.M.length → (kept (fun _ => true) s.M s.K n)[i]? = some x := by
      intro n
      induction n with
      | zero => intro h; omega
      | succ n ih =>
        intro hkn hn
        rw [kept_step (by omega), if_pos rfl]
        by_cases e : k = n
        · subst e
          rw [h1, h2]
          exact List.getElem?_set_self (by rw [kept_length, ← h1]; exact ok.num _ (List.getElem_mem hk))
        · rw [List.getElem?_set_ne (h3 n (by omega) (by omega))]
          exact ih (by omega) (by omega)
    exact key _ hk (Nat.le_refl _)
  · rw [← h2]; exact kept_untouched _ (Nat.le_refl _) (fun j hj _ => h1 j hj)
/-- the bytes of some blocks, one behind the other -/
def Dsk.bytes (s : Dsk) (f n : Nat) : List UInt8 := ((s.view.drop f).take n).flatten

/-! rows are written one behind the other -/
namespace Dsk
def pw (s : Dsk) (i : Nat) (r : List UInt8) : Dsk := if s.off then s else s.write i r
def puts : Dsk → Nat → List (List UInt8) → Dsk
  | s, _, [] => s
  | s, i, r :: R => puts (s.pw i r) (i + 1) R
def putAll (s : Dsk) (i : Nat) (R : List (List UInt8)) : Dsk := if R = [] then s else (s.puts i R).sput
def putErr (s : Dsk) (i : Nat) (R : List (List UInt8)) : Int := if R = [] then 0 else if (s.puts i R).off then 5 else 0
theorem pw_off {s : Dsk} (h : s.off = true) (i : Nat) (r : List UInt8) : s.pw i r = s := if_pos h
theorem puts_off : ∀ (R : List (List UInt8)) (s : Dsk) (i : Nat), s.off = true → s.puts i R = s
  | [], _, _, _ => rfl
  | r :: R, s, i, h => by rw [puts, pw_off h]; exact puts_off R s (i + 1) h
theorem puts_append : ∀ (R S : List (List UInt8)) (s : Dsk) (i : Nat), s.puts i (R ++ S) = (s.puts i R).puts (i + R.length) S
  | [], _, _, _ => rfl
  | r :: R, S, s, i => by
    rw [List.cons_append, puts, puts, puts_append R S, List.length_cons, Nat.add_assoc, Nat.add_comm 1]
theorem puts_step {s : Dsk} {i : Nat} {R : List (List UInt8)} {k : Nat} (h : k < R.length) : s.puts i (R.take (k + 1)) = (s.puts i (R.take k)).pw (i + k) R[k] := by
  rw [List.take_succ_eq_append_getElem h, puts_append, List.length_take, Nat.min_eq_left (by omega)]
  rfl
theorem puts_stop {s : Dsk} {i : Nat} {R : List (List UInt8)} {k : Nat} (h : (s.puts i (R.take k)).off = true) : s.puts i R = s.puts i (R.take k) := by
  have e := puts_append (R.take k) (R.drop k) s i
  rw [List.take_append_drop] at e
  rw [e]
  exact puts_off _ _ _ h
theorem pw_K (s : Dsk) (i : Nat) (r : List UInt8) : (s.pw i r).K = s.K := by unfold pw; split <;> rfl
theorem puts_K : ∀ (R : List (List UInt8)) (s : Dsk) (i : Nat), (s.puts i R).K = s.K
  | [], _, _ => rfl
  | r :: R, s, i => by rw [puts, puts_K R]; exact pw_K s i r
theorem Ok.pw {s : Dsk} (h : s.Ok) {i : Nat} {r : List UInt8} (hi : i < s.K.length) (hr : r.length = 64) : (s.pw i r).Ok := by
  unfold Dsk.pw
  split
  · exact h
  · exact h.write hi hr
theorem Ok.puts : ∀ {R : List (List UInt8)} {s : Dsk} {i : Nat}, s.Ok → i + R.length ≤ s.K.length → (∀ r ∈ R, r.length = 64) → (s.puts i R).Ok
  | [], _, _, h, _, _ => h
  | r :: R, s, i, h, hi, hr => by
    rw [List.length_cons] at hi
    rw [Dsk.puts]
    exact Ok.puts (h.pw (by omega) (hr r (by simp))) (by rw [pw_K]; omega) (fun x hx => hr x (by simp [hx]))
theorem Ok.sput {s : Dsk} (h : s.Ok) : s.sput.Ok := by
  unfold Dsk.sput
  split
  · exact h
  · exact h.sync
theorem Ok.putAll {s : Dsk} (h : s.Ok) {i : Nat} {R : List (List UInt8)} (hi : i + R.length ≤ s.K.length) (hr : ∀ r ∈ R, r.length = 64) : (s.putAll i R).Ok := by
  unfold Dsk.putAll
  split
  · exact h
  · exact (h.puts hi hr).sput
theorem klen_putAll (s : Dsk) (i : Nat) (R : List (List UInt8)) : (s.putAll i R).K.length = s.K.length := by
  unfold putAll
  split
  · rfl
  · rw [klen_sput, puts_K]
theorem Few.pw {s : Dsk} {n : Nat} (h : s.Few n) (i : Nat) (r : List UInt8) : (s.pw i r).Few (n + 1) := by
  unfold Dsk.pw
  split
  · exact h.mono (Nat.le_succ n)
  · refine ⟨Nat.succ_le_succ h.1, ?_, ?_⟩
    · show (s.M ++ [_]).length ≤ _; rw [List.length_append]; exact Nat.succ_le_succ h.2.1
    · show s.left - 1 < _; have := h.2.2; omega
theorem Few.puts : ∀ {R : List (List UInt8)} {s : Dsk} {i n : Nat}, s.Few n → (s.puts i R).Few (n + R.length)
  | [], _, _, _, h => h
  | r :: R, s, i, n, h => by
    rw [Dsk.puts, List.length_cons]
    have := (h.pw i r).puts (R := R) (i := i + 1)
    rwa [show n + 1 + R.length = n + (R.length + 1) by omega] at this
theorem Few.putAll {s : Dsk} {n : Nat} (h : s.Few n) (i : Nat) (R : List (List UInt8)) : (s.putAll i R).Few (n + R.length + 1) := by
  unfold Dsk.putAll
  split
  · exact h.mono (by omega)
  · exact h.puts.sput
theorem wput_pw {s : Dsk} {i : Nat} {l : List UInt8} (h : i < s.K.length) (hl : l.length = 64) : s.wput (i : Int) l = s.pw i l ∧ s.werr (i : Int) 64 = (if s.off then 5 else 0) := by
  have e : s.werr (i : Int) 64 = (if s.off then 5 else 0) := by unfold werr; rw [if_pos ⟨⟨by omega, by omega⟩, rfl⟩]
  refine ⟨?_, e⟩
  unfold wput pw
  rw [hl, e]
  cases s.off
  · rfl
  · rfl
/-- nothing is armed -/
def Quiet (s : Dsk) : Prop := s.off = false ∧ s.left = 0
theorem Quiet.pw {s : Dsk} (h : s.Quiet) (i : Nat) (r : List UInt8) : (s.pw i r).Quiet := by
  unfold Dsk.pw
  rw [h.1]
  refine ⟨?_, ?_⟩
  · show (if 0 < s.left then _ else s.off) = false
    rw [h.2]; exact h.1
  · show s.left - 1 = 0
    rw [h.2]
theorem Quiet.puts : ∀ {R : List (List UInt8)} {s : Dsk} {i : Nat}, s.Quiet → (s.puts i R).Quiet
  | [], _, _, h => h
  | r :: R, s, i, h => by rw [Dsk.puts]; exact (h.pw i r).puts
theorem Quiet.sput {s : Dsk} (h : s.Quiet) : s.sput.Quiet := by
  unfold Dsk.sput
  rw [h.1]
  refine ⟨?_, ?_⟩
  · show (if 0 < s.left then _ else s.off) = false
    rw [h.2]; exact h.1
  · show s.left - 1 = 0
    rw [h.2]
theorem Quiet.putAll {s : Dsk} (h : s.Quiet) (i : Nat) (R : List (List UInt8)) : (s.putAll i R).Quiet := by
  unfold Dsk.putAll
  split
  · exact h
  · exact h.puts.sput
theorem calls_pw (s : Dsk) (i : Nat) (r : List UInt8) : s.calls ≤ (s.pw i r).calls := by
  unfold Dsk.pw
  split
  · exact Nat.le_refl _
  · exact Nat.le_succ _
theorem calls_puts : ∀ (R : List (List UInt8)) (s : Dsk) (i : Nat), s.calls ≤ (s.puts i R).calls
  | [], _, _ => Nat.le_refl _
  | r :: R, s, i => by rw [Dsk.puts]; exact Nat.le_trans (calls_pw s i r) (calls_puts R _ _)
theorem calls_sput (s : Dsk) : s.calls ≤ s.sput.calls ∧ (s.off = false → s.calls < s.sput.calls) := by
  unfold Dsk.sput
  cases h : s.off
  · exact ⟨Nat.le_succ _, fun _ => Nat.lt_succ_self _⟩
  · exact ⟨Nat.le_refl _, fun h => by cases h⟩
theorem calls_putAll (s : Dsk) (i : Nat) (R : List (List UInt8)) : s.calls ≤ (s.putAll i R).calls := by
  unfold Dsk.putAll
  split
  · exact Nat.le_refl _
  · exact Nat.le_trans (calls_puts R s i) (calls_sput _).1
end Dsk

/-- the cache, when rows were written -/
def rowsM : Nat → List (List UInt8) → List (Nat × List UInt8)
  | _, [] => []
  | i, r :: R => (i, r) :: rowsM (i + 1) R
theorem rowsM_length : ∀ (R : List (List UInt8)) (i : Nat), (rowsM i R).length = R.length
  | [], _ => rfl
  | r :: R, i => by rw [rowsM, List.length_cons, List.length_cons, rowsM_length R]
theorem rowsM_le : ∀ (R : List (List UInt8)) (i : Nat), ∀ p ∈ rowsM i R, i ≤ p.1
  | [], _, p, hp => by cases hp
  | r :: R, i, p, hp => by
    rcases List.mem_cons.1 hp with rfl | hp
    · exact Nat.le_refl _
    · exact Nat.le_of_succ_le (rowsM_le R (i + 1) p hp)
theorem puts_M : ∀ (R : List (List UInt8)) (s : Dsk) (i : Nat), ∃ n, n ≤ R.length ∧ (s.puts i R).M = s.M ++ rowsM i (R.take n) ∧ ((s.puts i R).off = false → n = R.length)
  | [], s, i => ⟨0, Nat.le_refl _, by simp [Dsk.puts, rowsM], fun _ => rfl⟩
  | r :: R, s, i => by
    by_cases ho : s.off = true
    · rw [Dsk.puts_off _ _ _ ho]
      exact ⟨0, Nat.zero_le _, by simp [rowsM], fun h => by rw [ho] at h; cases h⟩
    · have e : s.pw i r = s.write i r := if_neg ho
      obtain ⟨n, h1, h2, h3⟩ := puts_M R (s.write i r) (i + 1)
      rw [Dsk.puts, e]
      refine ⟨n + 1, Nat.succ_le_succ h1, ?_, fun h => by rw [h3 h]; rfl⟩
      rw [h2, List.take_succ_cons, rowsM]
      show (s.M ++ [(i, r)]) ++ _ = _
      rw [List.append_assoc]; rfl
theorem kept_cons {p : Nat × List UInt8} {M : List (Nat × List UInt8)} {K : List (List UInt8)} : ∀ n, kept (fun _ => true) (p :: M) K (n + 1) = kept (fun _ => true) M (K.set p.1 p.2) n
  | 0 => rfl
  | n + 1 => by
    have ih := kept_cons (p := p) (M := M) (K := K) n
    rw [kept, ih]
    simp only [List.getElem?_cons_succ]
    rfl
theorem kept_rows : ∀ (R : List (List UInt8)) (i : Nat) (K : List (List UInt8)), i + R.length ≤ K.length → kept (fun _ => true) (rowsM i R) K (rowsM i R).length = splice K i R
  | [], i, K, _ => by simp [rowsM, kept, splice]
  | r :: R, i, K, h => by
    rw [List.length_cons] at h
    rw [rowsM, List.length_cons, kept_cons, kept_rows R (i + 1) _ (by rw [List.length_set]; omega)]
    exact splice_one K i r R h
theorem splice_nil {α : Type} (K : List α) (i : Nat) : splice K i [] = K := by simp [splice]
theorem splice_length' {α : Type} (K : List α) (i : Nat) (R : List α) (h : i + R.length ≤ K.length) : (splice K i R).length = K.length := by
  unfold splice
  simp only [List.length_append, List.length_take, List.length_drop]
  omega
theorem splice_two {α : Type} (K : List α) (i : Nat) (r : α) (R : List α) (h : i + 1 + R.length ≤ K.length) : splice (splice K (i + 1) R) i [r] = splice K i (r :: R) := by
  unfold splice
  have l1 : (K.take (i + 1)).length = i + 1 := by rw [List.length_take]; omega
  have e1 : (K.take (i + 1) ++ (R ++ K.drop (i + 1 + R.length))).take i = K.take i := by
    rw [List.take_append_of_le_length (by omega), List.take_take, Nat.min_eq_left (by omega)]
  have e2 : (K.take (i + 1) ++ (R ++ K.drop (i + 1 + R.length))).drop (i + [r].length) = R ++ K.drop (i + 1 + R.length) :=
    List.drop_left' l1
  rw [e1, e2, List.length_cons]
  simp only [List.cons_append, List.nil_append]
  rw [show i + (R.length + 1) = i + 1 + R.length by omega]

namespace Dsk
theorem putAll_done {s : Dsk} {i : Nat} {R : List (List UInt8)} (hM : s.M = []) (hi : i + R.length ≤ s.K.length) (he : s.putErr i R = 0) : (s.putAll i R).M = [] ∧ (s.putAll i R).K = splice s.K i R := by
  unfold putErr at he
  unfold putAll
  by_cases hR : R = []
  · subst hR; rw [if_pos rfl]; exact ⟨hM, (splice_nil _ _).symm⟩
  · rw [if_neg hR] at he ⊢
    obtain ⟨n, h1, h2, h3⟩ := puts_M R s i
    have hoff : (s.puts i R).off = false := by cases h : (s.puts i R).off <;> simp_all
    rw [h3 hoff, List.take_length, hM, List.nil_append] at h2
    have hs : (s.puts i R).sput = (s.puts i R).sync := by unfold sput; rw [hoff]; rfl
    rw [hs]
    refine ⟨rfl, ?_⟩
    show kept _ (s.puts i R).M (s.puts i R).K (s.puts i R).M.length = _
    rw [h2, puts_K]
    exact kept_rows R i s.K hi
theorem putAll_not {s : Dsk} {i : Nat} {R : List (List UInt8)} (hM : s.M = []) (he : s.putErr i R ≠ 0) : s.putErr i R = 5 ∧ (s.putAll i R).off = true ∧ (s.putAll i R).K = s.K ∧ ∃ n, n ≤ R.length ∧ (s.putAll i R).M = rowsM i (R.take n) := by
  unfold putErr at he ⊢
  unfold putAll
  by_cases hR : R = []
  · rw [if_pos hR] at he; exact absurd rfl he
  · rw [if_neg hR] at he ⊢
    rw [if_neg hR]
    obtain ⟨n, h1, h2, h3⟩ := puts_M R s i
    have hoff : (s.puts i R).off = true := by cases h : (s.puts i R).off <;> simp_all
    rw [hM, List.nil_append] at h2
    have hs : (s.puts i R).sput = s.puts i R := if_pos hoff
    rw [hs]
    exact ⟨if_pos hoff, hoff, puts_K R s i, n, h1, h2⟩
end Dsk
/-- pieces of 64 bytes -/
def rowsOf (b : List UInt8) : List (List UInt8) := (List.range (b.length / 64)).map (chunk b)
theorem rowsOf_length (b : List UInt8) : (rowsOf b).length = b.length / 64 := by simp [rowsOf]
theorem rowsOf_len (b : List UInt8) : ∀ r ∈ rowsOf b, r.length = 64 := fun r hr => by
  obtain ⟨k, hk, rfl⟩ := List.mem_map.1 hr
  have := List.mem_range.1 hk
  unfold chunk
  rw [List.length_take, List.length_drop]
  omega
theorem rowsOf_get {b : List UInt8} {k : Nat} (h : k < (rowsOf b).length) : (rowsOf b)[k] = chunk b k := by simp [rowsOf]
theorem rowsOf_flat {b : List UInt8} {n : Nat} (h : b.length = n * 64) : (rowsOf b).flatten = b :=
  chunks_flat n b (rowsOf b) h (by rw [rowsOf_length]; omega) (fun i hi => by
    rw [List.getElem?_eq_getElem (by rw [rowsOf_length]; omega), rowsOf_get])
theorem rowsOf_cons {b : List UInt8} {n : Nat} (h : b.length = (n + 1) * 64) : rowsOf b = b.take 64 :: rowsOf (b.drop 64) := by
  unfold rowsOf
  rw [show b.length / 64 = n + 1 by omega, List.range_succ_eq_map, List.map_cons, List.map_map, List.length_drop, show (b.length - 64) / 64 = n by omega]
  congr 1
  apply List.map_congr_left
  intro k _
  show chunk b (k + 1) = chunk (b.drop 64) k
  unfold chunk
  rw [List.drop_drop, show (k + 1) * 64 = 64 + k * 64 by omega]
theorem rowsOf_one {b : List UInt8} (h : b.length = 64) : rowsOf b = [b] := by
  have e := rowsOf_cons (n := 0) (b := b) (by omega)
  rw [e, List.take_of_length_le (by omega)]
  have : b.drop 64 = [] := List.drop_eq_nil_of_le (by omega)
  rw [this]; rfl

namespace Dsk
/-- whole blocks are laid from block i on, the first one last -/
def lay (s : Dsk) (b : List UInt8) (i : Nat) : Dsk := (s.putAll (i + 1) (rowsOf (b.drop 64))).putAll i (rowsOf (b.take 64))
def layErr (s : Dsk) (b : List UInt8) (i : Nat) : Int := (s.putAll (i + 1) (rowsOf (b.drop 64))).putErr i (rowsOf (b.take 64))
theorem lay_off {s : Dsk} {b : List UInt8} {i n : Nat} (h : s.off = true) (hb : b.length = (n + 1) * 64) : s.lay b i = s ∧ s.layErr b i = 5 := by
  have h1 : ∀ (s : Dsk) (R : List (List UInt8)) (i : Nat), s.off = true → s.putAll i R = s := fun s R i h => by
    unfold putAll
    split
    · rfl
    · rw [puts_off R s i h]; exact if_pos h
  unfold lay layErr
  rw [h1 s _ _ h, h1 s _ _ h]
  refine ⟨rfl, ?_⟩
  unfold putErr
  rw [rowsOf_one (by rw [List.length_take]; omega), if_neg (by simp), puts_off _ _ _ h, if_pos h]
/-- the first part was not done: nor is the second -/
theorem lay_first {s : Dsk} {b : List UInt8} {i n : Nat} (hb : b.length = (n + 1) * 64) (h : s.putErr (i + 1) (rowsOf (b.drop 64)) ≠ 0) :
    s.putErr (i + 1) (rowsOf (b.drop 64)) = 5 ∧ s.lay b i = s.putAll (i + 1) (rowsOf (b.drop 64)) ∧ s.layErr b i = 5 := by
  have h5 : s.putErr (i + 1) (rowsOf (b.drop 64)) = 5 ∧ (s.putAll (i + 1) (rowsOf (b.drop 64))).off = true := by
    unfold putErr at h ⊢
    unfold putAll
    by_cases hR : rowsOf (b.drop 64) = []
    · rw [if_pos hR] at h; exact absurd rfl h
    · rw [if_neg hR] at h ⊢
      rw [if_neg hR]
      have hoff : (s.puts (i + 1) (rowsOf (b.drop 64))).off = true := by cases h : (s.puts (i + 1) (rowsOf (b.drop 64))).off <;> simp_all
      refine ⟨if_pos hoff, ?_⟩
      unfold sput
      rw [if_pos hoff]; exact hoff
  refine ⟨h5.1, ?_⟩
  have h1 : ∀ (s : Dsk) (R : List (List UInt8)) (i : Nat), s.off = true → s.putAll i R = s := fun s R i h => by
    unfold putAll
    split
    · rfl
    · rw [puts_off R s i h]; exact if_pos h
  refine ⟨h1 _ _ _ h5.2, ?_⟩
  unfold layErr putErr
  rw [rowsOf_one (by rw [List.length_take]; omega), if_neg (by simp), puts_off _ _ _ h5.2, if_pos h5.2]
theorem lay_done {s : Dsk} {b : List UInt8} {i n : Nat} (hM : s.M = []) (hb : b.length = (n + 1) * 64) (hi : i + (n + 1) ≤ s.K.length) (he : s.layErr b i = 0) : (s.lay b i).M = [] ∧ (s.lay b i).K = splice s.K i (rowsOf b) := by
  have hr : (rowsOf (b.drop 64)).length = n := by rw [rowsOf_length, List.length_drop]; omega
  have h0 : s.putErr (i + 1) (rowsOf (b.drop 64)) = 0 := by
    by_cases h : s.putErr (i + 1) (rowsOf (b.drop 64)) = 0
    · exact h
    · have := (lay_first hb h).2.2; omega
  obtain ⟨m1, k1⟩ := putAll_done hM (by rw [hr]; omega) h0
  have e1 := rowsOf_one (b := b.take 64) (by rw [List.length_take]; omega)
  unfold layErr at he
  obtain ⟨m2, k2⟩ := putAll_done m1 (by rw [e1, klen_putAll]; simp; omega) he
  refine ⟨m2, ?_⟩
  unfold lay
  rw [k2, k1, e1, rowsOf_cons hb]
  exact splice_two s.K i _ _ (by rw [hr]; omega)
theorem lay_not {s : Dsk} {b : List UInt8} {i n : Nat} (hM : s.M = []) (hb : b.length = (n + 1) * 64) (hi : i + (n + 1) ≤ s.K.length) (he : s.layErr b i ≠ 0) :
    s.layErr b i = 5 ∧ (s.lay b i).off = true ∧ ∀ pick, ((s.lay b i).crash pick).K = splice s.K i (rowsOf b) ∨ (((s.lay b i).crash pick).K.length = s.K.length ∧ ((s.lay b i).crash pick).K.take (i + 1) = s.K.take (i + 1)) := by
  have hr : (rowsOf (b.drop 64)).length = n := by rw [rowsOf_length, List.length_drop]; omega
  have same : ∀ (t : Dsk) (pick : Nat → Bool), t.K = s.K → (∀ p ∈ t.M, i + 1 ≤ p.1) → (t.crash pick).K.length = s.K.length ∧ (t.crash pick).K.take (i + 1) = s.K.take (i + 1) := fun t pick hK hm => by
    have hl : (t.crash pick).K.length = s.K.length := by show (kept _ _ _ _).length = _; rw [kept_length, hK]
    refine ⟨hl, List.ext_getElem? fun j => ?_⟩
    by_cases hj : j < i + 1
    · rw [List.getElem?_take_of_lt hj, List.getElem?_take_of_lt hj]
      show (kept _ t.M t.K t.M.length)[j]? = _
      rw [kept_untouched _ (Nat.le_refl _) (fun q hq _ => by have := hm _ (List.getElem_mem hq); omega), hK]
    · rw [List.getElem?_eq_none (by rw [List.length_take]; omega), List.getElem?_eq_none (by rw [List.length_take]; omega)]
  by_cases h0 : s.putErr (i + 1) (rowsOf (b.drop 64)) = 0
  · obtain ⟨m1, k1⟩ := putAll_done hM (by rw [hr]; omega) h0
    have e1 := rowsOf_one (b := b.take 64) (by rw [List.length_take]; omega)
    unfold layErr at he ⊢
    unfold lay
    generalize s.putAll (i + 1) (rowsOf (b.drop 64)) = s1 at *
    obtain ⟨h5, hoff, hK, q, hq, hm⟩ := putAll_not m1 he
    refine ⟨h5, hoff, fun pick => ?_⟩
    rw [e1] at hm hK ⊢
    have htk : s1.K.take (i + 1) = s.K.take (i + 1) := by
      rw [k1]; unfold splice
      try simp only [List.append_assoc]
      rw [List.take_append_of_le_length (by rw [List.length_take]; omega), List.take_take, Nat.min_self]
    have hlen : s1.K.length = s.K.length := by rw [k1]; exact splice_length' _ _ _ (by rw [hr]; omega)
    rw [e1] at hq
    simp only [List.length_cons, List.length_nil] at hq
    rcases Nat.eq_zero_or_pos q with hq0 | hq0
    · right
      subst hq0
      have : ((s1.putAll i [b.take 64]).crash pick).K = s1.K := by
        show kept _ (s1.putAll i [b.take 64]).M (s1.putAll i [b.take 64]).K (s1.putAll i [b.take 64]).M.length = _
        rw [hm, hK]; rfl
      rw [this]; exact ⟨hlen, htk⟩
    · obtain rfl : q = 1 := by omega
      have : ((s1.putAll i [b.take 64]).crash pick).K = if pick 0 then s1.K.set i (b.take 64) else s1.K := by
        show kept _ (s1.putAll i [b.take 64]).M (s1.putAll i [b.take 64]).K (s1.putAll i [b.take 64]).M.length = _
        rw [hm, hK]
        show kept pick [(i, b.take 64)] s1.K 1 = _
        rfl
      rw [this]
      cases pick 0
      · right; exact ⟨hlen, htk⟩
      · left
        show s1.K.set i (b.take 64) = _
        rw [rowsOf_cons hb, ← splice_two s.K i _ _ (by rw [hr]; omega), ← k1]
        have := splice_one s1.K i (b.take 64) [] (by simp; omega)
        rw [← this, splice_nil]
  · obtain ⟨h5, e, e5⟩ := lay_first hb h0
    obtain ⟨_, hoff, hK, q, hq, hm⟩ := putAll_not hM h0
    rw [e, e5]
    refine ⟨rfl, hoff, fun pick => .inr (same _ pick hK (fun p hp => ?_))⟩
    rw [hm] at hp
    exact rowsM_le _ _ p hp
theorem Ok.lay {s : Dsk} {b : List UInt8} {i n : Nat} (h : s.Ok) (hb : b.length = (n + 1) * 64) (hi : i + (n + 1) ≤ s.K.length) : (s.lay b i).Ok := by
  have hr : (rowsOf (b.drop 64)).length = n := by rw [rowsOf_length, List.length_drop]; omega
  have hr1 : (rowsOf (b.take 64)).length = 1 := by rw [rowsOf_length, List.length_take]; omega
  exact (h.putAll (by rw [hr]; omega) (rowsOf_len _)).putAll (by rw [hr1, klen_putAll]; omega) (rowsOf_len _)
theorem klen_lay (s : Dsk) (b : List UInt8) (i : Nat) : (s.lay b i).K.length = s.K.length := by unfold lay; rw [klen_putAll, klen_putAll]
theorem Few.lay {s : Dsk} {b : List UInt8} {i n m : Nat} (h : s.Few m) (hb : b.length = (n + 1) * 64) : (s.lay b i).Few (m + n + 3) := by
  have hr : (rowsOf (b.drop 64)).length = n := by rw [rowsOf_length, List.length_drop]; omega
  have hr1 : (rowsOf (b.take 64)).length = 1 := by rw [rowsOf_length, List.length_take]; omega
  have := (h.putAll (i + 1) (rowsOf (b.drop 64))).putAll i (rowsOf (b.take 64))
  rw [hr, hr1] at this
  exact this.mono (by omega)
theorem Quiet.lay {s : Dsk} (h : s.Quiet) {b : List UInt8} {i n : Nat} (hb : b.length = (n + 1) * 64) : (s.lay b i).Quiet ∧ s.layErr b i = 0 ∧ s.calls < (s.lay b i).calls := by
  have q1 := h.putAll (i + 1) (rowsOf (b.drop 64))
  have q2 : ((s.putAll (i + 1) (rowsOf (b.drop 64))).puts i (rowsOf (b.take 64))).Quiet := q1.puts
  have e1 := rowsOf_one (b := b.take 64) (by rw [List.length_take]; omega)
  refine ⟨q1.putAll _ _, ?_, ?_⟩
  · unfold Dsk.layErr Dsk.putErr
    rw [q2.1]
    simp
  · unfold Dsk.lay
    have h1 := calls_putAll s (i + 1) (rowsOf (b.drop 64))
    generalize s.putAll (i + 1) (rowsOf (b.drop 64)) = s1 at *
    have h2 := calls_puts (rowsOf (b.take 64)) s1 i
    have h3 := (calls_sput (s1.puts i (rowsOf (b.take 64)))).2 q2.1
    have e : s1.putAll i (rowsOf (b.take 64)) = (s1.puts i (rowsOf (b.take 64))).sput := if_neg (by rw [e1]; simp)
    rw [e]
    omega
end Dsk
end Go.Proofs.Ytkbjhnlihnakkaa
