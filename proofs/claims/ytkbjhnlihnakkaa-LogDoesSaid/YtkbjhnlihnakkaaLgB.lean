/-
  Plain mathematics of layer 7, the disk's side: what writes leave of a disk, row by row; what laying bytes leaves, and what is there behind a crash. No program is run here. No conditions.
  Plain mathematics of layer 7, the log's side: what is laid; what a log's bytes are, and what is read of them; what Append and Begin leave, with and without a crash. No program is run here. No conditions.
-/
import Derived.Test.YtkbjhnlihnakkaaDkAll
import Derived.Deep.Slices
import Derived.Test.YtkbjhnlihnakkaaFrL
namespace Go.Proofs.Ytkbjhnlihnakkaa
open Go.RowKit

/-! the disk as it is read -/
def Dsk.view (s : Dsk) : List (List UInt8) := kept (fun _ => true) s.M s.K s.M.length
theorem view_length (s : Dsk) : s.view.length = s.K.length := kept_length _ _ _ _
theorem view_len {s : Dsk} (h : s.Ok) : ∀ r ∈ s.view, r.length = 64 := kept_len h.mem h.len _
theorem view_calm {s : Dsk} (h : s.M = []) : s.view = s.K := by unfold Dsk.view; rw [h]; rfl
theorem kept_untouched {pick : Nat → Bool} {M : List (Nat × List UInt8)} {K : List (List UInt8)} {i : Nat} : ∀ n, n ≤ M.length → (∀ j (hj : j < M.length), j < n → M[j].1 ≠ i) → (kept pick M K n)[i]? = K[i]?
  | 0, _, _ => rfl
  | n + 1, hn, h => by
    have ih := kept_untouched (pick := pick) (K := K) n (by omega) (fun j hj hlt => h j hj (by omega))
    rw [kept_step (by omega)]
    split
    · rw [List.getElem?_set_ne (h n (by omega) (by omega))]; exact ih
    · exact ih
theorem last_view {s : Dsk} (ok : s.Ok) {i : Nat} {x : List UInt8} (h : s.Last i x) : s.view[i]? = some x := by
  rcases h with ⟨k, hk, h1, h2, h3⟩ | ⟨h1, h2⟩
  · have key : ∀ n, k < n → n ≤ s.M.length → (kept (fun _ => true) s.M s.K n)[i]? = some x := by
      intro n
      induction n with
      | zero => intro h; omega
      | succ n ih =>
        intro hkn hn
        rw [kept_step (by omega), if_pos rfl]
        by_cases e : k = n
        · subst e
          rw [h1, h2]
          exact List.getElem?_set_self (by rw [kept_length, ← h1]; exact ok.num _ (List.getElem_mem hk))
        · rw [List.getElem?_set_ne (h3 n (by omega) (by omega))]
          exact ih (by omega) (by omega)
    exact key _ hk (Nat.le_refl _)
  · rw [← h2]; exact kept_untouched _ (Nat.le_refl _) (fun j hj _ => h1 j hj)
/-- the bytes of some blocks, one behind the other -/
def Dsk.bytes (s : Dsk) (f n : Nat) : List UInt8 := ((s.view.drop f).take n).flatten

/-! rows are written one behind the other -/
namespace Dsk
def pw (s : Dsk) (i : Nat) (r : List UInt8) : Dsk := if s.off then s else s.write i r
def puts : Dsk → Nat → List (List UInt8) → Dsk
  | s, _, [] => s
  | s, i, r :: R => puts (s.pw i r) (i + 1) R
def putAll (s : Dsk) (i : Nat) (R : List (List UInt8)) : Dsk := if R = [] then s else (s.puts i R).sput
def putErr (s : Dsk) (i : Nat) (R : List (List UInt8)) : Int := if R = [] then 0 else if (s.puts i R).off then 5 else 0
theorem pw_off {s : Dsk} (h : s.off = true) (i : Nat) (r : List UInt8) : s.pw i r = s := if_pos h
theorem puts_off : ∀ (R : List (List UInt8)) (s : Dsk) (i : Nat), s.off = true → s.puts i R = s
  | [], _, _, _ => rfl
  | r :: R, s, i, h => by rw [puts, pw_off h]; exact puts_off R s (i + 1) h
theorem puts_append : ∀ (R S : List (List UInt8)) (s : Dsk) (i : Nat), s.puts i (R ++ S) = (s.puts i R).puts (i + R.length) S
  | [], _, _, _ => rfl
  | r :: R, S, s, i => by
    rw [List.cons_append, puts, puts, puts_append R S, List.length_cons, Nat.add_assoc, Nat.add_comm 1]
theorem puts_step {s : Dsk} {i : Nat} {R : List (List UInt8)} {k : Nat} (h : k < R.length) : s.puts i (R.take (k + 1)) = (s.puts i (R.take k)).pw (i + k) R[k] := by
  rw [List.take_succ_eq_append_getElem h, puts_append, List.length_take, Nat.min_eq_left (by omega)]
  rfl
theorem puts_stop {s : Dsk} {i : Nat} {R : List (List UInt8)} {k : Nat} (h : (s.puts i (R.take k)).off = true) : s.puts i R = s.puts i (R.take k) := by
  have e := puts_append (R.take k) (R.drop k) s i
  rw [List.take_append_drop] at e
  rw [e]
  exact puts_off _ _ _ h
theorem pw_K (s : Dsk) (i : Nat) (r : List UInt8) : (s.pw i r).K = s.K := by unfold pw; split <;> rfl
theorem puts_K : ∀ (R : List (List UInt8)) (s : Dsk) (i : Nat), (s.puts i R).K = s.K
  | [], _, _ => rfl
  | r :: R, s, i => by rw [puts, puts_K R]; exact pw_K s i r
theorem Ok.pw {s : Dsk} (h : s.Ok) {i : Nat} {r : List UInt8} (hi : i < s.K.length) (hr : r.length = 64) : (s.pw i r).Ok := by
  unfold Dsk.pw
  split
  · exact h
  · exact h.write hi hr
theorem Ok.puts : ∀ {R : List (List UInt8)} {s : Dsk} {i : Nat}, s.Ok → i + R.length ≤ s.K.length → (∀ r ∈ R, r.length = 64) → (s.puts i R).Ok
  | [], _, _, h, _, _ => h
  | r :: R, s, i, h, hi, hr => by
    rw [List.length_cons] at hi
    rw [Dsk.puts]
    exact Ok.puts (h.pw (by omega) (hr r (by simp))) (by rw [pw_K]; omega) (fun x hx => hr x (by simp [hx]))
theorem Ok.sput {s : Dsk} (h : s.Ok) : s.sput.Ok := by
  unfold Dsk.sput
  split
  · exact h
  · exact h.sync
theorem Ok.putAll {s : Dsk} (h : s.Ok) {i : Nat} {R : List (List UInt8)} (hi : i + R.length ≤ s.K.length) (hr : ∀ r ∈ R, r.length = 64) : (s.putAll i R).Ok := by
  unfold Dsk.putAll
  split
  · exact h
  · exact (h.puts hi hr).sput
theorem klen_putAll (s : Dsk) (i : Nat) (R : List (List UInt8)) : (s.putAll i R).K.length = s.K.length := by
  unfold putAll
  split
  · rfl
  · rw [klen_sput, puts_K]
theorem Few.pw {s : Dsk} {n : Nat} (h : s.Few n) (i : Nat) (r : List UInt8) : (s.pw i r).Few (n + 1) := by
  unfold Dsk.pw
  split
  · exact h.mono (Nat.le_succ n)
  · refine ⟨Nat.succ_le_succ h.1, ?_, ?_⟩
    · show (s.M ++ [_]).length ≤ _; rw [List.length_append]; exact Nat.succ_le_succ h.2.1
    · show s.left - 1 < _; have := h.2.2; omega
theorem Few.puts : ∀ {R : List (List UInt8)} {s : Dsk} {i n : Nat}, s.Few n → (s.puts i R).Few (n + R.length)
  | [], _, _, _, h => h
  | r :: R, s, i, n, h => by
    rw [Dsk.puts, List.length_cons]
    have := (h.pw i r).puts (R := R) (i := i + 1)
    rwa [show n + 1 + R.length = n + (R.length + 1) by omega] at this
theorem Few.putAll {s : Dsk} {n : Nat} (h : s.Few n) (i : Nat) (R : List (List UInt8)) : (s.putAll i R).Few (n + R.length + 1) := by
  unfold Dsk.putAll
  split
  · exact h.mono (by omega)
  · exact h.puts.sput
theorem wput_pw {s : Dsk} {i : Nat} {l : List UInt8} (h : i < s.K.length) (hl : l.length = 64) : s.wput (i : Int) l = s.pw i l ∧ s.werr (i : Int) 64 = (if s.off then 5 else 0) := by
  have e : s.werr (i : Int) 64 = (if s.off then 5 else 0) := by unfold werr; rw [if_pos ⟨⟨by omega, by omega⟩, rfl⟩]
  refine ⟨?_, e⟩
  unfold wput pw
  rw [hl, e]
  cases s.off
  · rfl
  · rfl
/-- nothing is armed -/
def Quiet (s : Dsk) : Prop := s.off = false ∧ s.left = 0
theorem Quiet.pw {s : Dsk} (h : s.Quiet) (i : Nat) (r : List UInt8) : (s.pw i r).Quiet := by
  unfold Dsk.pw
  rw [h.1]
  refine ⟨?_, ?_⟩
  · show (if 0 < s.left then _ else s.off) = false
    rw [h.2]; exact h.1
  · show s.left - 1 = 0
    rw [h.2]
theorem Quiet.puts : ∀ {R : List (List UInt8)} {s : Dsk} {i : Nat}, s.Quiet → (s.puts i R).Quiet
  | [], _, _, h => h
  | r :: R, s, i, h => by rw [Dsk.puts]; exact (h.pw i r).puts
theorem Quiet.sput {s : Dsk} (h : s.Quiet) : s.sput.Quiet := by
  unfold Dsk.sput
  rw [h.1]
  refine ⟨?_, ?_⟩
  · show (if 0 < s.left then _ else s.off) = false
    rw [h.2]; exact h.1
  · show s.left - 1 = 0
    rw [h.2]
theorem Quiet.putAll {s : Dsk} (h : s.Quiet) (i : Nat) (R : List (List UInt8)) : (s.putAll i R).Quiet := by
  unfold Dsk.putAll
  split
  · exact h
  · exact h.puts.sput
theorem calls_pw (s : Dsk) (i : Nat) (r : List UInt8) : s.calls ≤ (s.pw i r).calls := by
  unfold Dsk.pw
  split
  · exact Nat.le_refl _
  · exact Nat.le_succ _
theorem calls_puts : ∀ (R : List (List UInt8)) (s : Dsk) (i : Nat), s.calls ≤ (s.puts i R).calls
  | [], _, _ => Nat.le_refl _
  | r :: R, s, i => by rw [Dsk.puts]; exact Nat.le_trans (calls_pw s i r) (calls_puts R _ _)
theorem calls_sput (s : Dsk) : s.calls ≤ s.sput.calls ∧ (s.off = false → s.calls < s.sput.calls) := by
  unfold Dsk.sput
  cases h : s.off
  · exact ⟨Nat.le_succ _, fun _ => Nat.lt_succ_self _⟩
  · exact ⟨Nat.le_refl _, fun h => by cases h⟩
theorem calls_putAll (s : Dsk) (i : Nat) (R : List (List UInt8)) : s.calls ≤ (s.putAll i R).calls := by
  unfold Dsk.putAll
  split
  · exact Nat.le_refl _
  · exact Nat.le_trans (calls_puts R s i) (calls_sput _).1
end Dsk

/-- the cache, when rows were written -/
def rowsM : Nat → List (List UInt8) → List (Nat × List UInt8)
  | _, [] => []
  | i, r :: R => (i, r) :: rowsM (i + 1) R
theorem rowsM_length : ∀ (R : List (List UInt8)) (i : Nat), (rowsM i R).length = R.length
  | [], _ => rfl
  | r :: R, i => by rw [rowsM, List.length_cons, List.length_cons, rowsM_length R]
theorem rowsM_le : ∀ (R : List (List UInt8)) (i : Nat), ∀ p ∈ rowsM i R, i ≤ p.1
  | [], _, p, hp => by cases hp
  | r :: R, i, p, hp => by
    rcases List.mem_cons.1 hp with rfl | hp
    · exact Nat.le_refl _
    · exact Nat.le_of_succ_le (rowsM_le R (i + 1) p hp)
theorem puts_M : ∀ (R : List (List UInt8)) (s : Dsk) (i : Nat), ∃ n, n ≤ R.length ∧ (s.puts i R).M = s.M ++ rowsM i (R.take n) ∧ ((s.puts i R).off = false → n = R.length)
  | [], s, i => ⟨0, Nat.le_refl _, by simp [Dsk.puts, rowsM], fun _ => rfl⟩
  | r :: R, s, i => by
    by_cases ho : s.off = true
    · rw [Dsk.puts_off _ _ _ ho]
      exact ⟨0, Nat.zero_le _, by simp [rowsM], fun h => by rw [ho] at h; cases h⟩
    · have e : s.pw i r = s.write i r := if_neg ho
      obtain ⟨n, h1, h2, h3⟩ := puts_M R (s.write i r) (i + 1)
      rw [Dsk.puts, e]
      refine ⟨n + 1, Nat.succ_le_succ h1, ?_, fun h => by rw [h3 h]; rfl⟩
      rw [h2, List.take_succ_cons, rowsM]
      show (s.M ++ [(i, r)]) ++ _ = _
      rw [List.append_assoc]; rfl
theorem kept_cons {p : Nat × List UInt8} {M : List (Nat × List UInt8)} {K : List (List UInt8)} : ∀ n, kept (fun _ => true) (p :: M) K (n + 1) = kept (fun _ => true) M (K.set p.1 p.2) n
  | 0 => rfl
  | n + 1 => by
    have ih := kept_cons (p := p) (M := M) (K := K) n
    rw [kept, ih]
    simp only [List.getElem?_cons_succ]
    rfl
theorem kept_rows : ∀ (R : List (List UInt8)) (i : Nat) (K : List (List UInt8)), i + R.length ≤ K.length → kept (fun _ => true) (rowsM i R) K (rowsM i R).length = splice K i R
  | [], i, K, _ => by simp [rowsM, kept, splice]
  | r :: R, i, K, h => by
    rw [List.length_cons] at h
    rw [rowsM, List.length_cons, kept_cons, kept_rows R (i + 1) _ (by rw [List.length_set]; omega)]
    exact splice_one K i r R h
theorem splice_nil {α : Type} (K : List α) (i : Nat) : splice K i [] = K := by simp [splice]
theorem splice_length' {α : Type} (K : List α) (i : Nat) (R : List α) (h : i + R.length ≤ K.length) : (splice K i R).length = K.length := by
  unfold splice
  simp only [List.length_append, List.length_take, List.length_drop]
  omega
theorem splice_two {α : Type} (K : List α) (i : Nat) (r : α) (R : List α) (h : i + 1 + R.length ≤ K.length) : splice (splice K (i + 1) R) i [r] = splice K i (r :: R) := by
  unfold splice
  have l1 : (K.take (i + 1)).length = i + 1 := by rw [List.length_take]; omega
  have e1 : (K.take (i + 1) ++ (R ++ K.drop (i + 1 + R.length))).take i = K.take i := by
    rw [List.take_append_of_le_length (by omega), List.take_take, Nat.min_eq_left (by omega)]
  have e2 : (K.take (i + 1) ++ (R ++ K.drop (i + 1 + R.length))).drop (i + [r].length) = R ++ K.drop (i + 1 + R.length) :=
    List.drop_left' l1
  rw [e1, e2, List.length_cons]
  simp only [List.cons_append, List.nil_append]
  rw [show i + (R.length + 1) = i + 1 + R.length by omega]

namespace Dsk
theorem putAll_done {s : Dsk} {i : Nat} {R : List (List UInt8)} (hM : s.M = []) (hi : i + R.length ≤ s.K.length) (he : s.putErr i R = 0) : (s.putAll i R).M = [] ∧ (s.putAll i R).K = splice s.K i R := by
  unfold putErr at he
  unfold putAll
  by_cases hR : R = []
  · subst hR; rw [if_pos rfl]; exact ⟨hM, (splice_nil _ _).symm⟩
  · rw [if_neg hR] at he ⊢
    obtain ⟨n, h1, h2, h3⟩ := puts_M R s i
    have hoff : (s.puts i R).off = false := by cases h : (s.puts i R).off <;> simp_all
    rw [h3 hoff, List.take_length, hM, List.nil_append] at h2
    have hs : (s.puts i R).sput = (s.puts i R).sync := by unfold sput; rw [hoff]; rfl
    rw [hs]
    refine ⟨rfl, ?_⟩
    show kept _ (s.puts i R).M (s.puts i R).K (s.puts i R).M.length = _
    rw [h2, puts_K]
    exact kept_rows R i s.K hi
theorem putAll_not {s : Dsk} {i : Nat} {R : List (List UInt8)} (hM : s.M = []) (he : s.putErr i R ≠ 0) : s.putErr i R = 5 ∧ (s.putAll i R).off = true ∧ (s.putAll i R).K = s.K ∧ ∃ n, n ≤ R.length ∧ (s.putAll i R).M = rowsM i (R.take n) := by
  unfold putErr at he ⊢
  unfold putAll
  by_cases hR : R = []
  · rw [if_pos hR] at he; exact absurd rfl he
  · rw [if_neg hR] at he ⊢
    rw [if_neg hR]
    obtain ⟨n, h1, h2, h3⟩ := puts_M R s i
    have hoff : (s.puts i R).off = true := by cases h : (s.puts i R).off <;> simp_all
    rw [hM, List.nil_append] at h2
    have hs : (s.puts i R).sput = s.puts i R := if_pos hoff
    rw [hs]
    exact ⟨if_pos hoff, hoff, puts_K R s i, n, h1, h2⟩
end Dsk
/-- pieces of 64 bytes -/
def rowsOf (b : List UInt8) : List (List UInt8) := (List.range (b.length / 64)).map (chunk b)
theorem rowsOf_length (b : List UInt8) : (rowsOf b).length = b.length / 64 := by simp [rowsOf]
theorem rowsOf_len (b : List UInt8) : ∀ r ∈ rowsOf b, r.length = 64 := fun r hr => by
  obtain ⟨k, hk, rfl⟩ := List.mem_map.1 hr
  have := List.mem_range.1 hk
  unfold chunk
  rw [List.length_take, List.length_drop]
  omega
theorem rowsOf_get {b : List UInt8} {k : Nat} (h : k < (rowsOf b).length) : (rowsOf b)[k] = chunk b k := by simp [rowsOf]
theorem rowsOf_flat {b : List UInt8} {n : Nat} (h : b.length = n * 64) : (rowsOf b).flatten = b :=
  chunks_flat n b (rowsOf b) h (by rw [rowsOf_length]; omega) (fun i hi => by
    rw [List.getElem?_eq_getElem (by rw [rowsOf_length]; omega), rowsOf_get])
theorem rowsOf_cons {b : List UInt8} {n : Nat} (h : b.length = (n + 1) * 64) : rowsOf b = b.take 64 :: rowsOf (b.drop 64) := by
  unfold rowsOf
  rw [show b.length / 64 = n + 1 by omega, List.range_succ_eq_map, List.map_cons, List.map_map, List.length_drop, show (b.length - 64) / 64 = n by omega]
  congr 1
  apply List.map_congr_left
  intro k _
  show chunk b (k + 1) = chunk (b.drop 64) k
  unfold chunk
  rw [List.drop_drop, show (k + 1) * 64 = 64 + k * 64 by omega]
theorem rowsOf_one {b : List UInt8} (h : b.length = 64) : rowsOf b = [b] := by
  have e := rowsOf_cons (n := 0) (b := b) (by omega)
  rw [e, List.take_of_length_le (by omega)]
  have : b.drop 64 = [] := List.drop_eq_nil_of_le (by omega)
  rw [this]; rfl

namespace Dsk
/-- whole blocks are laid from block i on, the first one last -/
def lay (s : Dsk) (b : List UInt8) (i : Nat) : Dsk := (s.putAll (i + 1) (rowsOf (b.drop 64))).putAll i (rowsOf (b.take 64))
def layErr (s : Dsk) (b : List UInt8) (i : Nat) : Int := (s.putAll (i + 1) (rowsOf (b.drop 64))).putErr i (rowsOf (b.take 64))
theorem lay_off {s : Dsk} {b : List UInt8} {i n : Nat} (h : s.off = true) (hb : b.length = (n + 1) * 64) : s.lay b i = s ∧ s.layErr b i = 5 := by
  have h1 : ∀ (s : Dsk) (R : List (List UInt8)) (i : Nat), s.off = true → s.putAll i R = s := fun s R i h => by
    unfold putAll
    split
    · rfl
    · rw [puts_off R s i h]; exact if_pos h
  unfold lay layErr
  rw [h1 s _ _ h, h1 s _ _ h]
  refine ⟨rfl, ?_⟩
  unfold putErr
  rw [rowsOf_one (by rw [List.length_take]; omega), if_neg (by simp), puts_off _ _ _ h, if_pos h]
/-- the first part was not done: nor is the second -/
theorem lay_first {s : Dsk} {b : List UInt8} {i n : Nat} (hb : b.length = (n + 1) * 64) (h : s.putErr (i + 1) (rowsOf (b.drop 64)) ≠ 0) :
    s.putErr (i + 1) (rowsOf (b.drop 64)) = 5 ∧ s.lay b i = s.putAll (i + 1) (rowsOf (b.drop 64)) ∧ s.layErr b i = 5 := by
  have h5 : s.putErr (i + 1) (rowsOf (b.drop 64)) = 5 ∧ (s.putAll (i + 1) (rowsOf (b.drop 64))).off = true := by
    unfold putErr at h ⊢
    unfold putAll
    by_cases hR : rowsOf (b.drop 64) = []
    · rw [if_pos hR] at h; exact absurd rfl h
    · rw [if_neg hR] at h ⊢
      rw [if_neg hR]
      have hoff : (s.puts (i + 1) (rowsOf (b.drop 64))).off = true := by cases h : (s.puts (i + 1) (rowsOf (b.drop 64))).off <;> simp_all
      refine ⟨if_pos hoff, ?_⟩
      unfold sput
      rw [if_pos hoff]; exact hoff
  refine ⟨h5.1, ?_⟩
  have h1 : ∀ (s : Dsk) (R : List (List UInt8)) (i : Nat), s.off = true → s.putAll i R = s := fun s R i h => by
    unfold putAll
    split
    · rfl
    · rw [puts_off R s i h]; exact if_pos h
  refine ⟨h1 _ _ _ h5.2, ?_⟩
  unfold layErr putErr
  rw [rowsOf_one (by rw [List.length_take]; omega), if_neg (by simp), puts_off _ _ _ h5.2, if_pos h5.2]
theorem lay_done {s : Dsk} {b : List UInt8} {i n : Nat} (hM : s.M = []) (hb : b.length = (n + 1) * 64) (hi : i + (n + 1) ≤ s.K.length) (he : s.layErr b i = 0) : (s.lay b i).M = [] ∧ (s.lay b i).K = splice s.K i (rowsOf b) := by
  have hr : (rowsOf (b.drop 64)).length = n := by rw [rowsOf_length, List.length_drop]; omega
  have h0 : s.putErr (i + 1) (rowsOf (b.drop 64)) = 0 := by
    by_cases h : s.putErr (i + 1) (rowsOf (b.drop 64)) = 0
    · exact h
    · have := (lay_first hb h).2.2; omega
  obtain ⟨m1, k1⟩ := putAll_done hM (by rw [hr]; omega) h0
  have e1 := rowsOf_one (b := b.take 64) (by rw [List.length_take]; omega)
  unfold layErr at he
  obtain ⟨m2, k2⟩ := putAll_done m1 (by rw [e1, klen_putAll]; simp; omega) he
  refine ⟨m2, ?_⟩
  unfold lay
  rw [k2, k1, e1, rowsOf_cons hb]
  exact splice_two s.K i _ _ (by rw [hr]; omega)
theorem lay_not {s : Dsk} {b : List UInt8} {i n : Nat} (hM : s.M = []) (hb : b.length = (n + 1) * 64) (hi : i + (n + 1) ≤ s.K.length) (he : s.layErr b i ≠ 0) :
    s.layErr b i = 5 ∧ (s.lay b i).off = true ∧ ∀ pick, ((s.lay b i).crash pick).K = splice s.K i (rowsOf b) ∨ (((s.lay b i).crash pick).K.length = s.K.length ∧ ((s.lay b i).crash pick).K.take (i + 1) = s.K.take (i + 1)) := by
  have hr : (rowsOf (b.drop 64)).length = n := by rw [rowsOf_length, List.length_drop]; omega
  have same : ∀ (t : Dsk) (pick : Nat → Bool), t.K = s.K → (∀ p ∈ t.M, i + 1 ≤ p.1) → (t.crash pick).K.length = s.K.length ∧ (t.crash pick).K.take (i + 1) = s.K.take (i + 1) := fun t pick hK hm => by
    have hl : (t.crash pick).K.length = s.K.length := by show (kept _ _ _ _).length = _; rw [kept_length, hK]
    refine ⟨hl, List.ext_getElem? fun j => ?_⟩
    by_cases hj : j < i + 1
    · rw [List.getElem?_take_of_lt hj, List.getElem?_take_of_lt hj]
      show (kept _ t.M t.K t.M.length)[j]? = _
      rw [kept_untouched _ (Nat.le_refl _) (fun q hq _ => by have := hm _ (List.getElem_mem hq); omega), hK]
    · rw [List.getElem?_eq_none (by rw [List.length_take]; omega), List.getElem?_eq_none (by rw [List.length_take]; omega)]
  by_cases h0 : s.putErr (i + 1) (rowsOf (b.drop 64)) = 0
  · obtain ⟨m1, k1⟩ := putAll_done hM (by rw [hr]; omega) h0
    have e1 := rowsOf_one (b := b.take 64) (by rw [List.length_take]; omega)
    unfold layErr at he ⊢
    unfold lay
    generalize s.putAll (i + 1) (rowsOf (b.drop 64)) = s1 at *
    obtain ⟨h5, hoff, hK, q, hq, hm⟩ := putAll_not m1 he
    refine ⟨h5, hoff, fun pick => ?_⟩
    rw [e1] at hm hK ⊢
    have htk : s1.K.take (i + 1) = s.K.take (i + 1) := by
      rw [k1]; unfold splice
      try simp only [List.append_assoc]
      rw [List.take_append_of_le_length (by rw [List.length_take]; omega), List.take_take, Nat.min_self]
    have hlen : s1.K.length = s.K.length := by rw [k1]; exact splice_length' _ _ _ (by rw [hr]; omega)
    rw [e1] at hq
    simp only [List.length_cons, List.length_nil] at hq
    rcases Nat.eq_zero_or_pos q with hq0 | hq0
    · right
      subst hq0
      have : ((s1.putAll i [b.take 64]).crash pick).K = s1.K := by
        show kept _ (s1.putAll i [b.take 64]).M (s1.putAll i [b.take 64]).K (s1.putAll i [b.take 64]).M.length = _
        rw [hm, hK]; rfl
      rw [this]; exact ⟨hlen, htk⟩
    · obtain rfl : q = 1 := by omega
      have : ((s1.putAll i [b.take 64]).crash pick).K = if pick 0 then s1.K.set i (b.take 64) else s1.K := by
        show kept _ (s1.putAll i [b.take 64]).M (s1.putAll i [b.take 64]).K (s1.putAll i [b.take 64]).M.length = _
        rw [hm, hK]
        show kept pick [(i, b.take 64)] s1.K 1 = _
        rfl
      rw [this]
      cases pick 0
      · right; exact ⟨hlen, htk⟩
      · left
        show s1.K.set i (b.take 64) = _
        rw [rowsOf_cons hb, ← splice_two s.K i _ _ (by rw [hr]; omega), ← k1]
        have := splice_one s1.K i (b.take 64) [] (by simp; omega)
        rw [← this, splice_nil]
  · obtain ⟨h5, e, e5⟩ := lay_first hb h0
    obtain ⟨_, hoff, hK, q, hq, hm⟩ := putAll_not hM h0
    rw [e, e5]
    refine ⟨rfl, hoff, fun pick => .inr (same _ pick hK (fun p hp => ?_))⟩
    rw [hm] at hp
    exact rowsM_le _ _ p hp
theorem Ok.lay {s : Dsk} {b : List UInt8} {i n : Nat} (h : s.Ok) (hb : b.length = (n + 1) * 64) (hi : i + (n + 1) ≤ s.K.length) : (s.lay b i).Ok := by
  have hr : (rowsOf (b.drop 64)).length = n := by rw [rowsOf_length, List.length_drop]; omega
  have hr1 : (rowsOf (b.take 64)).length = 1 := by rw [rowsOf_length, List.length_take]; omega
  exact (h.putAll (by rw [hr]; omega) (rowsOf_len _)).putAll (by rw [hr1, klen_putAll]; omega) (rowsOf_len _)
theorem klen_lay (s : Dsk) (b : List UInt8) (i : Nat) : (s.lay b i).K.length = s.K.length := by unfold lay; rw [klen_putAll, klen_putAll]
theorem Few.lay {s : Dsk} {b : List UInt8} {i n m : Nat} (h : s.Few m) (hb : b.length = (n + 1) * 64) : (s.lay b i).Few (m + n + 3) := by
  have hr : (rowsOf (b.drop 64)).length = n := by rw [rowsOf_length, List.length_drop]; omega
  have hr1 : (rowsOf (b.take 64)).length = 1 := by rw [rowsOf_length, List.length_take]; omega
  have := (h.putAll (i + 1) (rowsOf (b.drop 64))).putAll i (rowsOf (b.take 64))
  rw [hr, hr1] at this
  exact this.mono (by omega)
theorem Quiet.lay {s : Dsk} (h : s.Quiet) {b : List UInt8} {i n : Nat} (hb : b.length = (n + 1) * 64) : (s.lay b i).Quiet ∧ s.layErr b i = 0 ∧ s.calls < (s.lay b i).calls := by
  have q1 := h.putAll (i + 1) (rowsOf (b.drop 64))
  have q2 : ((s.putAll (i + 1) (rowsOf (b.drop 64))).puts i (rowsOf (b.take 64))).Quiet := q1.puts
  have e1 := rowsOf_one (b := b.take 64) (by rw [List.length_take]; omega)
  refine ⟨q1.putAll _ _, ?_, ?_⟩
  · unfold Dsk.layErr Dsk.putErr
    rw [q2.1]
    simp
  · unfold Dsk.lay
    have h1 := calls_putAll s (i + 1) (rowsOf (b.drop 64))
    generalize s.putAll (i + 1) (rowsOf (b.drop 64)) = s1 at *
    have h2 := calls_puts (rowsOf (b.take 64)) s1 i
    have h3 := (calls_sput (s1.puts i (rowsOf (b.take 64)))).2 q2.1
    have e : s1.putAll i (rowsOf (b.take 64)) = (s1.puts i (rowsOf (b.take 64))).sput := if_neg (by rw [e1]; simp)
    rw [e]
    omega
end Dsk
end Go.Proofs.Ytkbjhnlihnakkaa

namespace Go.Proofs.Ytkbjhnlihnakkaa
open Go.RowKit

/-! what is laid -/
def aheadL (V : List (List UInt8)) (f pos : Nat) : List UInt8 := (V.getD (f + pos / 64) []).take (pos % 64)
def filledL (a : List UInt8) (room : Nat) : List UInt8 := a ++ List.replicate (min (a.length / 64 + 1) room * 64 - a.length) 0
theorem filledL_length {a : List UInt8} {room : Nat} (h : a.length ≤ room * 64) : (filledL a room).length = min (a.length / 64 + 1) room * 64 := by
  unfold filledL
  rw [List.length_append, List.length_replicate]
  omega
theorem filledL_rows {a : List UInt8} {room : Nat} (h : a.length ≤ room * 64) (h0 : 0 < room) : ∃ n, (filledL a room).length = (n + 1) * 64 ∧ n + 1 ≤ room ∧ n ≤ a.length / 64 :=
  ⟨min (a.length / 64 + 1) room - 1, by rw [filledL_length h]; omega, by omega, by omega⟩
theorem aheadL_length {V : List (List UInt8)} {f pos : Nat} (h : ∀ r ∈ V, r.length = 64) (hl : f + pos / 64 < V.length) : (aheadL V f pos).length = pos % 64 := by
  unfold aheadL
  rw [List.getD_eq_getElem?_getD, List.getElem?_eq_getElem hl, Option.getD_some, List.length_take, h _ (List.getElem_mem hl)]
  omega
theorem flat_take {K : List (List UInt8)} (h : ∀ r ∈ K, r.length = 64) (i : Nat) (hi : i ≤ K.length) : (K.take i).flatten = K.flatten.take (i * 64) := by
  have e : K.flatten = (K.take i).flatten ++ (K.drop i).flatten := by rw [← List.flatten_append, List.take_append_drop]
  have hl := take_flat_length h i hi
  rw [e, ← hl, List.take_left' rfl]
theorem flat_drop {K : List (List UInt8)} (h : ∀ r ∈ K, r.length = 64) (i : Nat) (hi : i ≤ K.length) : (K.drop i).flatten = K.flatten.drop (i * 64) := by
  have e : K.flatten = (K.take i).flatten ++ (K.drop i).flatten := by rw [← List.flatten_append, List.take_append_drop]
  have hl := take_flat_length h i hi
  rw [e, ← hl, List.drop_left' rfl]
theorem flat_ahead {K : List (List UInt8)} (h : ∀ r ∈ K, r.length = 64) (pos : Nat) (hi : pos / 64 < K.length) : K.flatten.take (pos / 64 * 64) ++ aheadL K 0 pos = K.flatten.take pos := by
  have e1 : aheadL K 0 pos = (K.flatten.drop (pos / 64 * 64)).take (pos % 64) := by
    rw [← flat_drop h _ (Nat.le_of_lt hi), List.drop_eq_getElem_cons hi, List.flatten_cons, List.take_append_of_le_length (by rw [h _ (List.getElem_mem hi)]; omega)]
    unfold aheadL
    rw [Nat.zero_add, List.getD_eq_getElem?_getD, List.getElem?_eq_getElem hi, Option.getD_some]
  rw [e1, ← List.take_add]
  congr 1
  omega
/-- what is laid from a place on -/
def laidL (V : List (List UInt8)) (f blocks pos : Nat) (code : List UInt8) : List UInt8 := filledL (aheadL V f pos ++ code) (blocks - pos / 64)
theorem laidL_rows {V : List (List UInt8)} {f blocks pos : Nat} {code : List UInt8} (h : ∀ r ∈ V, r.length = 64) (hf : f + blocks ≤ V.length) (h0 : 0 < code.length) (hfit : pos + code.length ≤ blocks * 64) :
    ∃ n, (laidL V f blocks pos code).length = (n + 1) * 64 ∧ pos / 64 + (n + 1) ≤ blocks ∧ n ≤ code.length / 64 + 1 := by
  have hl := aheadL_length h (f := f) (pos := pos) (by omega)
  obtain ⟨n, h1, h2, h3⟩ := filledL_rows (a := aheadL V f pos ++ code) (room := blocks - pos / 64) (by rw [List.length_append, hl]; omega) (by omega)
  refine ⟨n, h1, by omega, ?_⟩
  rw [List.length_append, hl] at h3
  omega
theorem laid_bytes {K : List (List UInt8)} {pos : Nat} {code : List UInt8} (h : ∀ r ∈ K, r.length = 64) (h0 : 0 < code.length) (hfit : pos + code.length ≤ K.length * 64) :
    ∃ t, (splice K (pos / 64) (rowsOf (laidL K 0 K.length pos code))).flatten = K.flatten.take pos ++ (code ++ t) ∧ (t = [] ∨ t.head? = some 0) := by
  obtain ⟨n, h1, h2, _⟩ := laidL_rows (f := 0) (blocks := K.length) h (by omega) h0 hfit
  have hl := aheadL_length h (f := 0) (pos := pos) (by omega)
  have hr : (rowsOf (laidL K 0 K.length pos code)).length = n + 1 := by rw [rowsOf_length, h1]; omega
  have hk : K.flatten.length = K.length * 64 := flat_length K h
  refine ⟨List.replicate (min ((aheadL K 0 pos ++ code).length / 64 + 1) (K.length - pos / 64) * 64 - (aheadL K 0 pos ++ code).length) 0 ++ K.flatten.drop ((pos / 64 + (n + 1)) * 64), ?_, ?_⟩
  · unfold splice
    rw [List.flatten_append, List.flatten_append, flat_take h _ (by omega), rowsOf_flat h1, hr, flat_drop h _ h2, ← flat_ahead h pos (by omega)]
    unfold laidL filledL
    simp only [List.append_assoc]
  · have ha : (aheadL K 0 pos ++ code).length = pos % 64 + code.length := by rw [List.length_append, hl]
    have h1' := h1
    unfold laidL at h1'
    rw [filledL_length (by omega)] at h1'
    generalize hz : min ((aheadL K 0 pos ++ code).length / 64 + 1) (K.length - pos / 64) * 64 - (aheadL K 0 pos ++ code).length = z
    rcases Nat.eq_zero_or_pos z with hz0 | hz0
    · left
      subst hz0
      rw [List.drop_eq_nil_of_le (by omega)]; rfl
    · right
      obtain ⟨z', rfl⟩ : ∃ z', z = z' + 1 := ⟨z - 1, by omega⟩
      rw [List.replicate_succ]; rfl
/-- blocks up to that of a place are as they were -/
theorem same_bytes {K K' : List (List UInt8)} {pos : Nat} (h : ∀ r ∈ K, r.length = 64) (h' : ∀ r ∈ K', r.length = 64) (hl : K'.length = K.length) (hp : pos < K.length * 64) (ht : K'.take (pos / 64 + 1) = K.take (pos / 64 + 1)) :
    K'.flatten.take (64 * (pos / 64 + 1)) = K.flatten.take (64 * (pos / 64 + 1)) ∧ ∃ t, K'.flatten = K.flatten.take pos ++ t ∧ t.head? = (K.flatten.drop pos).head? := by
  have e : K'.flatten.take ((pos / 64 + 1) * 64) = K.flatten.take ((pos / 64 + 1) * 64) := by
    rw [← flat_take h _ (by omega), ← flat_take h' _ (by omega), ht]
  have hk : K.flatten.length = K.length * 64 := flat_length K h
  have hk' : K'.flatten.length = K'.length * 64 := flat_length K' h'
  have get : ∀ j, j < (pos / 64 + 1) * 64 → K'.flatten[j]? = K.flatten[j]? := fun j hj => by
    have := congrArg (·[j]?) e
    simpa [List.getElem?_take, hj] using this
  refine ⟨by rw [Nat.mul_comm]; exact e, K'.flatten.drop pos, ?_, ?_⟩
  · have e2 : K'.flatten.take pos = K.flatten.take pos := by
      have := congrArg (List.take pos) e
      rwa [List.take_take, List.take_take, Nat.min_eq_left (by omega)] at this
    rw [← e2, List.take_append_drop]
  · rw [List.head?_drop, List.head?_drop]
    exact get pos (by omega)

/-! what a log's bytes are -/
def framesL (g : Int) : Nat → List (List UInt8) → List UInt8
  | _, [] => []
  | s, d :: ds => frameL g (s : Int) d ++ framesL g (s + 1) ds
def LogAt (g : Int) : Nat → List (List UInt8) → List UInt8 → Prop
  | _, [], b => b = [] ∨ b.head? = some 0
  | s, d :: ds, b => mayB g (s : Int) d.length = true ∧ ∃ t, b = frameL g (s : Int) d ++ t ∧ LogAt g (s + 1) ds t
theorem framesL_append (g : Int) : ∀ (ds es : List (List UInt8)) (s : Nat), framesL g s (ds ++ es) = framesL g s ds ++ framesL g (s + ds.length) es
  | [], _, _ => rfl
  | d :: ds, es, s => by
    rw [List.cons_append, framesL, framesL, framesL_append g ds es (s + 1), List.append_assoc, List.length_cons, Nat.add_assoc, Nat.add_comm 1]
theorem framesL_seq (g : Int) : ∀ (ds : List (List UInt8)) (s : Nat), ds.length ≤ (framesL g s ds).length
  | [], _ => Nat.zero_le _
  | d :: ds, s => by
    have := framesL_seq g ds (s + 1)
    have := frameL_pos g (s : Int) d
    rw [framesL, List.length_append, List.length_cons]; omega
theorem logAt_split {g : Int} : ∀ {ds : List (List UInt8)} {s : Nat} {b : List UInt8}, LogAt g s ds b → ∃ t, b = framesL g s ds ++ t ∧ (t = [] ∨ t.head? = some 0)
  | [], _, b, h => ⟨b, rfl, h⟩
  | d :: ds, s, b, ⟨_, t, hb, ht⟩ => by
    obtain ⟨u, hu, hh⟩ := logAt_split ht
    exact ⟨u, by rw [hb, hu, framesL, List.append_assoc], hh⟩
theorem logAt_swap {g : Int} : ∀ {ds : List (List UInt8)} {s : Nat} {b es : _} {t : List UInt8}, LogAt g s ds b → LogAt g (s + ds.length) es t → LogAt g s (ds ++ es) (framesL g s ds ++ t)
  | [], _, _, _, _, _, h => h
  | d :: ds, s, b, es, t, ⟨hm, u, _, hu⟩, h => by
    refine ⟨hm, framesL g (s + 1) ds ++ t, by rw [framesL, List.append_assoc], ?_⟩
    rw [List.length_cons] at h
    exact logAt_swap hu (by rwa [show s + 1 + ds.length = s + (ds.length + 1) by omega])
theorem logAt_take {g : Int} {ds : List (List UInt8)} {s : Nat} {b : List UInt8} (h : LogAt g s ds b) : b.take (framesL g s ds).length = framesL g s ds ∧ (framesL g s ds).length ≤ b.length ∧ (b.drop (framesL g s ds).length = [] ∨ (b.drop (framesL g s ds).length).head? = some 0) := by
  obtain ⟨t, rfl, ht⟩ := logAt_split h
  exact ⟨List.take_left' rfl, by rw [List.length_append]; omega, by rw [List.drop_left' rfl]; exact ht⟩

/-! what is read of bytes -/
def scanL (g : Int) (s : Nat) (b : List UInt8) : List (List UInt8) :=
  match h : decF b with
  | none => []
  | some f => if f.1 = g ∧ f.2.1 = (s : Int) then f.2.2 :: scanL g (s + 1) (b.drop (frameL f.1 f.2.1 f.2.2).length) else []
termination_by b.length
decreasing_by
  have h1 := decF_fits h
  have h2 := frameL_pos f.1 f.2.1 f.2.2
  rw [List.length_drop]; omega
theorem scanL_none {g : Int} {s : Nat} {b : List UInt8} (h : decF b = none) : scanL g s b = [] := by
  rw [scanL]
  split
  · rfl
  · rename_i h'; rw [h] at h'; cases h'
theorem scanL_some {g : Int} {s : Nat} {b : List UInt8} {f : Int × Int × List UInt8} (h : decF b = some f) : scanL g s b = if f.1 = g ∧ f.2.1 = (s : Int) then f.2.2 :: scanL g (s + 1) (b.drop (frameL f.1 f.2.1 f.2.2).length) else [] := by
  rw [scanL]
  split
  · rename_i h'; rw [h] at h'; cases h'
  · rename_i f' h'
    rw [h] at h'
    injection h' with h'
    rw [h']
theorem dec_zero {b : List UInt8} (h : b = [] ∨ b.head? = some 0) : decF b = none := by
  rcases h with rfl | h
  · exact dec_short (by simp)
  · cases b with
    | nil => cases h
    | cons x r =>
      rw [List.head?_cons] at h
      injection h with h
      exact dec_mark (by rw [h]; decide)
theorem scan_at {g : Int} : ∀ {ds : List (List UInt8)} {s : Nat} {b : List UInt8}, LogAt g s ds b → scanL g s b = ds
  | [], _, _, h => scanL_none (dec_zero h)
  | d :: ds, s, b, ⟨hm, t, hb, ht⟩ => by
    have hd : decF b = some (g, (s : Int), d) := by rw [hb]; exact dec_enc hm t
    rw [scanL_some hd, if_pos ⟨rfl, rfl⟩]
    simp only
    rw [hb, List.drop_left' rfl, scan_at ht]
theorem scan_fits (g : Int) : ∀ (n : Nat) (b : List UInt8) (s : Nat), b.length ≤ n → (framesL g s (scanL g s b)).length ≤ b.length
  | 0, b, s, h => by
    rw [scanL_none (dec_short (by omega))]; exact Nat.zero_le _
  | n + 1, b, s, h => by
    rcases hd : decF b with _ | f
    · rw [scanL_none hd]; exact Nat.zero_le _
    · rw [scanL_some hd]
      split
      · rename_i hf
        have h1 := decF_fits hd
        have h2 := frameL_pos f.1 f.2.1 f.2.2
        have ih := scan_fits g n (b.drop (frameL f.1 f.2.1 f.2.2).length) (s + 1) (by rw [List.length_drop]; omega)
        rw [List.length_drop] at ih
        have e : frameL g (s : Int) f.2.2 = frameL f.1 f.2.1 f.2.2 := by rw [hf.1, hf.2]
        rw [framesL, List.length_append, e]
        omega
      · exact Nat.zero_le _
/-- what Open finds -/
def openL (b : List UInt8) : Option (Int × List (List UInt8)) :=
  match decF b with
  | none => none
  | some f => if f.1 < 1 ∨ f.2.1 ≠ 0 then none else some (f.1, scanL f.1 0 b)
theorem open_at {g : Int} {d : List UInt8} {ds : List (List UInt8)} {b : List UInt8} (h : LogAt g 0 (d :: ds) b) (hg : 1 ≤ g) : openL b = some (g, d :: ds) := by
  have hs := scan_at h
  obtain ⟨hm, t, hb, _⟩ := h
  have hd : decF b = some (g, ((0 : Nat) : Int), d) := by rw [hb]; exact dec_enc hm t
  unfold openL
  rw [hd]
  simp only
  rw [if_neg (by omega), hs]
theorem open_some {b : List UInt8} {g : Int} {ds : List (List UInt8)} (h : openL b = some (g, ds)) : 1 ≤ g ∧ g ≤ 1152921504606846976 ∧ ds = scanL g 0 b ∧ ds ≠ [] := by
  unfold openL at h
  split at h
  · cases h
  · rename_i f hd
    split at h
    · cases h
    · rename_i hf
      injection h with h
      injection h with h1 h2
      have hm := mayB_true (decF_some hd).2.1
      subst h1
      refine ⟨by omega, hm.2.1, h2.symm, ?_⟩
      rw [← h2, scanL_some hd, if_pos ⟨rfl, by omega⟩]
      exact List.cons_ne_nil _ _
/-- where the first block is of an elder turn, a frame that is found is of that turn -/
theorem turn_old {d : List UInt8} {ds : List (List UInt8)} {b b' : List UInt8} (h : LogAt 1 0 (d :: ds) b) (hb : b'.take 64 = b.take 64) : openL b' = none ∨ ∃ es, openL b' = some (1, es) := by
  obtain ⟨hm, t, rfl, _⟩ := h
  have h5 := (mayB_true hm).2.2.2.2
  have hp := putL3 h5
  have hp0 := putL_pos d.length
  have w8 := wideI_length 1
  have w9 := wideI_length ((0 : Nat) : Int)
  obtain ⟨H, hH⟩ : ∃ H, H = 245 :: (putL d.length ++ (wideI 1 ++ wideI ((0 : Nat) : Int))) := ⟨_, rfl⟩
  have hl : H.length ≤ 64 := by rw [hH, List.length_cons, List.length_append, List.length_append, w8, w9]; omega
  have e1 : frameL 1 ((0 : Nat) : Int) d ++ t = H ++ (d ++ (sumOf (headL 1 ((0 : Nat) : Int) d) ++ t)) := by
    rw [hH]; simp only [frameL, headL, List.cons_append, List.append_assoc]
  rw [e1] at hb
  have e2 : b'.take H.length = H := by
    have := congrArg (List.take H.length) hb
    rw [List.take_take, List.take_take, Nat.min_eq_left hl, List.take_left' rfl] at this
    exact this
  obtain ⟨u, hu⟩ : ∃ u, b' = H ++ u := ⟨b'.drop H.length, by conv => { lhs; rw [← List.take_append_drop H.length b'] }; rw [e2]⟩
  rcases hd : decF b' with _ | f
  · left; unfold openL; rw [hd]
  · have hr := (decF_some hd).1
    rw [hu, hH, List.cons_append, readF] at hr
    simp only [List.append_assoc] at hr
    obtain ⟨_, _, _, _, f1, f2⟩ := readR_some hr
    rw [get_put0 _ d.length (by omega)] at f1 f2
    simp only [List.drop_left] at f1 f2
    have d1 : List.take 8 (wideI 1 ++ (wideI ((0 : Nat) : Int) ++ u)) = wideI 1 := by rw [← w8]; exact List.take_left' rfl
    have d2 : List.drop 8 (wideI 1 ++ (wideI ((0 : Nat) : Int) ++ u)) = wideI ((0 : Nat) : Int) ++ u := by rw [← w8]; exact List.drop_left' rfl
    have d3 : List.take 8 (wideI ((0 : Nat) : Int) ++ u) = wideI ((0 : Nat) : Int) := by rw [← w9]; exact List.take_left' rfl
    rw [d1, nar_wideI (by omega) (by omega)] at f1
    rw [d2, d3, nar_wideI (by omega) (by omega)] at f2
    right
    unfold openL
    rw [hd]
    simp only
    rw [if_neg (by omega), f1]
    exact ⟨_, rfl⟩

/-! the log itself -/
structure Lg where
  f : Nat
  blocks : Nat
  gen : Int
  seq : Nat
  fin : Nat
  down : Bool
structure Lg.Fits (l : Lg) (s : Dsk) : Prop where
  pos : 1 ≤ l.blocks
  area : l.f + l.blocks ≤ s.K.length
  fin : l.fin ≤ l.blocks * 64
  seq : l.seq ≤ l.fin
  gen1 : 1 ≤ l.gen
  gen2 : l.gen ≤ 1152921504606846976
namespace Lg
def room (l : Lg) : Nat := l.blocks * 64 - l.fin
def code (l : Lg) (d : List UInt8) : List UInt8 := encF l.gen (l.seq : Int) d
/-- it is not put -/
def full (l : Lg) (d : List UInt8) : Bool := decide ((l.code d).length = 0) || decide (l.room < (l.code d).length)
def laid (l : Lg) (s : Dsk) (d : List UInt8) : List UInt8 := laidL s.view l.f l.blocks l.fin (l.code d)
def err (l : Lg) (s : Dsk) (d : List UInt8) : Int := if l.down then 5 else if l.full d then 4 else s.layErr (l.laid s d) (l.f + l.fin / 64)
def dsk (l : Lg) (s : Dsk) (d : List UInt8) : Dsk := if l.down || l.full d then s else s.lay (l.laid s d) (l.f + l.fin / 64)
def put (l : Lg) (d : List UInt8) : Lg := { l with fin := l.fin + (l.code d).length, seq := l.seq + 1 }
def next (l : Lg) (s : Dsk) (d : List UInt8) : Lg := if l.down || l.full d then l else if l.err s d = 0 then l.put d else { l with down := true }
def new (f blocks : Nat) (gen : Int) : Lg := ⟨f, blocks, gen, 0, 0, false⟩
/-- of the log that Open finds -/
def found (f blocks : Nat) (gen : Int) (ds : List (List UInt8)) : Lg := ⟨f, blocks, gen, ds.length, (framesL gen 0 ds).length, false⟩
theorem code_fits (l : Lg) (d : List UInt8) : (l.code d).length ≤ 65560 := encF_fits _ _ _
theorem full_false {l : Lg} {d : List UInt8} (h : l.full d = false) : 0 < (l.code d).length ∧ (l.code d).length ≤ l.room ∧ mayB l.gen (l.seq : Int) d.length = true ∧ l.code d = frameL l.gen (l.seq : Int) d := by
  unfold full at h
  rw [Bool.or_eq_false_iff, decide_eq_false_iff_not, decide_eq_false_iff_not] at h
  have hm : mayB l.gen (l.seq : Int) d.length = true := by
    cases hm : mayB l.gen (l.seq : Int) d.length
    · exfalso; apply h.1; unfold code; rw [encF_not hm]; rfl
    · rfl
  exact ⟨by omega, by omega, hm, encF_may hm⟩
theorem rows {l : Lg} {s : Dsk} {d : List UInt8} (hf : l.Fits s) (ok : s.Ok) (h : l.full d = false) :
    ∃ n, (l.laid s d).length = (n + 1) * 64 ∧ l.fin / 64 + (n + 1) ≤ l.blocks ∧ n ≤ (l.code d).length / 64 + 1 := by
  obtain ⟨h0, h1, _, _⟩ := full_false h
  have h2 := hf.fin
  unfold room at h1
  exact laidL_rows (view_len ok) (by rw [view_length]; exact hf.area) h0 (by omega)
theorem Fits.next {l : Lg} {s : Dsk} {d : List UInt8} (hf : l.Fits s) : (l.next s d).Fits (l.dsk s d) ∧ (s.Ok → (l.dsk s d).Ok) ∧ (l.dsk s d).K.length = s.K.length := by
  have hK : (l.dsk s d).K.length = s.K.length := by
    unfold dsk
    split
    · rfl
    · exact Dsk.klen_lay _ _ _
  refine ⟨?_, fun ok => ?_, hK⟩
  · unfold Lg.next
    split
    · exact ⟨hf.pos, by rw [hK]; exact hf.area, hf.fin, hf.seq, hf.gen1, hf.gen2⟩
    · rename_i h
      rw [Bool.or_eq_true, not_or] at h
      have hfull : l.full d = false := by simpa using h.2
      obtain ⟨h0, h1, _, _⟩ := full_false hfull
      unfold room at h1
      have := hf.fin
      have := hf.seq
      split
      · exact ⟨hf.pos, by rw [hK]; exact hf.area, by show l.fin + _ ≤ l.blocks * 64; omega, by show l.seq + 1 ≤ l.fin + _; omega, hf.gen1, hf.gen2⟩
      · exact ⟨hf.pos, by rw [hK]; exact hf.area, hf.fin, hf.seq, hf.gen1, hf.gen2⟩
  · unfold dsk
    split
    · exact ok
    · rename_i h
      rw [Bool.or_eq_true, not_or] at h
      obtain ⟨n, h1, h2, _⟩ := rows hf ok (d := d) (by simpa using h.2)
      have := hf.area
      exact ok.lay h1 (by omega)
theorem few {l : Lg} {s : Dsk} {d : List UInt8} {m : Nat} (hf : l.Fits s) (ok : s.Ok) (h : s.Few m) : (l.dsk s d).Few (m + (l.code d).length / 64 + 4) := by
  unfold dsk
  split
  · exact h.mono (by omega)
  · rename_i hn
    rw [Bool.or_eq_true, not_or] at hn
    obtain ⟨n, h1, h2, h3⟩ := rows hf ok (d := d) (by simpa using hn.2)
    exact (h.lay h1).mono (by omega)
end Lg
end Go.Proofs.Ytkbjhnlihnakkaa
