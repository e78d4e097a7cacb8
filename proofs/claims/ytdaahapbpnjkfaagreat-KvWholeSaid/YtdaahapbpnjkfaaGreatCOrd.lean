/-
  The calls of a disk, whatever is asked: what they answer and what they leave, as functions of the disk. Conditions: as each says (fewer than 2^62 calls, at most 1,000,000 writes in the cache).
  Plain mathematics of layer 7, the disk's side: what writes leave of a disk, row by row; what laying bytes leaves, and what is there behind a crash. No program is run here. No conditions.
  What the program's checksum, and the document's, come to: one Lean function of the bytes. No conditions beyond how the bytes lie in memory.
  What Wide and Narrow, the program's and the document's, come to: one Lean function each. No conditions beyond how the bytes lie in memory.
  Plain mathematics: of two numbers the less has the less eight bytes; eight bytes say one number; a changed byte changes the checksum; signs, groups and digits are read as they were put. No conditions.
-/
import Derived.Test.YtdaahapbpnjkfaaGreatCDkCrash
import Derived.Deep.Slices
import Derived.Test.YtdaahapbpnjkfaaGreatChecked
import Derived.Test.YtdaahapbpnjkfaaGreatCFlat
namespace Go.Proofs.YtdaahapbpnjkfaaGreat
open Go.RowKit
namespace Dsk
def werr (s : Dsk) (i : Int) (n : Nat) : Int := if (0 ≤ i ∧ i < s.K.length) ∧ n = 64 then (if s.off then 5 else 0) else 1
def wput (s : Dsk) (i : Int) (l : List UInt8) : Dsk := if s.werr i l.length = 0 then s.write i.toNat l else s
def sput (s : Dsk) : Dsk := if s.off then s else s.sync
def Few (s : Dsk) (n : Nat) : Prop := s.calls ≤ n ∧ s.M.length ≤ n ∧ s.left < 9223372036854775808
theorem Few.wput {s : Dsk} {n : Nat} (h : s.Few n) (i : Int) (l : List UInt8) : (s.wput i l).Few (n + 1) := by
  unfold Dsk.wput
  split
  · refine ⟨Nat.succ_le_succ h.1, ?_, ?_⟩
    · show (s.M ++ [_]).length ≤ _; rw [List.length_append]; exact Nat.succ_le_succ h.2.1
    · show s.left - 1 < _; have := h.2.2; omega
  · exact ⟨Nat.le_succ_of_le h.1, Nat.le_succ_of_le h.2.1, h.2.2⟩
theorem Few.sput {s : Dsk} {n : Nat} (h : s.Few n) : s.sput.Few (n + 1) := by
  unfold Dsk.sput
  split
  · exact ⟨Nat.le_succ_of_le h.1, Nat.le_succ_of_le h.2.1, h.2.2⟩
  · exact ⟨Nat.succ_le_succ h.1, Nat.zero_le _, by show s.left - 1 < _; have := h.2.2; omega⟩
theorem Few.crash {s : Dsk} {n : Nat} (h : s.Few n) (p : Nat → Bool) : (s.crash p).Few n := ⟨h.1, Nat.zero_le _, by show 0 < _; decide⟩
theorem Few.arm {s : Dsk} {n : Nat} (h : s.Few n) (z : Int) (hz : z ≤ 9223372036854775807) : (s.arm z).Few n := by
  unfold Dsk.arm
  split
  · exact h
  · exact ⟨h.1, h.2.1, by show z.toNat < _; omega⟩
theorem Few.mono {s : Dsk} {n m : Nat} (h : s.Few n) (hm : n ≤ m) : s.Few m := ⟨Nat.le_trans h.1 hm, Nat.le_trans h.2.1 hm, h.2.2⟩
theorem Few.new (k : Nat) : (Dsk.new k).Few 0 := ⟨Nat.le_refl _, Nat.le_refl _, by show 0 < _; decide⟩
theorem klen_sput (s : Dsk) : s.sput.K.length = s.K.length := by
  unfold sput
  split
  · rfl
  · exact kept_length _ _ _ _
end Dsk
theorem write_all (w : World) (g : Nat) (F : Nat → Prop) (s : Dsk) (i : Int) (A : Option Addr) (l : List UInt8) (n c : Nat) (h : DiskAt w g F s) (hl : l.length = n) (hn : n ≤ 9223372036854775807) (hs : Seen w A l) (hf : s.Few 1000000) :
    Calls Tryz.prog 143 #[.pointer (some ⟨g, 0, none⟩), .int .i64 i, .slice A n c] w fun e w' => e = .returned (.int .i64 (s.werr i n)) ∧ Moved w g F (s.wput i l) w' := by
  by_cases h0 : (0 ≤ i ∧ i < s.K.length) ∧ n = 64
  · obtain ⟨h0, rfl⟩ := h0
    by_cases ho : s.off = true
    · have e1 : s.werr i 64 = 5 := by unfold Dsk.werr; rw [if_pos ⟨h0, rfl⟩, if_pos ho]
      have e2 : s.wput i l = s := by unfold Dsk.wput; rw [hl, e1]; rfl
      rw [e1, e2]
      refine (write_off w g F s i A c h h0 ho).mono ?_
      rintro e w' ⟨rfl, rfl⟩
      exact ⟨rfl, .still h (Below.refl _ _)⟩
    · have ho' : s.off = false := by cases hs : s.off <;> simp_all
      have e1 : s.werr i 64 = 0 := by unfold Dsk.werr; rw [if_pos ⟨h0, rfl⟩, if_neg ho]
      have e2 : s.wput i l = s.write i.toNat l := by unfold Dsk.wput; rw [hl, e1]; rfl
      rw [e1, e2]
      obtain ⟨k, rfl⟩ : ∃ k : Nat, i = (k : Int) := ⟨i.toNat, by omega⟩
      exact write_any w g F s k A l c h (by omega) ho' hl hs (by have := hf.1; omega) hf.2.2 hf.2.1
  · have e1 : s.werr i n = 1 := by unfold Dsk.werr; rw [if_neg h0]
    have e2 : s.wput i l = s := by unfold Dsk.wput; rw [hl, e1]; rfl
    rw [e1, e2]
    refine (write_arg w g F s i A n c h hn h0).mono ?_
    rintro e w' ⟨rfl, rfl⟩
    exact ⟨rfl, .still h (Below.refl _ _)⟩
theorem sync_all (w : World) (g : Nat) (F : Nat → Prop) (s : Dsk) (h : DiskAt w g F s) (hf : s.Few 1000000) :
    Calls Tryz.prog 144 #[.pointer (some ⟨g, 0, none⟩)] w fun e w' => e = .returned (.int .i64 (if s.off then 5 else 0)) ∧ Moved w g F s.sput w' := by
  unfold Dsk.sput
  by_cases ho : s.off = true
  · rw [if_pos ho, if_pos ho]
    refine (sync_off w g F s h ho).mono ?_
    rintro e w' ⟨rfl, rfl⟩
    exact ⟨rfl, .still h (Below.refl _ _)⟩
  · rw [if_neg ho, if_neg ho]
    exact sync_any w g F s h (by have := hf.1; omega) hf.2.2 (by cases hs : s.off <;> simp_all)
end Go.Proofs.YtdaahapbpnjkfaaGreat
namespace Go.Proofs.YtdaahapbpnjkfaaGreat
open Go.RowKit
def Dsk.view (s : Dsk) : List (List UInt8) := kept (fun _ => true) s.M s.K s.M.length
theorem view_length (s : Dsk) : s.view.length = s.K.length := kept_length _ _ _ _
theorem view_len {s : Dsk} (h : s.Ok) : ∀ r ∈ s.view, r.length = 64 := kept_len h.mem h.len _
theorem view_calm {s : Dsk} (h : s.M = []) : s.view = s.K := by unfold Dsk.view; rw [h]; rfl
theorem kept_untouched {pick : Nat → Bool} {M : List (Nat × List UInt8)} {K : List (List UInt8)} {i : Nat} : ∀ n, n ≤ M.length → (∀ j (hj : j < M.length), j < n → M[j].1 ≠ i) → (kept pick M K n)[i]? = K[i]?
  | 0, _, _ => rfl
  | n + 1, hn, h => by
    have ih := kept_untouched (pick := pick) (K := K) n (by omega) (fun j hj hlt => h j hj (by omega))
    rw [kept_step (by omega)]
    split
    · rw [List.getElem?_set_ne (h n (by omega) (by omega))]; exact ih
    · exact ih
theorem last_view {s : Dsk} (ok : s.Ok) {i : Nat} {x : List UInt8} (h : s.Last i x) : s.view[i]? = some x := by
  rcases h with ⟨k, hk, h1, h2, h3⟩ | ⟨h1, h2⟩
  · have key : ∀ n, k < n → n ≤ s.M.length → (kept (fun _ => true) s.M s.K n)[i]? = some x := by
      intro n
      induction n with
      | zero => intro h; omega
      | succ n ih =>
        intro hkn hn
        rw [kept_step (by omega), if_pos rfl]
        by_cases e : k = n
        · subst e
          rw [h1, h2]
          exact List.getElem?_set_self (by rw [kept_length, ← h1]; exact ok.num _ (List.getElem_mem hk))
        · rw [List.getElem?_set_ne (h3 n (by omega) (by omega))]
          exact ih (by omega) (by omega)
    exact key _ hk (Nat.le_refl _)
  · rw [← h2]; exact kept_untouched _ (Nat.le_refl _) (fun j hj _ => h1 j hj)
def Dsk.bytes (s : Dsk) (f n : Nat) : List UInt8 := ((s.view.drop f).take n).flatten
namespace Dsk
def pw (s : Dsk) (i : Nat) (r : List UInt8) : Dsk := if s.off then s else s.write i r
def puts : Dsk → Nat → List (List UInt8) → Dsk
  | s, _, [] => s
  | s, i, r :: R => puts (s.pw i r) (i + 1) R
def putAll (s : Dsk) (i : Nat) (R : List (List UInt8)) : Dsk := if R = [] then s else (s.puts i R).sput
def putErr (s : Dsk) (i : Nat) (R : List (List UInt8)) : Int := if R = [] then 0 else if (s.puts i R).off then 5 else 0
theorem pw_off {s : Dsk} (h : s.off = true) (i : Nat) (r : List UInt8) : s.pw i r = s := if_pos h
theorem puts_off : ∀ (R : List (List UInt8)) (s : Dsk) (i : Nat), s.off = true → s.puts i R = s
  | [], _, _, _ => rfl
  | r :: R, s, i, h => by rw [puts, pw_off h]; exact puts_off R s (i + 1) h
theorem puts_append : ∀ (R S : List (List UInt8)) (s : Dsk) (i : Nat), s.puts i (R ++ S) = (s.puts i R).puts (i + R.length) S
  | [], _, _, _ => rfl
  | r :: R, S, s, i => by
    rw [List.cons_append, puts, puts, puts_append R S, List.length_cons, Nat.add_assoc, Nat.add_comm 1]
theorem puts_step {s : Dsk} {i : Nat} {R : List (List UInt8)} {k : Nat} (h : k < R.length) : s.puts i (R.take (k + 1)) = (s.puts i (R.take k)).pw (i + k) R[k] := by
  rw [List.take_succ_eq_append_getElem h, puts_append, List.length_take, Nat.min_eq_left (by omega)]
  rfl
theorem puts_stop {s : Dsk} {i : Nat} {R : List (List UInt8)} {k : Nat} (h : (s.puts i (R.take k)).off = true) : s.puts i R = s.puts i (R.take k) := by
  have e := puts_append (R.take k) (R.drop k) s i
  rw [List.take_append_drop] at e
  rw [e]
  exact puts_off _ _ _ h
theorem pw_K (s : Dsk) (i : Nat) (r : List UInt8) : (s.pw i r).K = s.K := by unfold pw; split <;> rfl
theorem puts_K : ∀ (R : List (List UInt8)) (s : Dsk) (i : Nat), (s.puts i R).K = s.K
  | [], _, _ => rfl
  | r :: R, s, i => by rw [puts, puts_K R]; exact pw_K s i r
theorem Ok.pw {s : Dsk} (h : s.Ok) {i : Nat} {r : List UInt8} (hi : i < s.K.length) (hr : r.length = 64) : (s.pw i r).Ok := by
  unfold Dsk.pw
  split
  · exact h
  · exact h.write hi hr
theorem Ok.puts : ∀ {R : List (List UInt8)} {s : Dsk} {i : Nat}, s.Ok → i + R.length ≤ s.K.length → (∀ r ∈ R, r.length = 64) → (s.puts i R).Ok
  | [], _, _, h, _, _ => h
  | r :: R, s, i, h, hi, hr => by
    rw [List.length_cons] at hi
    rw [Dsk.puts]
    exact Ok.puts (h.pw (by omega) (hr r (by simp))) (by rw [pw_K]; omega) (fun x hx => hr x (by simp [hx]))
theorem Ok.sput {s : Dsk} (h : s.Ok) : s.sput.Ok := by
  unfold Dsk.sput
  split
  · exact h
  · exact h.sync
theorem Ok.putAll {s : Dsk} (h : s.Ok) {i : Nat} {R : List (List UInt8)} (hi : i + R.length ≤ s.K.length) (hr : ∀ r ∈ R, r.length = 64) : (s.putAll i R).Ok := by
  unfold Dsk.putAll
  split
  · exact h
  · exact (h.puts hi hr).sput
theorem klen_putAll (s : Dsk) (i : Nat) (R : List (List UInt8)) : (s.putAll i R).K.length = s.K.length := by
  unfold putAll
  split
  · rfl
  · rw [klen_sput, puts_K]
theorem Few.pw {s : Dsk} {n : Nat} (h : s.Few n) (i : Nat) (r : List UInt8) : (s.pw i r).Few (n + 1) := by
  unfold Dsk.pw
  split
  · exact h.mono (Nat.le_succ n)
  · refine ⟨Nat.succ_le_succ h.1, ?_, ?_⟩
    · show (s.M ++ [_]).length ≤ _; rw [List.length_append]; exact Nat.succ_le_succ h.2.1
    · show s.left - 1 < _; have := h.2.2; omega
theorem Few.puts : ∀ {R : List (List UInt8)} {s : Dsk} {i n : Nat}, s.Few n → (s.puts i R).Few (n + R.length)
  | [], _, _, _, h => h
  | r :: R, s, i, n, h => by
    rw [Dsk.puts, List.length_cons]
    have := (h.pw i r).puts (R := R) (i := i + 1)
    rwa [show n + 1 + R.length = n + (R.length + 1) by omega] at this
theorem Few.putAll {s : Dsk} {n : Nat} (h : s.Few n) (i : Nat) (R : List (List UInt8)) : (s.putAll i R).Few (n + R.length + 1) := by
  unfold Dsk.putAll
  split
  · exact h.mono (by omega)
  · exact h.puts.sput
theorem wput_pw {s : Dsk} {i : Nat} {l : List UInt8} (h : i < s.K.length) (hl : l.length = 64) : s.wput (i : Int) l = s.pw i l ∧ s.werr (i : Int) 64 = (if s.off then 5 else 0) := by
  have e : s.werr (i : Int) 64 = (if s.off then 5 else 0) := by unfold werr; rw [if_pos ⟨⟨by omega, by omega⟩, rfl⟩]
  refine ⟨?_, e⟩
  unfold wput pw
  rw [hl, e]
  cases s.off
  · rfl
  · rfl
def Quiet (s : Dsk) : Prop := s.off = false ∧ s.left = 0
theorem Quiet.pw {s : Dsk} (h : s.Quiet) (i : Nat) (r : List UInt8) : (s.pw i r).Quiet := by
  unfold Dsk.pw
  rw [h.1]
  refine ⟨?_, ?_⟩
  · show (if 0 < s.left then _ else s.off) = false
    rw [h.2]; exact h.1
  · show s.left - 1 = 0
    rw [h.2]
theorem Quiet.puts : ∀ {R : List (List UInt8)} {s : Dsk} {i : Nat}, s.Quiet → (s.puts i R).Quiet
  | [], _, _, h => h
  | r :: R, s, i, h => by rw [Dsk.puts]; exact (h.pw i r).puts
theorem Quiet.sput {s : Dsk} (h : s.Quiet) : s.sput.Quiet := by
  unfold Dsk.sput
  rw [h.1]
  refine ⟨?_, ?_⟩
  · show (if 0 < s.left then _ else s.off) = false
    rw [h.2]; exact h.1
  · show s.left - 1 = 0
    rw [h.2]
theorem Quiet.putAll {s : Dsk} (h : s.Quiet) (i : Nat) (R : List (List UInt8)) : (s.putAll i R).Quiet := by
  unfold Dsk.putAll
  split
  · exact h
  · exact h.puts.sput
theorem calls_pw (s : Dsk) (i : Nat) (r : List UInt8) : s.calls ≤ (s.pw i r).calls := by
  unfold Dsk.pw
  split
  · exact Nat.le_refl _
  · exact Nat.le_succ _
theorem calls_puts : ∀ (R : List (List UInt8)) (s : Dsk) (i : Nat), s.calls ≤ (s.puts i R).calls
  | [], _, _ => Nat.le_refl _
  | r :: R, s, i => by rw [Dsk.puts]; exact Nat.le_trans (calls_pw s i r) (calls_puts R _ _)
theorem calls_sput (s : Dsk) : s.calls ≤ s.sput.calls ∧ (s.off = false → s.calls < s.sput.calls) := by
  unfold Dsk.sput
  cases h : s.off
  · exact ⟨Nat.le_succ _, fun _ => Nat.lt_succ_self _⟩
  · exact ⟨Nat.le_refl _, fun h => by cases h⟩
theorem calls_putAll (s : Dsk) (i : Nat) (R : List (List UInt8)) : s.calls ≤ (s.putAll i R).calls := by
  unfold Dsk.putAll
  split
  · exact Nat.le_refl _
  · exact Nat.le_trans (calls_puts R s i) (calls_sput _).1
end Dsk
def rowsM : Nat → List (List UInt8) → List (Nat × List UInt8)
  | _, [] => []
  | i, r :: R => (i, r) :: rowsM (i + 1) R
theorem rowsM_le : ∀ (R : List (List UInt8)) (i : Nat), ∀ p ∈ rowsM i R, i ≤ p.1
  | [], _, p, hp => by cases hp
  | r :: R, i, p, hp => by
    rcases List.mem_cons.1 hp with rfl | hp
    · exact Nat.le_refl _
    · exact Nat.le_of_succ_le (rowsM_le R (i + 1) p hp)
theorem puts_M : ∀ (R : List (List UInt8)) (s : Dsk) (i : Nat), ∃ n, n ≤ R.length ∧ (s.puts i R).M = s.M ++ rowsM i (R.take n) ∧ ((s.puts i R).off = false → n = R.length)
  | [], s, i => ⟨0, Nat.le_refl _, by simp [Dsk.puts, rowsM], fun _ => rfl⟩
  | r :: R, s, i => by
    by_cases ho : s.off = true
    · rw [Dsk.puts_off _ _ _ ho]
      exact ⟨0, Nat.zero_le _, by simp [rowsM], fun h => by rw [ho] at h; cases h⟩
    · have e : s.pw i r = s.write i r := if_neg ho
      obtain ⟨n, h1, h2, h3⟩ := puts_M R (s.write i r) (i + 1)
      rw [Dsk.puts, e]
      refine ⟨n + 1, Nat.succ_le_succ h1, ?_, fun h => by rw [h3 h]; rfl⟩
      rw [h2, List.take_succ_cons, rowsM]
      show (s.M ++ [(i, r)]) ++ _ = _
      rw [List.append_assoc]; rfl
theorem kept_cons {p : Nat × List UInt8} {M : List (Nat × List UInt8)} {K : List (List UInt8)} : ∀ n, kept (fun _ => true) (p :: M) K (n + 1) = kept (fun _ => true) M (K.set p.1 p.2) n
  | 0 => rfl
  | n + 1 => by
    have ih := kept_cons (p := p) (M := M) (K := K) n
    rw [kept, ih]
    simp only [List.getElem?_cons_succ]
    rfl
theorem kept_rows : ∀ (R : List (List UInt8)) (i : Nat) (K : List (List UInt8)), i + R.length ≤ K.length → kept (fun _ => true) (rowsM i R) K (rowsM i R).length = splice K i R
  | [], i, K, _ => by simp [rowsM, kept, splice]
  | r :: R, i, K, h => by
    rw [List.length_cons] at h
    rw [rowsM, List.length_cons, kept_cons, kept_rows R (i + 1) _ (by rw [List.length_set]; omega)]
    exact splice_one K i r R h
theorem splice_nil {α : Type} (K : List α) (i : Nat) : splice K i [] = K := by simp [splice]
theorem splice_length' {α : Type} (K : List α) (i : Nat) (R : List α) (h : i + R.length ≤ K.length) : (splice K i R).length = K.length := by
  unfold splice
  simp only [List.length_append, List.length_take, List.length_drop]
  omega
theorem splice_two {α : Type} (K : List α) (i : Nat) (r : α) (R : List α) (h : i + 1 + R.length ≤ K.length) : splice (splice K (i + 1) R) i [r] = splice K i (r :: R) := by
  unfold splice
  have l1 : (K.take (i + 1)).length = i + 1 := by rw [List.length_take]; omega
  have e1 : (K.take (i + 1) ++ (R ++ K.drop (i + 1 + R.length))).take i = K.take i := by
    rw [List.take_append_of_le_length (by omega), List.take_take, Nat.min_eq_left (by omega)]
  have e2 : (K.take (i + 1) ++ (R ++ K.drop (i + 1 + R.length))).drop (i + [r].length) = R ++ K.drop (i + 1 + R.length) :=
    List.drop_left' l1
  rw [e1, e2, List.length_cons]
  simp only [List.cons_append, List.nil_append]
  rw [show i + (R.length + 1) = i + 1 + R.length by omega]
namespace Dsk
theorem putAll_done {s : Dsk} {i : Nat} {R : List (List UInt8)} (hM : s.M = []) (hi : i + R.length ≤ s.K.length) (he : s.putErr i R = 0) : (s.putAll i R).M = [] ∧ (s.putAll i R).K = splice s.K i R := by
  unfold putErr at he
  unfold putAll
  by_cases hR : R = []
  · subst hR; rw [if_pos rfl]; exact ⟨hM, (splice_nil _ _).symm⟩
  · rw [if_neg hR] at he ⊢
    obtain ⟨n, h1, h2, h3⟩ := puts_M R s i
    have hoff : (s.puts i R).off = false := by cases h : (s.puts i R).off <;> simp_all
    rw [h3 hoff, List.take_length, hM, List.nil_append] at h2
    have hs : (s.puts i R).sput = (s.puts i R).sync := by unfold sput; rw [hoff]; rfl
    rw [hs]
    refine ⟨rfl, ?_⟩
    show kept _ (s.puts i R).M (s.puts i R).K (s.puts i R).M.length = _
    rw [h2, puts_K]
    exact kept_rows R i s.K hi
theorem putAll_not {s : Dsk} {i : Nat} {R : List (List UInt8)} (hM : s.M = []) (he : s.putErr i R ≠ 0) : s.putErr i R = 5 ∧ (s.putAll i R).off = true ∧ (s.putAll i R).K = s.K ∧ ∃ n, n ≤ R.length ∧ (s.putAll i R).M = rowsM i (R.take n) := by
  unfold putErr at he ⊢
  unfold putAll
  by_cases hR : R = []
  · rw [if_pos hR] at he; exact absurd rfl he
  · rw [if_neg hR] at he ⊢
    rw [if_neg hR]
    obtain ⟨n, h1, h2, h3⟩ := puts_M R s i
    have hoff : (s.puts i R).off = true := by cases h : (s.puts i R).off <;> simp_all
    rw [hM, List.nil_append] at h2
    have hs : (s.puts i R).sput = s.puts i R := if_pos hoff
    rw [hs]
    exact ⟨if_pos hoff, hoff, puts_K R s i, n, h1, h2⟩
end Dsk
def rowsOf (b : List UInt8) : List (List UInt8) := (List.range (b.length / 64)).map (chunk b)
theorem rowsOf_length (b : List UInt8) : (rowsOf b).length = b.length / 64 := by simp [rowsOf]
theorem rowsOf_len (b : List UInt8) : ∀ r ∈ rowsOf b, r.length = 64 := fun r hr => by
  obtain ⟨k, hk, rfl⟩ := List.mem_map.1 hr
  have := List.mem_range.1 hk
  unfold chunk
  rw [List.length_take, List.length_drop]
  omega
theorem rowsOf_get {b : List UInt8} {k : Nat} (h : k < (rowsOf b).length) : (rowsOf b)[k] = chunk b k := by simp [rowsOf]
theorem rowsOf_flat {b : List UInt8} {n : Nat} (h : b.length = n * 64) : (rowsOf b).flatten = b :=
  chunks_flat n b (rowsOf b) h (by rw [rowsOf_length]; omega) (fun i hi => by
    rw [List.getElem?_eq_getElem (by rw [rowsOf_length]; omega), rowsOf_get])
theorem rowsOf_cons {b : List UInt8} {n : Nat} (h : b.length = (n + 1) * 64) : rowsOf b = b.take 64 :: rowsOf (b.drop 64) := by
  unfold rowsOf
  rw [show b.length / 64 = n + 1 by omega, List.range_succ_eq_map, List.map_cons, List.map_map, List.length_drop, show (b.length - 64) / 64 = n by omega]
  congr 1
  apply List.map_congr_left
  intro k _
  show chunk b (k + 1) = chunk (b.drop 64) k
  unfold chunk
  rw [List.drop_drop, show (k + 1) * 64 = 64 + k * 64 by omega]
theorem rowsOf_one {b : List UInt8} (h : b.length = 64) : rowsOf b = [b] := by
  have e := rowsOf_cons (n := 0) (b := b) (by omega)
  rw [e, List.take_of_length_le (by omega)]
  have : b.drop 64 = [] := List.drop_eq_nil_of_le (by omega)
  rw [this]; rfl
namespace Dsk
def lay (s : Dsk) (b : List UInt8) (i : Nat) : Dsk := (s.putAll (i + 1) (rowsOf (b.drop 64))).putAll i (rowsOf (b.take 64))
def layErr (s : Dsk) (b : List UInt8) (i : Nat) : Int := (s.putAll (i + 1) (rowsOf (b.drop 64))).putErr i (rowsOf (b.take 64))
theorem lay_off {s : Dsk} {b : List UInt8} {i n : Nat} (h : s.off = true) (hb : b.length = (n + 1) * 64) : s.lay b i = s ∧ s.layErr b i = 5 := by
  have h1 : ∀ (s : Dsk) (R : List (List UInt8)) (i : Nat), s.off = true → s.putAll i R = s := fun s R i h => by
    unfold putAll
    split
    · rfl
    · rw [puts_off R s i h]; exact if_pos h
  unfold lay layErr
  rw [h1 s _ _ h, h1 s _ _ h]
  refine ⟨rfl, ?_⟩
  unfold putErr
  rw [rowsOf_one (by rw [List.length_take]; omega), if_neg (by simp), puts_off _ _ _ h, if_pos h]
theorem lay_first {s : Dsk} {b : List UInt8} {i n : Nat} (hb : b.length = (n + 1) * 64) (h : s.putErr (i + 1) (rowsOf (b.drop 64)) ≠ 0) :
    s.putErr (i + 1) (rowsOf (b.drop 64)) = 5 ∧ s.lay b i = s.putAll (i + 1) (rowsOf (b.drop 64)) ∧ s.layErr b i = 5 := by
  have h5 : s.putErr (i + 1) (rowsOf (b.drop 64)) = 5 ∧ (s.putAll (i + 1) (rowsOf (b.drop 64))).off = true := by
    unfold putErr at h ⊢
    unfold putAll
    by_cases hR : rowsOf (b.drop 64) = []
    · rw [if_pos hR] at h; exact absurd rfl h
    · rw [if_neg hR] at h ⊢
      rw [if_neg hR]
      have hoff : (s.puts (i + 1) (rowsOf (b.drop 64))).off = true := by cases h : (s.puts (i + 1) (rowsOf (b.drop 64))).off <;> simp_all
      refine ⟨if_pos hoff, ?_⟩
      unfold sput
      rw [if_pos hoff]; exact hoff
  refine ⟨h5.1, ?_⟩
  have h1 : ∀ (s : Dsk) (R : List (List UInt8)) (i : Nat), s.off = true → s.putAll i R = s := fun s R i h => by
    unfold putAll
    split
    · rfl
    · rw [puts_off R s i h]; exact if_pos h
  refine ⟨h1 _ _ _ h5.2, ?_⟩
  unfold layErr putErr
  rw [rowsOf_one (by rw [List.length_take]; omega), if_neg (by simp), puts_off _ _ _ h5.2, if_pos h5.2]
theorem lay_done {s : Dsk} {b : List UInt8} {i n : Nat} (hM : s.M = []) (hb : b.length = (n + 1) * 64) (hi : i + (n + 1) ≤ s.K.length) (he : s.layErr b i = 0) : (s.lay b i).M = [] ∧ (s.lay b i).K = splice s.K i (rowsOf b) := by
  have hr : (rowsOf (b.drop 64)).length = n := by rw [rowsOf_length, List.length_drop]; omega
  have h0 : s.putErr (i + 1) (rowsOf (b.drop 64)) = 0 := by
    by_cases h : s.putErr (i + 1) (rowsOf (b.drop 64)) = 0
    · exact h
    · have := (lay_first hb h).2.2; omega
  obtain ⟨m1, k1⟩ := putAll_done hM (by rw [hr]; omega) h0
  have e1 := rowsOf_one (b := b.take 64) (by rw [List.length_take]; omega)
  unfold layErr at he
  obtain ⟨m2, k2⟩ := putAll_done m1 (by rw [e1, klen_putAll]; simp; omega) he
  refine ⟨m2, ?_⟩
  unfold lay
  rw [k2, k1, e1, rowsOf_cons hb]
  exact splice_two s.K i _ _ (by rw [hr]; omega)
theorem lay_not {s : Dsk} {b : List UInt8} {i n : Nat} (hM : s.M = []) (hb : b.length = (n + 1) * 64) (hi : i + (n + 1) ≤ s.K.length) (he : s.layErr b i ≠ 0) :
    s.layErr b i = 5 ∧ (s.lay b i).off = true ∧ ∀ pick, ((s.lay b i).crash pick).K = splice s.K i (rowsOf b) ∨ (((s.lay b i).crash pick).K.length = s.K.length ∧ ((s.lay b i).crash pick).K.take (i + 1) = s.K.take (i + 1)) := by
  have hr : (rowsOf (b.drop 64)).length = n := by rw [rowsOf_length, List.length_drop]; omega
  have same : ∀ (t : Dsk) (pick : Nat → Bool), t.K = s.K → (∀ p ∈ t.M, i + 1 ≤ p.1) → (t.crash pick).K.length = s.K.length ∧ (t.crash pick).K.take (i + 1) = s.K.take (i + 1) := fun t pick hK hm => by
    have hl : (t.crash pick).K.length = s.K.length := by show (kept _ _ _ _).length = _; rw [kept_length, hK]
    refine ⟨hl, List.ext_getElem? fun j => ?_⟩
    by_cases hj : j < i + 1
    · rw [List.getElem?_take_of_lt hj, List.getElem?_take_of_lt hj]
      show (kept _ t.M t.K t.M.length)[j]? = _
      rw [kept_untouched _ (Nat.le_refl _) (fun q hq _ => by have := hm _ (List.getElem_mem hq); omega), hK]
    · rw [List.getElem?_eq_none (by rw [List.length_take]; omega), List.getElem?_eq_none (by rw [List.length_take]; omega)]
  by_cases h0 : s.putErr (i + 1) (rowsOf (b.drop 64)) = 0
  · obtain ⟨m1, k1⟩ := putAll_done hM (by rw [hr]; omega) h0
    have e1 := rowsOf_one (b := b.take 64) (by rw [List.length_take]; omega)
    unfold layErr at he ⊢
    unfold lay
    generalize s.putAll (i + 1) (rowsOf (b.drop 64)) = s1 at *
    obtain ⟨h5, hoff, hK, q, hq, hm⟩ := putAll_not m1 he
    refine ⟨h5, hoff, fun pick => ?_⟩
    rw [e1] at hm hK ⊢
    have htk : s1.K.take (i + 1) = s.K.take (i + 1) := by
      rw [k1]; unfold splice
      try simp only [List.append_assoc]
      rw [List.take_append_of_le_length (by rw [List.length_take]; omega), List.take_take, Nat.min_self]
    have hlen : s1.K.length = s.K.length := by rw [k1]; exact splice_length' _ _ _ (by rw [hr]; omega)
    rw [e1] at hq
    simp only [List.length_cons, List.length_nil] at hq
    rcases Nat.eq_zero_or_pos q with hq0 | hq0
    · right
      subst hq0
      have : ((s1.putAll i [b.take 64]).crash pick).K = s1.K := by
        show kept _ (s1.putAll i [b.take 64]).M (s1.putAll i [b.take 64]).K (s1.putAll i [b.take 64]).M.length = _
        rw [hm, hK]; rfl
      rw [this]; exact ⟨hlen, htk⟩
    · obtain rfl : q = 1 := by omega
      have : ((s1.putAll i [b.take 64]).crash pick).K = if pick 0 then s1.K.set i (b.take 64) else s1.K := by
        show kept _ (s1.putAll i [b.take 64]).M (s1.putAll i [b.take 64]).K (s1.putAll i [b.take 64]).M.length = _
        rw [hm, hK]
        show kept pick [(i, b.take 64)] s1.K 1 = _
        rfl
      rw [this]
      cases pick 0
      · right; exact ⟨hlen, htk⟩
      · left
        show s1.K.set i (b.take 64) = _
        rw [rowsOf_cons hb, ← splice_two s.K i _ _ (by rw [hr]; omega), ← k1]
        have := splice_one s1.K i (b.take 64) [] (by simp; omega)
        rw [← this, splice_nil]
  · obtain ⟨h5, e, e5⟩ := lay_first hb h0
    obtain ⟨_, hoff, hK, q, hq, hm⟩ := putAll_not hM h0
    rw [e, e5]
    refine ⟨rfl, hoff, fun pick => .inr (same _ pick hK (fun p hp => ?_))⟩
    rw [hm] at hp
    exact rowsM_le _ _ p hp
theorem Ok.lay {s : Dsk} {b : List UInt8} {i n : Nat} (h : s.Ok) (hb : b.length = (n + 1) * 64) (hi : i + (n + 1) ≤ s.K.length) : (s.lay b i).Ok := by
  have hr : (rowsOf (b.drop 64)).length = n := by rw [rowsOf_length, List.length_drop]; omega
  have hr1 : (rowsOf (b.take 64)).length = 1 := by rw [rowsOf_length, List.length_take]; omega
  exact (h.putAll (by rw [hr]; omega) (rowsOf_len _)).putAll (by rw [hr1, klen_putAll]; omega) (rowsOf_len _)
theorem klen_lay (s : Dsk) (b : List UInt8) (i : Nat) : (s.lay b i).K.length = s.K.length := by unfold lay; rw [klen_putAll, klen_putAll]
theorem Few.lay {s : Dsk} {b : List UInt8} {i n m : Nat} (h : s.Few m) (hb : b.length = (n + 1) * 64) : (s.lay b i).Few (m + n + 3) := by
  have hr : (rowsOf (b.drop 64)).length = n := by rw [rowsOf_length, List.length_drop]; omega
  have hr1 : (rowsOf (b.take 64)).length = 1 := by rw [rowsOf_length, List.length_take]; omega
  have := (h.putAll (i + 1) (rowsOf (b.drop 64))).putAll i (rowsOf (b.take 64))
  rw [hr, hr1] at this
  exact this.mono (by omega)
theorem Quiet.lay {s : Dsk} (h : s.Quiet) {b : List UInt8} {i n : Nat} (hb : b.length = (n + 1) * 64) : (s.lay b i).Quiet ∧ s.layErr b i = 0 ∧ s.calls < (s.lay b i).calls := by
  have q1 := h.putAll (i + 1) (rowsOf (b.drop 64))
  have q2 : ((s.putAll (i + 1) (rowsOf (b.drop 64))).puts i (rowsOf (b.take 64))).Quiet := q1.puts
  have e1 := rowsOf_one (b := b.take 64) (by rw [List.length_take]; omega)
  refine ⟨q1.putAll _ _, ?_, ?_⟩
  · unfold Dsk.layErr Dsk.putErr
    rw [q2.1]
    simp
  · unfold Dsk.lay
    have h1 := calls_putAll s (i + 1) (rowsOf (b.drop 64))
    generalize s.putAll (i + 1) (rowsOf (b.drop 64)) = s1 at *
    have h2 := calls_puts (rowsOf (b.take 64)) s1 i
    have h3 := (calls_sput (s1.puts i (rowsOf (b.take 64)))).2 q2.1
    have e : s1.putAll i (rowsOf (b.take 64)) = (s1.puts i (rowsOf (b.take 64))).sput := if_neg (by rw [e1]; simp)
    rw [e]
    omega
end Dsk
end Go.Proofs.YtdaahapbpnjkfaaGreat
namespace Go.Proofs.YtdaahapbpnjkfaaGreat
open Go.RowKit
def crcStep (x : Nat) : Nat := if x % 2 = 1 then (x / 2) ^^^ 3988292384 else x / 2
def crcK (x : Nat) : Nat → Nat
  | 0 => x
  | k + 1 => crcStep (crcK x k)
def crcL : List UInt8 → Nat → Nat
  | [], x => x
  | c :: r, x => crcL r (crcK (x ^^^ c.toNat) 8)
def crcOf (l : List UInt8) : Nat := crcL l 4294967295 ^^^ 4294967295
theorem crcStep_lt {x : Nat} (h : x < 4294967296) : crcStep x < 4294967296 := by
  unfold crcStep
  split
  · exact Nat.xor_lt_two_pow (n := 32) (by omega) (by omega)
  · omega
theorem crcK_lt {x : Nat} (h : x < 4294967296) : ∀ k, crcK x k < 4294967296
  | 0 => h
  | k + 1 => crcStep_lt (crcK_lt h k)
theorem crcL_snoc (l : List UInt8) (c : UInt8) : ∀ x, crcL (l ++ [c]) x = crcK (crcL l x ^^^ c.toNat) 8 := by
  induction l with
  | nil => intro x; rfl
  | cons d r ih => intro x; simp only [List.cons_append, crcL]; exact ih _
theorem xor_byte_lt {x : Nat} (h : x < 4294967296) (c : UInt8) : x ^^^ c.toNat < 4294967296 :=
  Nat.xor_lt_two_pow (n := 32) (by omega) (by have := c.toNat_lt; omega)
theorem crcL_lt (l : List UInt8) : ∀ x, x < 4294967296 → crcL l x < 4294967296 := by
  induction l with
  | nil => intro x h; exact h
  | cons d r ih => intro x h; exact ih _ (crcK_lt (xor_byte_lt h d) 8)
theorem take_more (l : List UInt8) (k : Nat) (h : k < l.length) : l.take (k + 1) = l.take k ++ [l[k]] := by
  rw [List.take_succ_eq_append_getElem h]
set_option maxHeartbeats 400000 in
theorem crcByte_any (x : Nat) (hx : x < 4294967296) (w : World) :
    Calls Tryz.prog 142 #[.int .u32 (x : Int)] w fun e w' =>
      e = .returned (.int .u32 (crcK x 8 : Nat)) ∧ w = w' := by
  go_enter Tryz.func142, Tryz.ntmps142
  go_wp2
  go_loop [0, 4] (fun s i => ∃ k y : Nat, k ≤ 8 ∧ i = .int .i64 k ∧ y < 4294967296 ∧ s = .int .u32 y ∧ Hid (y = crcK x k)) (fun _ i => 8 - (intOf i).toNat)
  case atStart => exact ⟨0, x, by omega, rfl, hx, rfl, rfl⟩
  case round =>
    obtain ⟨k, y, hk, rfl, hy, rfl, H⟩ := hrel
    have hn : Hid (crcK x (k + 1) = crcStep y) := by show crcStep (crcK x k) = _; rw [H.out]
    by_cases hlt : k < 8
    · have e1 : bits .and .u32 (y : Int) 1 = ((y % 2 : Nat) : Int) := by
        rw [show (1 : Int) = ((1 : Nat) : Int) from rfl, u32_and_nat y 1 hy (by omega), nat_mask1]
      have e2 : bits .xor .u32 ((y : Int) / 2) 3988292384 = (((y / 2) ^^^ 3988292384 : Nat) : Int) := by
        rw [show (3988292384 : Int) = ((3988292384 : Nat) : Int) from rfl, show (y : Int) / 2 = ((y / 2 : Nat) : Int) from by omega, u32_xor_nat (y / 2) 3988292384 (by omega) (by omega)]
      by_cases ho : y % 2 = 1
      · have t1 : (((y % 2 : Nat) : Int) == 1) = true := by rw [ho]; rfl
        go_wp2
        go_round
        case rel => exact ⟨k + 1, crcStep y, by omega, by go_num, crcStep_lt hy, by rw [crcStep, if_pos ho], hn.out.symm⟩
        case measure => simp [intOf]; omega
      · have t1 : (((y % 2 : Nat) : Int) == 1) = false := by rw [show y % 2 = 0 by omega]; rfl
        go_wp2
        go_round
        case rel => exact ⟨k + 1, crcStep y, by omega, by go_num, crcStep_lt hy, by rw [crcStep, if_neg ho]; go_num, hn.out.symm⟩
        case measure => simp [intOf]; omega
    · go_wp2
      go_ret
      exact ⟨ret_int (by rw [H.out, show k = 8 by omega]), rfl⟩
set_option maxHeartbeats 400000 in
theorem crc_any (A : Option Addr) (l : List UInt8) (c : Nat) (w : World) (hl : l.length ≤ 9223372036854775807) (hs : Seen w A l) :
    Calls Tryz.prog 118 #[.slice A l.length c] w fun e w' =>
      e = .returned (.int .u32 (crcOf l : Nat)) ∧ w = w' := by
  have HS := Lib.hid hs
  clear hs
  go_enter Tryz.func118, Tryz.ntmps118
  go_wp2
  go_loop [3, 8] (fun s i => ∃ k y : Nat, k ≤ l.length ∧ i = .int .i64 k ∧ y < 4294967296 ∧ s = .int .u32 y ∧ Hid (y = crcL (l.take k) 4294967295)) (fun _ i => l.length - (intOf i).toNat)
  case atStart => exact ⟨0, 4294967295, by omega, rfl, by omega, rfl, rfl⟩
  case round =>
    obtain ⟨k, y, hk, rfl, hy, rfl, H⟩ := hrel
    by_cases hlt : k < l.length
    · obtain ⟨b, off, rfl, hb, hc⟩ := HS.out.at_ hlt
      have hn : Hid (crcL (l.take (k + 1)) 4294967295 = crcK (y ^^^ l[k].toNat) 8) := by
        rw [take_more l k hlt]; show _ = _; rw [crcL_snoc, H.out]
      have hx := xor_byte_lt hy l[k]
      have h8 := l[k].toNat_lt
      generalize l[k].toNat = x at *
      have e2 : bits .xor .u32 (y : Int) (x : Int) = ((y ^^^ x : Nat) : Int) := u32_xor_nat y x hy (by omega)
      go_wp2_with fail
      refine (crcByte_any (y ^^^ x) hx _).mono ?_
      rintro e w' ⟨rfl, rfl⟩
      go_wp2_with fail
      go_round
      case rel => exact ⟨k + 1, _, by omega, by go_num, crcK_lt hx 8, rfl, hn.out.symm⟩
      case measure => simp [intOf]; omega
    · have hk' : l.take k = l := List.take_of_length_le (by omega)
      have hn : Hid (bits .xor .u32 IntKind.u32.max (y : Int) = ((crcOf l : Nat) : Int)) := by
        show _ = _
        rw [show IntKind.u32.max = ((4294967295 : Nat) : Int) from by decide, u32_xor_nat 4294967295 y (by omega) hy, crcOf, Nat.xor_comm, H.out, hk']
      clear hk'
      go_wp2_with fail
      go_ret
      exact ⟨ret_int hn.out, rfl⟩
end Go.Proofs.YtdaahapbpnjkfaaGreat
namespace Go.Proofs.YtdaahapbpnjkfaaGreat
open Go.RowKit
theorem info8 : (Tryz.prog.info? 5).map (fun i => (i.zero, i.size, i.bytes)) = some (some (.int .u8 0), 1, 1) := by kernel_rfl
def nar : List UInt8 → Nat → Nat
  | [], x => x
  | c :: r, x => nar r (256 * x + c.toNat)
theorem nar_snoc (l : List UInt8) (c : UInt8) : ∀ x, nar (l ++ [c]) x = 256 * nar l x + c.toNat := by
  induction l with
  | nil => intro x; rfl
  | cons d r ih => intro x; simp only [List.cons_append, nar]; exact ih _
theorem nar_lt (l : List UInt8) : ∀ x k, x < 256 ^ k → nar l x < 256 ^ (k + l.length) := by
  induction l with
  | nil => intro x k h; exact h
  | cons d r ih =>
    intro x k h
    have := ih (256 * x + d.toNat) (k + 1) (by have := d.toNat_lt; rw [Nat.pow_succ]; omega)
    simpa [nar, Nat.add_assoc, Nat.add_comm 1] using this
def wb (u j : Nat) : Nat := u / 256 ^ (7 - j) % 256
def wideOf (u : Nat) : List UInt8 := (List.range 8).map fun j => UInt8.ofNat (wb u j)
theorem nar_small {l : List UInt8} {k : Nat} (h : k ≤ 7) : nar (l.take k) 0 < 72057594037927936 := by
  have h1 := nar_lt (l.take k) 0 0 (by omega)
  have h2 : 256 ^ (0 + (l.take k).length) ≤ 256 ^ 7 := Nat.pow_le_pow_right (by omega) (by have := List.length_take_le k l; omega)
  have h3 : 256 ^ 7 = 72057594037927936 := by decide
  omega
theorem take_next (l : List UInt8) (k : Nat) (h : k < l.length) : l.take (k + 1) = l.take k ++ [l[k]] := by
  rw [List.take_succ_eq_append_getElem h]
set_option maxHeartbeats 400000 in
theorem narrow_any (A : Option Addr) (l : List UInt8) (c : Nat) (w : World) (hl : l.length = 8) (hs : Seen w A l) :
    Calls Tryz.prog 167 #[.slice A l.length c] w fun e w' =>
      e = .returned (.tuple #[.int .i64 (wrap64 (nar l 0 : Nat)), .int .i64 0]) ∧ w = w' := by
  have HS := Lib.hid hs
  have hle : l.length ≤ 8 := by omega
  have hge : 8 ≤ l.length := by omega
  have t0 : ((l.length : Int) != 8) = false := by simp [hl]
  clear hs hl
  go_enter Tryz.func167, Tryz.ntmps167
  go_wp2
  go_loop [4, 12] (fun s i => ∃ k y : Nat, k ≤ l.length ∧ i = .int .i64 k ∧ s = .int .u64 y ∧ Hid (y = nar (l.take k) 0)) (fun _ i => l.length - (intOf i).toNat)
  case atStart => exact ⟨0, 0, by omega, rfl, rfl, rfl⟩
  case round =>
    obtain ⟨k, y, hk, rfl, rfl, H⟩ := hrel
    by_cases hlt : k < l.length
    · obtain ⟨b, off, rfl, hb, hc⟩ := HS.out.at_ hlt
      have hy : y < 72057594037927936 := by rw [H.out]; exact nar_small (by omega)
      have h8 := l[k].toNat_lt
      have hn : Hid (256 * y + l[k].toNat = nar (l.take (k + 1)) 0) := by rw [take_next l k hlt]; show _ = _; rw [nar_snoc, H.out]
      generalize l[k].toNat = x at *
      have e2 : bits .or .u64 ((y : Int) * 256) (x : Int) = ((256 * y + x : Nat) : Int) := by
        rw [show (y : Int) * 256 = ((y * 256 : Nat) : Int) from by omega, u64_or_nat (y * 256) x (by omega) (by omega), nat_join 8 (y * 256) x (by omega) (by omega)]; omega
      go_wp2_with fail
      go_round
      case rel => exact ⟨k + 1, _, by omega, by go_num, rfl, hn.out⟩
      case measure => simp [intOf]; omega
    · have hn : Hid (y = nar l 0) := by show _ = _; rw [H.out, List.take_of_length_le (by omega)]
      go_wp2_with fail
      go_ret2
      exact ⟨by rw [← hn.out]; rfl, rfl⟩
theorem make8 (w : World) : (Instr.makeSlice 22 (.int .i64 8) (.int .i64 8)).run Tryz.prog w = .ok (.slice (some ⟨w.heap.size, 0, none⟩) 8 8) (w.alloc (.cells (madeCells #[.int .u8 0] 8) 5)) :=
  run_make_row' (P := Tryz.prog) 22 5 (.int .u8 0) 1 Tryz.underlying22 info8 rfl .i64 .i64 8 (by omega) (by omega) w
def wcell (u k j : Nat) : Value := if 8 ≤ k + j then .int .u8 (wb u j : Nat) else .int .u8 0
theorem wb_end (u k : Nat) (hk : k < 8) : wb u (7 - k) = u / 256 ^ k % 256 := by
  unfold wb; rw [show 7 - (7 - k) = k by omega]
theorem wb_shift (u k : Nat) (hk : k < 8) : (u : Int) / 2 ^ (8 * k) % 256 = ((wb u (7 - k) : Nat) : Int) := by
  rw [wb_end u k hk, show 256 ^ k = 2 ^ (8 * k) from by rw [Nat.pow_mul], Int.natCast_emod, Int.natCast_ediv, Int.natCast_pow]; rfl
theorem wcell_next (u k : Nat) (hk : k < 8) (j : Nat) (_hj : j < 8) : (if j = 7 - k then Value.int .u8 (wb u (7 - k) : Nat) else wcell u k j) = wcell u (k + 1) j := by
  by_cases e : j = 7 - k
  · subst e; rw [if_pos rfl, wcell, if_pos (by omega)]
  · rw [if_neg e, wcell, wcell]
    by_cases h : 8 ≤ k + j
    · rw [if_pos h, if_pos (by omega)]
    · rw [if_neg h, if_neg (by omega)]
theorem wide_seen {w : World} {g : Nat} {t : TypeId} {u k : Nat} (h : w.rowIs g t 8 (wcell u k)) (hk : 8 ≤ k) : Seen w (some ⟨g, 0, none⟩) (wideOf u) :=
  Seen.of_row h (by simp [wideOf]) (fun i hi => by
    rw [wcell, if_pos (by omega)]
    simp [wideOf]
    have : wb u i < 256 := Nat.mod_lt _ (by omega)
    omega)
set_option maxHeartbeats 400000 in
theorem wide_any (n : Int) (w : World) :
    Calls Tryz.prog 117 #[.int .i64 n] w fun e w' =>
      ∃ A, e = .returned (.slice A 8 8) ∧ Seen w' A (wideOf (n % 18446744073709551616).toNat) ∧ Below w.heap.size w w' := by
  have hmk := make8
  obtain ⟨u, hu⟩ : ∃ u : Nat, u = (n % 18446744073709551616).toNat := ⟨_, rfl⟩
  have ew : IntKind.u64.wrap n = (u : Int) := by rw [IntKind.wrap_u64]; omega
  have hlt : u < 18446744073709551616 := by omega
  have HU := Lib.hid hu
  clear hu
  go_enter Tryz.func117, Tryz.ntmps117
  go_wp2_with fail
  clear hmk ew
  go_loopw [9] (fun i wr => ∃ k : Nat, k ≤ 8 ∧ i = .int .i64 k ∧ wr.rowIs w.heap.size 5 8 (wcell u k) ∧ Below w.heap.size w wr) (fun i _ => 8 - (intOf i).toNat)
  case atStart => exact ⟨0, by omega, rfl, (World.rowIs_made w (.int .u8 0) 8 5).congr (fun i hi => by rw [wcell, if_neg (by omega)]), (Below.refl _ _).alloc (Nat.le_refl _) _⟩
  case round =>
    obtain ⟨k, hk, rfl, hrow, hbel⟩ := hrel
    have HR := Lib.hid hrow
    have HB := Lib.hid hbel
    by_cases h8 : k < 8
    · have hc : wr.cell? ⟨w.heap.size, 7 - k, none⟩ = some (wcell u k (7 - k)) := hrow.cell (by omega)
      have hf : wr.frozen? ⟨w.heap.size, 7 - k, none⟩ = false := hrow.frozen _
      clear hrow hbel
      go_wp2_with fail
      go_roundw
      case rel =>
        rw [wb_shift u k h8]
        exact ⟨k + 1, by omega, by go_num, (HR.out.set (7 - k) _).congr (wcell_next u k h8), HB.out.setCell (Nat.le_refl _) _⟩
      case measure => simp [intOf]; omega
    · clear hrow hbel
      go_wp2_with fail
      go_ret
      exact ⟨_, rfl, by rw [← HU.out]; exact wide_seen HR.out (by omega), HB.out⟩
end Go.Proofs.YtdaahapbpnjkfaaGreat
namespace Go.Proofs.YtdaahapbpnjkfaaGreat
theorem nar_wide (u : Nat) (h : u < 18446744073709551616) : nar (wideOf u) 0 = u := by
  have e : List.range 8 = [0, 1, 2, 3, 4, 5, 6, 7] := by decide
  unfold wideOf
  rw [e]
  simp only [List.map_cons, List.map_nil, nar, wb, UInt8.toNat_ofNat', Nat.reduceSub, Nat.reducePow, Nat.mod_mod]
  omega
theorem wideOf_length (u : Nat) : (wideOf u).length = 8 := by simp [wideOf]
end Go.Proofs.YtdaahapbpnjkfaaGreat
