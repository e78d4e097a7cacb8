/-
  What writes, a Sync and a crash leave of uniform blocks: lists alone.
-/
import Derived.Test.YtfcbkefpjfmgjaaDiskSyncs
import Derived.Deep.Slices
namespace Go.Proofs.Ytfcbkefpjfmgjaa
open Go.RowKit

/-- all blocks are 64 bytes of one -/
def Uni (s : Dsk) : Prop := (∀ r ∈ s.K, ∃ c : UInt8, r = List.replicate 64 c) ∧ (∀ p ∈ s.M, ∃ c : UInt8, p.2 = List.replicate 64 c)
theorem Uni.new (n : Nat) : Uni (Dsk.new n) := ⟨fun r hr => ⟨0, List.eq_of_mem_replicate hr⟩, fun p hp => by simp [Dsk.new] at hp⟩
theorem Uni.wput {s : Dsk} (h : Uni s) (i : Int) (c : UInt8) : Uni (s.wput i (List.replicate 64 c)) := by
  unfold Dsk.wput
  split
  · refine ⟨h.1, fun p hp => ?_⟩
    rcases List.mem_append.1 hp with hp | hp
    · exact h.2 p hp
    · rw [List.mem_singleton.1 hp]; exact ⟨c, rfl⟩
  · exact h
theorem kept_mem {pick : Nat → Bool} {M : List (Nat × List UInt8)} {K : List (List UInt8)} : ∀ n, ∀ r ∈ kept pick M K n, r ∈ K ∨ ∃ p ∈ M, r = p.2
  | 0, r, hr => .inl hr
  | n + 1, r, hr => by
    have ih := kept_mem (pick := pick) (M := M) (K := K) n
    simp only [kept] at hr
    split at hr
    · rename_i p hp
      split at hr
      · rcases List.mem_or_eq_of_mem_set hr with h | rfl
        · exact ih r h
        · exact .inr ⟨p, List.mem_of_getElem? hp, rfl⟩
      · exact ih r hr
    · exact ih r hr
theorem Uni.sync {s : Dsk} (h : Uni s) : Uni s.sync := by
  refine ⟨fun r hr => ?_, fun p hp => by simp [Dsk.sync, Dsk.did] at hp⟩
  rcases kept_mem _ r hr with h1 | ⟨p, hp, rfl⟩
  · exact h.1 r h1
  · exact h.2 p hp
/-- what is kept of a block is what was there, or what was written to it -/
theorem kept_either {pick : Nat → Bool} {M : List (Nat × List UInt8)} {K : List (List UInt8)} (k : Nat) : ∀ n, (kept pick M K n)[k]? = K[k]? ∨ ∃ p ∈ M, p.1 = k ∧ (kept pick M K n)[k]? = some p.2
  | 0 => .inl rfl
  | n + 1 => by
    have ih := kept_either (pick := pick) (M := M) (K := K) k n
    simp only [kept]
    split
    · rename_i p hp
      split
      · by_cases hk : p.1 = k
        · subst hk
          by_cases hl : p.1 < (kept pick M K n).length
          · exact .inr ⟨p, List.mem_of_getElem? hp, rfl, List.getElem?_set_self hl⟩
          · left
            rw [List.getElem?_eq_none (by rw [List.length_set]; omega)]
            rw [kept_length] at hl
            rw [List.getElem?_eq_none (by omega)]
        · rw [List.getElem?_set_ne hk]; exact ih
      · exact ih
    · exact ih
/-- the cache, behind the first k of the numbers -/
def Wrote (K : List (List UInt8)) (lb : List Int) (s : Dsk) (k : Nat) : Prop :=
  s.K = K ∧ ∀ p ∈ s.M, ∃ j, j < k ∧ lb[j]? = some (p.1 : Int) ∧ p.2 = List.replicate 64 (UInt8.ofNat ((j : Int) + 101).toNat)
theorem Wrote.put {K : List (List UInt8)} {lb : List Int} {s : Dsk} {k : Nat} (h : Wrote K lb s k) (hk : k < lb.length) : Wrote K lb (s.wput lb[k] (List.replicate 64 (UInt8.ofNat ((k : Int) + 101).toNat))) (k + 1) := by
  have hold : ∀ p ∈ s.M, ∃ j, j < k + 1 ∧ lb[j]? = some (p.1 : Int) ∧ p.2 = List.replicate 64 (UInt8.ofNat ((j : Int) + 101).toNat) := fun p hp => by
    obtain ⟨j, hj, h1, h2⟩ := h.2 p hp
    exact ⟨j, by omega, h1, h2⟩
  unfold Dsk.wput
  split
  · rename_i he
    have h0 := (Dsk.werr_zero.1 he).1
    refine ⟨h.1, fun p hp => ?_⟩
    rcases List.mem_append.1 hp with hp | hp
    · exact hold p hp
    · rw [List.mem_singleton.1 hp]
      refine ⟨k, by omega, ?_, rfl⟩
      rw [List.getElem?_eq_getElem hk]
      congr 1
      show lb[k] = ((lb[k].toNat : Nat) : Int)
      omega
  · exact ⟨h.1, hold⟩
/-- the byte of a block -/
theorem uni_bytes {K : List (List UInt8)} (h : ∀ r ∈ K, ∃ c : UInt8, r = List.replicate 64 c) : ∃ X : Nat → UInt8, ∀ k, k < K.length → K[k]? = some (List.replicate 64 (X k)) := by
  have each : ∀ k, k < K.length → ∃ c : UInt8, K[k]? = some (List.replicate 64 c) := fun k hk => by
    obtain ⟨c, hc⟩ := h K[k] (List.getElem_mem hk)
    exact ⟨c, by rw [List.getElem?_eq_getElem hk, hc]⟩
  exact Go.Deep.choose_lt each
/-- a byte, and a block, of an image -/
theorem image_at {K : List (List UInt8)} {X : Nat → UInt8} (h : ∀ k, k < K.length → K[k]? = some (List.replicate 64 (X k))) (k : Nat) (hk : k < K.length) : K.flatten[k * 64]? = some (X k) ∧ (K.flatten.drop (k * 64)).take 64 = List.replicate 64 (X k) := by
  have hm : ∀ r ∈ K, r.length = 64 := fun r hr => by
    obtain ⟨i, hi, rfl⟩ := List.getElem_of_mem hr
    have := h i hi
    rw [List.getElem?_eq_getElem hi] at this
    injection this with this
    rw [this]; simp
  have hkk : K[k] = List.replicate 64 (X k) := by
    have := h k hk
    rw [List.getElem?_eq_getElem hk] at this
    injection this
  constructor
  · have e := flat_at K k 0 hk hm (by rw [hkk]; simp)
    rw [Nat.add_zero] at e
    rw [e]
    congr 1
    simp [hkk]
  · have e : K.flatten = (K.take k).flatten ++ (K[k] ++ (K.drop (k + 1)).flatten) := by
      conv => lhs; rw [← List.take_append_drop k K, List.flatten_append, List.drop_eq_getElem_cons hk, List.flatten_cons]
    have hl : (K.take k).flatten.length = k * 64 := by
      rw [flat_length (m := 64) _ (fun r hr => hm r (List.mem_of_mem_take hr)), List.length_take, Nat.min_eq_left (Nat.le_of_lt hk)]
    rw [e, ← hl, List.drop_left, hkk]
    have h64 : (List.replicate 64 (X k)).length = 64 := List.length_replicate
    conv => lhs; arg 1; rw [← h64]
    rw [List.take_left]
/-- was there one of the first j that says so -/
def hit (x y : UInt8) (lb : List Int) (k : Nat) : Nat → Bool
  | 0 => decide (x = y)
  | j + 1 => hit x y lb k j || (decide (lb.getD j 0 = (k : Int)) && decide ((y.toNat : Int) = (j : Int) + 101))
theorem hit_zero (x y : UInt8) (lb : List Int) (k : Nat) : ((x.toNat : Int) == (y.toNat : Int)) = hit x y lb k 0 := by
  unfold hit
  rw [Bool.eq_iff_iff, beq_iff_eq, decide_eq_true_iff]
  constructor
  · intro h; exact UInt8.toNat.inj (by omega)
  · rintro rfl; rfl
theorem hit_succ (x y : UInt8) (lb : List Int) (k j : Nat) (hj : j < lb.length) : hit x y lb k (j + 1) = (hit x y lb k j || (decide (lb[j] = (k : Int)) && decide ((y.toNat : Int) = (j : Int) + 101))) := by
  rw [hit, List.getD_eq_getElem?_getD, List.getElem?_eq_getElem hj]; rfl
theorem hit_true {x y : UInt8} {lb : List Int} {k : Nat} : ∀ {n j : Nat}, j < n → lb.getD j 0 = (k : Int) → (y.toNat : Int) = (j : Int) + 101 → hit x y lb k n = true
  | n + 1, j, hj, h1, h2 => by
    unfold hit
    rcases Nat.lt_or_ge j n with h | h
    · rw [hit_true h h1 h2]; rfl
    · obtain rfl : j = n := by omega
      rw [decide_eq_true h1, decide_eq_true h2]; simp
theorem hit_same {x y : UInt8} {lb : List Int} {k : Nat} (h : x = y) : ∀ n, hit x y lb k n = true
  | 0 => decide_eq_true h
  | n + 1 => by unfold hit; rw [hit_same h n]; rfl
/-- what the law asks of each block -/
theorem keeps_hit {K1 : List (List UInt8)} {lb : List Int} {s : Dsk} {pick : Nat → Bool} {X Y : Nat → UInt8} (hw : Wrote K1 lb s lb.length) (hlb : lb.length ≤ 60) (hX : ∀ k, k < K1.length → K1[k]? = some (List.replicate 64 (X k))) (hY : ∀ k, k < (s.crash pick).K.length → (s.crash pick).K[k]? = some (List.replicate 64 (Y k)))
    (k : Nat) (hk : k < K1.length) : hit (X k) (Y k) lb k lb.length = true := by
  have hlen : (s.crash pick).K.length = K1.length := by rw [klen_crash, hw.1]
  have hy := hY k (by rw [hlen]; exact hk)
  have hinj : ∀ a b : UInt8, List.replicate 64 a = List.replicate 64 b → a = b := fun a b e => by
    have := congrArg (fun l : List UInt8 => l[0]?) e
    simpa using this
  rcases kept_either (pick := pick) (M := s.M) (K := s.K) k s.M.length with h | ⟨p, hp, hpk, h⟩
  · have e : (s.crash pick).K[k]? = K1[k]? := by rw [← hw.1]; exact h
    rw [hy, hX k hk] at e
    injection e with e
    exact hit_same (hinj _ _ e.symm) _
  · obtain ⟨j, hj, h1, h2⟩ := hw.2 p hp
    have e : (s.crash pick).K[k]? = some p.2 := h
    rw [hy, h2] at e
    injection e with e
    have e := hinj _ _ e
    refine hit_true hj (by rw [List.getD_eq_getElem?_getD, h1, hpk]; rfl) ?_
    rw [e, UInt8.toNat_ofNat']
    omega
end Go.Proofs.Ytfcbkefpjfmgjaa
