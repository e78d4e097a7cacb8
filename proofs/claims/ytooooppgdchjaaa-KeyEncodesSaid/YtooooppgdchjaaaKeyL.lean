/-
  Composite keys as Lean functions of lists of bytes, and what is plain of them: the parts are read back, keys sort as the lists do, what begins with a prefix. No program is named here.
-/
import Derived.Test.YtooooppgdchjaaaMem
namespace Go.Proofs.Ytooooppgdchjaaa

/-- a byte of a part -/
def escL (p : List UInt8) : List UInt8 := p.flatMap fun c => if c = 0 then [0, 255] else [c]
/-- a part, and its end -/
def partL (p : List UInt8) : List UInt8 := escL p ++ [0, 1]
/-- the key of parts -/
def encL (ps : List (List UInt8)) : List UInt8 := ps.flatMap partL
/-- the parts behind ps, of which one is read as far as p -/
def decL : List UInt8 → List UInt8 → List (List UInt8) → Option (List (List UInt8))
  | [], p, ps => if p = [] then some ps else none
  | [_], _, _ => none
  | c :: d :: r, p, ps => if c = 0 then (if d = 255 then decL r (p ++ [0]) ps else if d = 1 then decL r [] (ps ++ [p]) else none) else decL (d :: r) (p ++ [c]) ps

@[simp] theorem escL_nil : escL [] = [] := rfl
theorem escL_cons (c : UInt8) (p : List UInt8) : escL (c :: p) = (if c = 0 then [0, 255] else [c]) ++ escL p := rfl
theorem escL_append (p q : List UInt8) : escL (p ++ q) = escL p ++ escL q := List.flatMap_append
theorem encL_cons (p : List UInt8) (ps : List (List UInt8)) : encL (p :: ps) = partL p ++ encL ps := rfl
theorem encL_append (a b : List (List UInt8)) : encL (a ++ b) = encL a ++ encL b := List.flatMap_append
theorem escL_one (c : UInt8) : escL [c] = if c = 0 then [0, 255] else [c] := by simp [escL]
theorem length_escL (p : List UInt8) : (escL p).length ≤ 2 * p.length := by
  induction p with
  | nil => simp
  | cons c p ih => rw [escL_cons]; split <;> simp <;> omega
theorem length_partL (p : List UInt8) : (partL p).length ≤ 2 * p.length + 2 := by
  have := length_escL p
  simp [partL]; omega
/-- at most n parts of at most m bytes -/
theorem length_encL {m : Nat} : ∀ (ps : List (List UInt8)), (∀ p ∈ ps, p.length ≤ m) → (encL ps).length ≤ ps.length * (2 * m + 2)
  | [], _ => by simp [encL]
  | p :: ps, h => by
    have h1 := length_encL ps (fun q hq => h q (by simp [hq]))
    have h2 := length_partL p
    have h3 := h p (by simp)
    rw [encL_cons, List.length_append, List.length_cons, Nat.add_mul]
    omega

/-! what is read step by step -/
theorem dec_byte {c : UInt8} (r p : List UInt8) (ps : List (List UInt8)) (h : c ≠ 0) : decL (c :: r) p ps = decL r (p ++ [c]) ps := by
  cases r with
  | nil => simp [decL]
  | cons d r => rw [decL, if_neg h]
theorem dec_nought (p : List UInt8) (ps : List (List UInt8)) : decL [0] p ps = none := rfl
theorem dec_two (d : UInt8) (r p : List UInt8) (ps : List (List UInt8)) : decL (0 :: d :: r) p ps = if d = 255 then decL r (p ++ [0]) ps else if d = 1 then decL r [] (ps ++ [p]) else none := by
  rw [decL, if_pos rfl]
theorem dec_end (p : List UInt8) (ps : List (List UInt8)) : decL [] p ps = if p = [] then some ps else none := rfl

theorem dec_esc (q r p : List UInt8) (ps : List (List UInt8)) : decL (escL q ++ r) p ps = decL r (p ++ q) ps := by
  induction q generalizing p with
  | nil => simp
  | cons c q ih =>
    rw [escL_cons]
    by_cases h : c = 0
    · subst h
      rw [if_pos rfl, List.append_assoc]
      show decL (0 :: 255 :: (escL q ++ r)) p ps = _
      rw [dec_two, if_pos rfl, ih, List.append_assoc]
      rfl
    · rw [if_neg h, List.append_assoc]
      show decL (c :: (escL q ++ r)) p ps = _
      rw [dec_byte _ _ _ h, ih, List.append_assoc]
      rfl
theorem dec_enc_on (qs ps : List (List UInt8)) : decL (encL qs) [] ps = some (ps ++ qs) := by
  induction qs generalizing ps with
  | nil => simp [encL, decL]
  | cons q qs ih =>
    rw [encL_cons, partL, List.append_assoc, dec_esc]
    show decL (0 :: 1 :: encL qs) ([] ++ q) ps = _
    rw [dec_two, if_neg (by decide), if_pos rfl, ih]
    simp
/-- the parts of a key are those that were put into it -/
theorem dec_enc (ps : List (List UInt8)) : decL (encL ps) [] [] = some ps := by rw [dec_enc_on]; rfl
theorem enc_dec_on (b p : List UInt8) (ps qs : List (List UInt8)) (h : decL b p ps = some qs) : encL ps ++ escL p ++ b = encL qs := by
  fun_induction decL b p ps with
  | case1 ps => simp at h; subst h; simp
  | case2 p ps hp => simp at h
  | case3 => simp at h
  | case4 p ps r ih =>
    have := ih h
    rw [escL_append] at this
    rw [← this]; simp [escL]
  | case5 p ps r hne ih =>
    have := ih h
    rw [encL_append] at this
    rw [← this]; simp [encL, partL]
  | case6 => simp at h
  | case7 c d r p ps hc ih =>
    have := ih h
    rw [escL_append] at this
    rw [← this]; simp [escL, hc]
/-- bytes that are a key's are the key of the parts that they are -/
theorem enc_dec {b : List UInt8} {qs : List (List UInt8)} (h : decL b [] [] = some qs) : encL qs = b := by
  have := enc_dec_on b [] [] qs h
  simpa [encL] using this.symm
theorem dec_length (b p : List UInt8) (ps qs : List (List UInt8)) (h : decL b p ps = some qs) : qs.length ≤ ps.length + b.length ∧ ∀ m, (∀ q ∈ ps, q.length ≤ m) → p.length + b.length ≤ m → ∀ q ∈ qs, q.length ≤ m := by
  fun_induction decL b p ps with
  | case1 ps => simp at h; subst h; exact ⟨by simp, fun m h1 _ => h1⟩
  | case2 p ps hp => simp at h
  | case3 => simp at h
  | case4 p ps r ih =>
    have := ih h
    exact ⟨by simp; omega, fun m h1 h2 => this.2 m h1 (by simp at h2 ⊢; omega)⟩
  | case5 p ps r hne ih =>
    have := ih h
    refine ⟨by simp at this ⊢; omega, fun m h1 h2 => this.2 m ?_ (by simp at h2 ⊢; omega)⟩
    intro q hq
    rcases List.mem_append.1 hq with hq | hq
    · exact h1 q hq
    · simp at hq; subst hq; simp at h2; omega
  | case6 => simp at h
  | case7 c d r p ps hc ih =>
    have := ih h
    exact ⟨by simp at this ⊢; omega, fun m h1 h2 => this.2 m h1 (by simp at h2 ⊢; omega)⟩

end Go.Proofs.Ytooooppgdchjaaa
