/-
  What the document's Encode comes to. Condition: the key is at most 2^47 bytes.
  A list of lists of bytes that the call gathers in a row of its own, beside the bytes of the one that is under way. No program is named here.
  What Texts comes to, the program's and the document's. Conditions: at most 2^40 texts; the key is at most 2^47 bytes.
  What the document's Texts comes to. Conditions: at most 2^40 texts; the key is at most 2^47 bytes.
-/
import Derived.Test.YtehabjiacgibpaaCEnc
import Derived.Test.YtehabjiacgibpaaCFlat
import Derived.Deep.OwnRows
namespace Go.Proofs.Ytehabjiacgibpaa
open Go.RowKit
theorem length_esc (p : List UInt8) : p.length ≤ (escL p).length := by
  induction p with
  | nil => simp
  | cons c p ih => rw [escL_cons]; split <;> simp <;> omega
set_option maxRecDepth 100000 in
set_option maxHeartbeats 1000000 in
theorem refEncode_any (A : Option Addr) (ps : List Piece) (c : Nat) (w : World) (hs : SeenAll w A ps) (hn : ps.length ≤ 9223372036854775807) (hb : (encL (bytesOf ps)).length ≤ 140737488355328) :
    Calls Try.prog 56 #[.slice A ps.length c] w fun e w' => ∃ A' n' c', e = .returned (.slice A' n' c') ∧ MadeN 5 w (encL (bytesOf ps)) A' n' c' w' := by
  obtain ⟨i0, hi, hz0, hz1, hz2⟩ := info_parts infoByte
  have HS := Lib.hid hs
  have HB := Lib.hid hb
  clear hs hb
  go_enter Try.func56, Try.ntmps56
  go_wp2_with fail
  go_loopw [3, 4] (fun s i wr => EP w ps s i wr) (fun _ i _ => ps.length - (intOf i).toNat)
  case atStart => exact ⟨0, none, 0, 0, by omega, rfl, rfl, rfl, Made.nil _ _⟩
  case round =>
    obtain ⟨k, A1, n1, c1, hk, rfl, rfl, hm⟩ := hrel
    have HM := Lib.hid hm
    clear hm
    by_cases hlt : k < ps.length
    · obtain ⟨b, off, hA, hbw, hc, hsk, hck, hmk⟩ := HS.out.at_ k hlt
      subst hA
      have HN := Lib.hid (enc_next hlt)
      have hfit := enc_fits (ps := ps) (k + 1)
      rw [HN.out, List.length_append, HM.out.1] at hfit
      have HF := Lib.hid (Nat.le_trans hfit HB.out)
      clear hfit
      generalize ps[k].1 = Ak at *
      generalize ps[k].2.1 = lk at *
      generalize ps[k].2.2 = ck at *
      have HSK := Lib.hid hsk
      have HC := Lib.hid hc
      have HPL : Hid ((partL lk).length = (escL lk).length + 2) := by show _ = _; simp [partL]
      have HLE := Lib.hid (length_esc lk)
      clear hsk hc
      obtain ⟨d, hd⟩ : ∃ d, d = encL (bytesOf (ps.take k)) := ⟨_, rfl⟩
      rw [← hd] at HM HN
      have HD : Hid (d.length = n1) := HM.out.1
      clear hd
      have hlen : lk.length ≤ 140737488355328 := by have := HPL.out; have := HLE.out; have := HF.out; omega
      go_wp2_with fail
      go_loopw [3, 5] (fun s i wr => AP w d lk s i wr) (fun _ i _ => lk.length - (intOf i).toNat)
      case atStart => exact ⟨0, A1, n1, c1, by omega, rfl, rfl, by simpa using HM.out⟩
      case round =>
        clear HM
        obtain ⟨j, A2, n2, c2, hj, rfl, rfl, hm⟩ := hrel
        obtain ⟨D, hD⟩ : ∃ D, D = d ++ escL (lk.take j) := ⟨_, rfl⟩
        rw [← hD] at hm
        have ED := Lib.hid hD
        have HM := Lib.hid hm
        clear hm hD
        have hc' := (HM.out.2.2.cell (p := ⟨b, off + k, none⟩) hbw).trans HC.out
        have L1 : Hid (D.length = n2) := HM.out.1
        by_cases hjl : j < lk.length
        · obtain ⟨b2, off2, hB, hb2w, hc2⟩ := HSK.out.at_ hjl
          subst hB
          have HCJ := Lib.hid hc2
          have HN2 : Hid (d ++ escL (lk.take (j + 1)) = D ++ (if lk[j] = 0 then [0, 255] else [lk[j]])) := by show _ = _; rw [esc_next hjl, ED.out, List.append_assoc]
          have HF2 := Lib.hid (esc_fits (p := lk) (j + 1))
          have hcj := (HM.out.2.2.cell (p := ⟨b2, off2 + j, none⟩) hb2w).trans HCJ.out
          clear hc2
          generalize lk[j] = y at *
          have hy := y.toNat_lt
          have hnb : Hid (n2 + (if y = 0 then 2 else 1) ≤ 140737488355328) := by
            have h1 := L1.out
            have h2 := HF2.out
            have h3 := HPL.out
            have h5 := HD.out
            have h6 := congrArg List.length HN2.out
            have h7 := HF.out
            have h4 : (if y = 0 then [0, 255] else [y] : List UInt8).length = if y = 0 then 2 else 1 := by split <;> rfl
            rw [List.length_append, List.length_append, h4] at h6
            show _ ≤ _
            omega
          obtain ⟨D2, hD2⟩ : ∃ D2, D2 = D ++ [y] := ⟨_, rfl⟩
          have E2 := Lib.hid hD2
          have L2 : Hid (D2.length = n2 + 1) := by show _ = _; rw [hD2, List.length_append, L1.out, List.length_singleton]
          clear hD2
          by_cases h0 : y = 0
          · have t1 : ((y.toNat : Int) == 0) = true := by rw [h0]; rfl
            rw [if_pos h0] at HN2 hnb
            have hnb' := hnb.out
            have HZ := Lib.hid h0
            clear h0 hnb
            go_wp2_with (at_builtin; refine wpList_append_one wr rfl (.tmp 21) (.tmp 29) 36 rfl 5 i0 (.int .u8 0) Try.underlying36 hi hz0 hz1 hz2 rfl w A2 n2 c2 _ _ y rfl rfl HM.out.2 L1.out rfl (by omega) ?_)
            intro A3 c3 w3 HM3
            have H3 : Hid (Made 5 w D2 (.slice A3 (n2 + 1) c3) w3) := by show Made _ _ _ _ _; rw [E2.out]; exact HM3
            clear HM3 hc' hcj
            have hc' := (H3.out.2.cell (p := ⟨b, off + k, none⟩) hbw).trans HC.out
            have hcj := (H3.out.2.cell (p := ⟨b2, off2 + j, none⟩) hb2w).trans HCJ.out
            go_wp2_with (at_builtin; refine wpList_append_one w3 rfl (.tmp 39) (.tmp 40) 36 rfl 5 i0 (.int .u8 0) Try.underlying36 hi hz0 hz1 hz2 rfl w A3 (n2 + 1) c3 _ 255 255 rfl rfl H3.out L2.out rfl (by omega) ?_)
            intro A4 c4 w4 HM4
            have H4 : Hid (MadeN 5 w (d ++ escL (lk.take (j + 1))) A4 (n2 + 2) c4 w4) := by
              have e : d ++ escL (lk.take (j + 1)) = D2 ++ [255] := by rw [HN2.out, E2.out, HZ.out, List.append_assoc]; rfl
              refine ⟨by rw [e, List.length_append, L2.out]; rfl, ?_⟩
              rw [e]; exact HM4
            clear HM4
            go_wp2_with fail
            go_roundw
            case rel => exact ⟨j + 1, A4, n2 + 2, c4, by omega, by go_num, rfl, H4.out⟩
            case measure => simp [intOf]; omega
          · have t1 : ((y.toNat : Int) == 0) = false := by
              have : y.toNat ≠ 0 := fun e => h0 (UInt8.toNat_inj.1 e)
              rw [beq_eq_false_iff_ne]; omega
            rw [if_neg h0] at HN2 hnb
            have hnb' := hnb.out
            clear h0 hnb
            go_wp2_with (at_builtin; refine wpList_append_one wr rfl (.tmp 21) (.tmp 29) 36 rfl 5 i0 (.int .u8 0) Try.underlying36 hi hz0 hz1 hz2 rfl w A2 n2 c2 _ _ y rfl rfl HM.out.2 L1.out rfl (by omega) ?_)
            intro A3 c3 w3 HM3
            have H3 : Hid (MadeN 5 w (d ++ escL (lk.take (j + 1))) A3 (n2 + 1) c3 w3) := by
              refine ⟨by rw [HN2.out, ← E2.out]; exact L2.out, ?_⟩
              rw [HN2.out]; exact HM3
            clear HM3 hc' hcj
            have hc' := (H3.out.2.2.cell (p := ⟨b, off + k, none⟩) hbw).trans HC.out
            have hcj := (H3.out.2.2.cell (p := ⟨b2, off2 + j, none⟩) hb2w).trans HCJ.out
            go_wp2_with fail
            go_roundw
            case rel => exact ⟨j + 1, A3, n2 + 1, c3, by omega, by go_num, rfl, H3.out⟩
            case measure => simp [intOf]; omega
        · obtain rfl : j = lk.length := by omega
          have hnb : n2 + 2 ≤ 140737488355328 := by
            have h1 := L1.out
            have h3 := HPL.out
            have h5 := HD.out
            have h6 := congrArg List.length ED.out
            have h7 := HF.out
            rw [List.take_length, List.length_append] at h6
            omega
          obtain ⟨D2, hD2⟩ : ∃ D2, D2 = D ++ [0] := ⟨_, rfl⟩
          have E2 := Lib.hid hD2
          have L2 : Hid (D2.length = n2 + 1) := by show _ = _; rw [hD2, List.length_append, L1.out, List.length_singleton]
          clear hD2
          go_wp2_with (at_builtin; refine wpList_append_one wr rfl (.tmp 42) (.tmp 43) 36 rfl 5 i0 (.int .u8 0) Try.underlying36 hi hz0 hz1 hz2 rfl w A2 n2 c2 _ 0 0 rfl rfl HM.out.2 L1.out rfl (by omega) ?_)
          intro A3 c3 w3 HM3
          have H3 : Hid (Made 5 w D2 (.slice A3 (n2 + 1) c3) w3) := by show Made _ _ _ _ _; rw [E2.out]; exact HM3
          clear HM3
          go_wp2_with (at_builtin; refine wpList_append_one w3 rfl (.tmp 45) (.tmp 46) 36 rfl 5 i0 (.int .u8 0) Try.underlying36 hi hz0 hz1 hz2 rfl w A3 (n2 + 1) c3 _ 1 1 rfl rfl H3.out L2.out rfl (by omega) ?_)
          intro A4 c4 w4 HM4
          have H4 : Hid (MadeN 5 w (encL (bytesOf (ps.take (k + 1)))) A4 (n2 + 2) c4 w4) := by
            have e : encL (bytesOf (ps.take (k + 1))) = D2 ++ [1] := by rw [HN.out, partL, ← List.append_assoc, E2.out, ED.out, List.take_length, List.append_assoc, List.append_assoc, List.append_assoc]; rfl
            refine ⟨by rw [e, List.length_append, L2.out]; rfl, ?_⟩
            rw [e]; exact HM4
          clear HM4
          go_wp2_with fail
          go_roundw
          case rel => exact ⟨k + 1, A4, n2 + 2, c4, by omega, by go_num, rfl, H4.out⟩
          case measure => simp [intOf]; omega
    · obtain rfl : k = ps.length := by omega
      have H2 : Hid (MadeN 5 w (encL (bytesOf ps)) A1 n1 c1 wr) := by have h := HM.out; rw [List.take_length] at h; exact h
      clear HM
      go_wp2_with fail
      go_ret
      exact ⟨A1, n1, c1, rfl, H2.out⟩
end Go.Proofs.Ytehabjiacgibpaa
namespace Go.Proofs.Ytehabjiacgibpaa
open Go.RowKit
def pv (q : Piece) : Value := .slice q.1 q.2.1.length q.2.2
def Free (w : World) (x y : Option Nat) (q : Piece) : Prop :=
  (q.2.1 = [] ∨ ∃ b off, q.1 = some ⟨b, off, none⟩ ∧ b < w.heap.size ∧ some b ≠ x ∧ some b ≠ y ∧ ∀ j (h : j < q.2.1.length), w.cell? ⟨b, off + j, none⟩ = some (.int .u8 (q.2.1[j].toNat : Int))) ∧
  q.2.1.length ≤ q.2.2 ∧ q.2.1.length ≤ 9223372036854775807
structure DecAt (e f : TypeId) (w0 : World) (ps : List Piece) (p : List UInt8) (vs vp : Value) (w : World) : Prop where
  list : w.ownsRow w0.heap.size f 1 vs ps.length (ps.map pv)
  part : w.ownsRow w0.heap.size e 1 vp p.length (p.map bv)
  apart : ∀ g, vs.ownBlock = some g → vp.ownBlock ≠ some g
  each : ∀ q ∈ ps, Free w vs.ownBlock vp.ownBlock q
  below : Below w0.heap.size w0 w
theorem own_len {w : World} {base : Nat} {e : TypeId} {A : Option Addr} {n c m : Nat} {xs : List Value} (h : w.ownsRow base e 1 (.slice A n c) m xs) : m = n ∧ n ≤ c := by
  rcases h.2 with ⟨hv, h0⟩ | ⟨g, cap, cur, hv, _, _, hnc, _⟩
  · injection hv with _ hn hc; omega
  · injection hv with _ hn hc; omega
theorem own_bytes {w : World} {base g n c : Nat} {e : TypeId} {l : List UInt8} (h : w.ownsRow base e 1 (.slice (some ⟨g, 0, none⟩) n c) l.length (l.map bv)) (j : Nat) (hj : j < l.length) : w.cell? ⟨g, 0 + j, none⟩ = some (.int .u8 (l[j].toNat : Int)) := by
  have := h.cells (g := g) rfl j (bv l[j]) (by rw [List.getElem?_map, List.getElem?_eq_getElem hj]; rfl)
  rw [add_plain] at this
  exact this
section
variable {e f : TypeId} {w0 w w' : World} {ps : List Piece} {p p' : List UInt8} {vs vs' vp vp' : Value} {q : Piece} {x y x' y' row : Option Nat}
theorem DecAt.start (e f : TypeId) (w : World) : DecAt e f w [] [] (.slice none 0 0) (.slice none 0 0) w :=
  ⟨World.ownsRow_nil _ _ _ _, World.ownsRow_nil _ _ _ _, fun g h => by simp [Value.ownBlock] at h, fun q hq => by simp at hq, Below.refl _ _⟩
theorem Free.turn (h : Free w x y q) (hg : w.grownBy w' row) (hrow : row = none ∨ row = x ∨ row = y) (hx : x' = x ∨ x' = none ∨ ∃ g, x' = some g ∧ w.heap.size ≤ g) (hy : y' = y ∨ y' = none ∨ ∃ g, y' = some g ∧ w.heap.size ≤ g) : Free w' x' y' q := by
  refine ⟨?_, h.2⟩
  rcases h.1 with h0 | ⟨b, off, hA, hb, h1, h2, hc⟩
  · exact .inl h0
  · refine .inr ⟨b, off, hA, by have := hg.size; omega, ?_, ?_, fun j hj => ?_⟩
    · rcases hx with rfl | rfl | ⟨g, rfl, hge⟩
      · exact h1
      · exact fun e => by cases e
      · intro e; injection e with e; omega
    · rcases hy with rfl | rfl | ⟨g, rfl, hge⟩
      · exact h2
      · exact fun e => by cases e
      · intro e; injection e with e; omega
    · refine (World.cell?_of_block (hg.block b hb ?_)).trans (hc j hj)
      rcases hrow with rfl | rfl | rfl
      · exact fun e => by cases e
      · exact h1
      · exact h2
theorem DecAt.size (h : DecAt e f w0 ps p vs vp w) : w0.heap.size ≤ w.heap.size := h.below.size
theorem DecAt.lower (h : DecAt e f w0 ps p vs vp w) (hb : Below w.heap.size w w') : DecAt e f w0 ps p vs vp w' where
  list := own_below h.list hb
  part := own_below h.part hb
  apart := h.apart
  each q hq := (h.each q hq).turn (only_of_below hb none) (.inl rfl) (.inl rfl) (.inl rfl)
  below := hop h.below hb
theorem DecAt.grow (h : DecAt e f w0 ps p vs vp w) (hown : w'.ownsRow w0.heap.size e 1 vp' p'.length (p'.map bv)) (hg : w.grownBy w' vp.ownBlock) (hat : vp'.ownBlock = vp.ownBlock ∨ ∃ g, vp'.ownBlock = some g ∧ w.heap.size ≤ g) : DecAt e f w0 ps p' vs vp' w' where
  list := h.list.kept hg (by
    rcases hv : vs.ownBlock with _ | g
    · exact .inl rfl
    · exact .inr (fun e => h.apart g hv e.symm))
  part := hown
  apart g hs := by
    have hlt := (h.list.lt g hs).2
    rcases hat with hat | ⟨g', hat, hge⟩
    · rw [hat]; exact h.apart g hs
    · rw [hat]; intro e; injection e with e; omega
  each q hq := (h.each q hq).turn hg (.inr (.inr rfl)) (.inl rfl) (by
    rcases hat with hat | hat
    · exact .inl hat
    · exact .inr (.inr hat))
  below := below_grown h.below h.size h.part hg
theorem DecAt.more (h : DecAt e f w0 ps p vs vp w) (hq : Free w vs.ownBlock vp.ownBlock q) (hown : w'.ownsRow w0.heap.size f 1 vs' (ps.length + 1) (ps.map pv ++ [pv q])) (hg : w.grownBy w' vs.ownBlock) (hat : vs'.ownBlock = vs.ownBlock ∨ ∃ g, vs'.ownBlock = some g ∧ w.heap.size ≤ g) : DecAt e f w0 (ps ++ [q]) p vs' vp w' where
  list := by simpa using hown
  part := h.part.kept hg (by
    rcases hv : vp.ownBlock with _ | g
    · exact .inl rfl
    · exact .inr (fun e => h.apart g e.symm hv))
  apart g hs := by
    rcases hat with hat | ⟨g', hat, hge⟩
    · exact h.apart g (hat ▸ hs)
    · rw [hat] at hs
      injection hs with hs
      intro hv
      have := (h.part.lt g hv).2
      omega
  each r hr := by
    have ht : ∀ r, Free w vs.ownBlock vp.ownBlock r → Free w' vs'.ownBlock vp.ownBlock r := fun r h' => h'.turn hg (.inr (.inl rfl)) (by
      rcases hat with hat | hat
      · exact .inl hat
      · exact .inr (.inr hat)) (.inl rfl)
    rcases List.mem_append.1 hr with hr | hr
    · exact ht r (h.each r hr)
    · simp at hr; subst hr; exact ht r hq
  below := below_grown h.below h.size h.list hg
theorem DecAt.drop (h : DecAt e f w0 ps p vs vp w) : DecAt e f w0 ps [] vs (.slice none 0 0) w where
  list := h.list
  part := World.ownsRow_nil _ _ _ _
  apart g _ := by simp [Value.ownBlock]
  each q hq := (h.each q hq).turn (World.grownBy.refl w none) (.inl rfl) (.inl rfl) (.inr (.inl rfl))
  below := h.below
theorem DecAt.piece {A : Option Addr} {n c : Nat} (h : DecAt e f w0 ps p vs (.slice A n c) w) (hn : p.length ≤ 9223372036854775807) : Free w vs.ownBlock none (A, p, c) := by
  have hl := own_len h.part
  refine ⟨?_, by show p.length ≤ c; omega, hn⟩
  rcases h.part.2 with ⟨hv, h0⟩ | ⟨g, cap, cur, hv, hb, hg, hnc, _⟩
  · exact .inl (List.eq_nil_of_length_eq_zero h0)
  · injection hv with hA _ hc
    subst hA
    refine .inr ⟨g, 0, rfl, (h.part.lt g rfl).2, fun e => h.apart g e.symm rfl, (fun e => by simp at e), own_bytes h.part⟩
theorem DecAt.none_of {A : Option Addr} {n c : Nat} (h : DecAt e f w0 ps p vs (.slice A n c) w) : DecAt e f w0 ps [] vs (.slice A 0 c) w where
  list := h.list
  part := by
    refine ⟨by simp, ?_⟩
    rcases h.part.2 with ⟨hv, h0⟩ | ⟨g, cap, cur, hv, hb, hg, hnc, h1, h2, h3⟩
    · injection hv with hA hn hc
      subst hA hc
      exact .inl ⟨rfl, rfl⟩
    · injection hv with hA _ hc
      subst hA hc
      exact .inr ⟨g, _, cur, rfl, hb, hg, Nat.zero_le _, h1, h2, by simp⟩
  apart g hs hp := h.apart g hs (by
    rcases A with _ | a
    · cases hp
    · exact hp)
  each := by
    rcases A with _ | a
    · exact h.each
    · exact h.each
  below := h.below
theorem Made.piece {A : Option Addr} {n c : Nat} {l : List UInt8} (hm : Made e w l (.slice A n c) w') (h : DecAt e f w0 ps p vs vp w) (hn : l.length ≤ 9223372036854775807) : Free w' vs.ownBlock vp.ownBlock (A, l, c) := by
  have hl := own_len hm.1
  refine ⟨?_, by show l.length ≤ c; omega, hn⟩
  rcases hm.1.2 with ⟨hv, h0⟩ | ⟨g, cap, cur, hv, hb, hg, hnc, _⟩
  · exact .inl (List.eq_nil_of_length_eq_zero h0)
  · injection hv with hA _ hc
    subst hA
    refine .inr ⟨g, 0, rfl, (hm.1.lt g rfl).2, ?_, ?_, own_bytes hm.1⟩
    · intro e; have := (h.list.lt g e.symm).2; omega
    · intro e; have := (h.part.lt g e.symm).2; omega
theorem DecAt.seen {A : Option Addr} {n c : Nat} (h : DecAt e f w0 ps p vs (.slice A n c) w) : Seen w A p := by
  have hl := own_len h.part
  have hp := h.part
  obtain ⟨rfl, _⟩ := hl
  exact (Seen.of_own hp).1
theorem DecAt.shown {A : Option Addr} {n c : Nat} (h : DecAt e f w0 ps p (.slice A n c) vp w) : SeenAll w A ps := by
  rcases h.list.2 with ⟨hv, h0⟩ | ⟨g, cap, cur, hv, hb, hg, hnc, _⟩
  · exact .inl (List.eq_nil_of_length_eq_zero h0)
  · injection hv with hA _ hc
    subst hA
    refine .inr ⟨g, 0, rfl, (h.list.lt g rfl).2, fun j hj => ?_⟩
    obtain ⟨h1, h2, h3⟩ := h.each ps[j] (List.getElem_mem hj)
    have hcell := h.list.cells (g := g) rfl j (pv ps[j]) (by rw [List.getElem?_map, List.getElem?_eq_getElem hj]; rfl)
    rw [add_plain] at hcell
    refine ⟨hcell, ?_, h2, h3⟩
    rcases h1 with h1 | ⟨b, off, hA, hb', _, _, hc⟩
    · exact .inl h1
    · exact .inr ⟨b, off, hA, hb', hc⟩
end
theorem wpList_append_part {P : Program} (w : World) {ops : Array Oper} {rest : List Oper} {o : Oper} {ac : Act} {Q : Exit → Act → World → Prop} (hgd : o.guard = none) (s x : Operand) (t : TypeId)
    (ho : o.op = .call { callee := .builtin .append, args := #[s, x], argTypes := #[t, t] })
    (e : TypeId) (i : TypeInfo) (z : Value) (ht : P.underlying t = some (.slice e)) (hi : P.info? e = some i) (hz : i.zero = some z)
    (hsize : i.size = 1) (hby : i.bytes = 1) (hzs : z.cells.size = 1)
    (f : TypeId) (w0 : World) (ps : List Piece) (p : List UInt8) (vs : Value) (B : Option Addr) (m d : Nat) (y : Int) (b8 : UInt8) (hs : ac.eval s = .slice B m d) (hx : ac.eval x = .slice (some ⟨w.heap.size, 0, none⟩) 1 1)
    (H : DecAt e f w0 ps p vs (.slice B m d) w) (hm : p.length = m) (hy : (b8.toNat : Int) = y) (hb : m + 1 ≤ 140737488355328)
    (h : ∀ B' d' w', DecAt e f w0 ps (p ++ [b8]) vs (.slice B' (m + 1) d') w' → wpList P ops Q rest (ac.put o.dst (.slice B' (m + 1) d')) w') :
    wpList P ops Q (o :: rest) ac (w.alloc (.cells #[.int .u8 y] e)) := by
  subst hy
  have hB := H.size
  have H' := H.lower ((Below.refl _ _).alloc (Nat.le_refl _) (.cells #[.int .u8 (b8.toNat : Int)] e))
  have hpart := H'.part
  rw [hm] at hpart
  refine wpList_append_own_at (w.alloc (.cells #[.int .u8 (b8.toNat : Int)] e)) hgd s x t ho w0.heap.size e i z 1 1 ht hi hz hsize hby hzs (by decide) _ m (p.map bv) hs hpart ⟨w.heap.size, 0, none⟩ 1 1 [.int .u8 (b8.toNat : Int)] hx rfl (cell_one_new _ _ _) (by
    intro u hu
    simp at hu
    subst hu
    rfl) (by unfold maxLen; omega) (by omega) (by simp; omega) ?_
  intro v' w' hown hg _ hat
  obtain ⟨B', d', rfl⟩ := own_form hown
  refine h B' d' w' (H'.grow ?_ hg ?_)
  · rw [List.length_append, List.map_append, hm]; exact hown
  · rcases hat with hat | hat
    · exact .inl hat
    · exact .inr ⟨_, hat, Nat.le_refl _⟩
theorem wpList_append_piece {P : Program} (w : World) {ops : Array Oper} {rest : List Oper} {o : Oper} {ac : Act} {Q : Exit → Act → World → Prop} (hgd : o.guard = none) (s x : Operand) (t : TypeId)
    (ho : o.op = .call { callee := .builtin .append, args := #[s, x], argTypes := #[t, t] })
    (f : TypeId) (i : TypeInfo) (z : Value) (ht : P.underlying t = some (.slice f)) (hi : P.info? f = some i) (hz : i.zero = some z)
    (hsize : i.size = 1) (hby : i.bytes = 24) (hzs : z.cells.size = 1)
    (e : TypeId) (w0 : World) (ps : List Piece) (p : List UInt8) (vp : Value) (A : Option Addr) (n c : Nat) (q : Piece) (Aq : Option Addr) (nq cq : Nat) (hs : ac.eval s = .slice A n c) (hx : ac.eval x = .slice (some ⟨w.heap.size, 0, none⟩) 1 1)
    (H : DecAt e f w0 ps p (.slice A n c) vp w) (hn : ps.length = n) (hq : pv q = .slice Aq nq cq) (hfree : Free w (Value.ownBlock (.slice A n c)) vp.ownBlock q) (hb : n + 1 ≤ 5864062014805)
    (h : ∀ A' c' w', DecAt e f w0 (ps ++ [q]) p (.slice A' (n + 1) c') vp w' → wpList P ops Q rest (ac.put o.dst (.slice A' (n + 1) c')) w') :
    wpList P ops Q (o :: rest) ac (w.alloc (.cells #[.slice Aq nq cq] f)) := by
  rw [← hq]
  have hB := H.size
  have H' := H.lower ((Below.refl _ _).alloc (Nat.le_refl _) (.cells #[pv q] f))
  have hfree' : Free (w.alloc (.cells #[pv q] f)) (Value.ownBlock (.slice A n c)) vp.ownBlock q := hfree.turn (only_of_below ((Below.refl _ _).alloc (Nat.le_refl _) _) none) (.inl rfl) (.inl rfl) (.inl rfl)
  have hlist := H'.list
  rw [hn] at hlist
  refine wpList_append_own_at (w.alloc (.cells #[pv q] f)) hgd s x t ho w0.heap.size f i z 1 24 ht hi hz hsize hby hzs (by decide) _ n (ps.map pv) hs hlist ⟨w.heap.size, 0, none⟩ 1 1 [pv q] hx rfl (cell_one_new _ _ _) (by
    intro u hu
    simp at hu
    subst hu
    rfl) (by unfold maxLen; omega) (by omega) (by simp; omega) ?_
  intro v' w' hown hg _ hat
  obtain ⟨A', c', rfl⟩ := own_form hown
  refine h A' c' w' (H'.more hfree' (by rw [hn]; exact hown) hg ?_)
  rcases hat with hat | hat
  · exact .inl hat
  · exact .inr ⟨_, hat, Nat.le_refl _⟩
end Go.Proofs.Ytehabjiacgibpaa
namespace Go.Proofs.Ytehabjiacgibpaa
open Go.RowKit
theorem infoPart : (Try.prog.info? 36).map (fun i => (i.zero, i.size, i.bytes)) = some (some (.slice none 0 0), 1, 24) := by kernel_rfl
def SeenT (w : World) (A : Option Addr) (ts : List (List UInt8)) : Prop :=
  ts = [] ∨ ∃ b off, A = some ⟨b, off, none⟩ ∧ b < w.heap.size ∧ ∀ j (h : j < ts.length), w.cell? ⟨b, off + j, none⟩ = some (.string ⟨(ts[j]).toArray⟩) ∧ ts[j].length ≤ 140737488351232
theorem SeenT.at_ {w : World} {A : Option Addr} {ts : List (List UInt8)} (h : SeenT w A ts) (k : Nat) (hk : k < ts.length) :
    ∃ b off, A = some ⟨b, off, none⟩ ∧ b < w.heap.size ∧ w.cell? ⟨b, off + k, none⟩ = some (.string ⟨(ts[k]).toArray⟩) ∧ ts[k].length ≤ 140737488351232 := by
  rcases h with rfl | ⟨b, off, rfl, hb, hc⟩
  · simp at hk
  · exact ⟨b, off, rfl, hb, hc k hk⟩
theorem bytes_of_text (w : World) (l : List UInt8) : ∃ (c : Nat) (w' : World), (convert 9 36 (.string ⟨l.toArray⟩)).run Try.prog w = .ok (.slice (some ⟨w.heap.size, 0, none⟩) l.length c) w' ∧
    Seen w' (some ⟨w.heap.size, 0, none⟩) l ∧ l.length ≤ c ∧ Below w.heap.size w w' ∧ w.heap.size < w'.heap.size := by
  have hr := run_bytes_of_string (P := Try.prog) w 9 36 5 ⟨l.toArray⟩ Try.underlying9 Try.underlying36 Try.underlying5
  have hsz : (⟨l.toArray⟩ : ByteArray).size = l.length := by simp [ByteArray.size]
  rw [hsz] at hr
  refine ⟨_, _, hr, .inr ⟨w.heap.size, 0, rfl, by simp, fun j hj => ?_⟩, grownCap_ge w l.length 0 _, ((Below.refl _ _).drew).alloc (Nat.le_refl _) _, by simp⟩
  have h := bytesRow_at ⟨l.toArray⟩ (grownCap w l.length 0 5) j (by simpa using hj)
  rw [Nat.zero_add]
  have e := World.cell?_alloc_mark w.drew (bytesRow ⟨l.toArray⟩ (grownCap w l.length 0 5)) 5 ((bytesRow ⟨l.toArray⟩ (grownCap w l.length 0 5)).size, (bytesRow ⟨l.toArray⟩ (grownCap w l.length 0 5)).size + 1) j
  refine Eq.trans e (h.trans ?_)
  simp
theorem made_row (w : World) (n : Nat) : Blk (w.alloc (.cells (madeCells #[.slice none 0 0] n) 36)) w.heap.size (([] : List Piece).map pv ++ List.replicate (n - 0) (.slice none 0 0)) 36 := by
  have e : madeCells #[Value.slice none 0 0] n = (([] : List Piece).map pv ++ List.replicate (n - 0) (Value.slice none 0 0)).toArray := by
    apply Array.ext
    · simp [madeCells]
    · intro i h1 h2
      simp [madeCells, Nat.mod_one]
  rw [e]
  exact Blk.new w _ _
def TX (w : World) (g : Nat) (ts : List (List UInt8)) (i : Value) (wr : World) : Prop :=
  ∃ (k : Nat) (ps : List Piece), k ≤ ts.length ∧ i = .int .i64 k ∧ ps.length = k ∧ bytesOf ps = ts.take k ∧ Blk wr g (ps.map pv ++ List.replicate (ts.length - k) (.slice none 0 0)) 36 ∧ (∀ q ∈ ps, Free wr (some g) (some g) q) ∧ Below w.heap.size w wr
theorem tx_set {ps : List Piece} {n k : Nat} (hk : ps.length = k) (hn : k < n) (q : Piece) : (ps.map pv ++ List.replicate (n - k) (Value.slice none 0 0)).set k (pv q) = (ps ++ [q]).map pv ++ List.replicate (n - (k + 1)) (Value.slice none 0 0) := by
  obtain ⟨m, rfl⟩ : ∃ m, n = k + (m + 1) := ⟨n - k - 1, by omega⟩
  rw [List.set_append_right _ _ (by simp; omega), List.length_map, hk, Nat.sub_self, show k + (m + 1) - k = m + 1 by omega, show k + (m + 1) - (k + 1) = m by omega, List.replicate_succ, List.set_cons_zero]
  simp
theorem tx_take {ps : List Piece} {ts : List (List UInt8)} {k : Nat} (h : bytesOf ps = ts.take k) (hk : k < ts.length) (q : Piece) (hq : q.2.1 = ts[k]) : bytesOf (ps ++ [q]) = ts.take (k + 1) := by
  rw [bytesOf, List.map_append, ← bytesOf, h, List.take_succ_eq_append_getElem hk]
  simp [hq]
theorem TX.shown {wr : World} {g : Nat} {ps : List Piece} {n : Nat} (hb : Blk wr g (ps.map pv ++ List.replicate (n - n) (.slice none 0 0)) 36) (hf : ∀ q ∈ ps, Free wr (some g) (some g) q) : SeenAll wr (some ⟨g, 0, none⟩) ps := by
  refine .inr ⟨g, 0, rfl, hb.lt, fun j hj => ?_⟩
  obtain ⟨h1, h2, h3⟩ := hf ps[j] (List.getElem_mem hj)
  rw [Nat.sub_self, List.replicate_zero, List.append_nil] at hb
  have hc := hb.cell (i := j) (by simpa using hj)
  rw [List.getElem_map] at hc
  rw [Nat.zero_add]
  refine ⟨hc, ?_, h2, h3⟩
  rcases h1 with h1 | ⟨b, off, hA, hb', _, _, hc⟩
  · exact .inl h1
  · exact .inr ⟨b, off, hA, hb', hc⟩
set_option maxRecDepth 100000 in
set_option maxHeartbeats 1000000 in
theorem texts_any (A : Option Addr) (ts : List (List UInt8)) (c : Nat) (w : World) (hs : SeenT w A ts) (hn : ts.length ≤ 1099511627776) (hb : (encL ts).length ≤ 140737488355328) :
    Calls Try.prog 30 #[.slice A ts.length c] w fun e w' => ∃ A' n' c', e = .returned (.slice A' n' c') ∧ (encL ts).length = n' ∧ Seen w' A' (encL ts) ∧ n' ≤ c' ∧ Below w.heap.size w w' := by
  have HS := Lib.hid hs
  have HB := Lib.hid hb
  have hmk := run_make_row' (P := Try.prog) 101 36 (.slice none 0 0) 24 Try.underlying101 infoPart rfl .i64 .i64 ts.length (by omega) (by omega)
  clear hs hb
  go_enter Try.func30, Try.ntmps30
  go_wp2_with fail
  go_loopw [11] (fun i wr => TX w w.heap.size ts i wr) (fun i _ => ts.length - (intOf i).toNat)
  case atStart => exact ⟨0, [], by omega, rfl, rfl, rfl, made_row w ts.length, (fun q hq => by simp at hq), (Below.refl _ _).alloc (Nat.le_refl _) _⟩
  case round =>
    clear hmk
    obtain ⟨k, ps, hk, rfl, hps, hbo, hblk, hfr, hbel⟩ := hrel
    have HP := Lib.hid hps
    have HO := Lib.hid hbo
    have HK := Lib.hid hblk
    have HF := Lib.hid hfr
    have BW := Lib.hid hbel
    clear hps hbo hblk hfr hbel
    by_cases hlt : k < ts.length
    · obtain ⟨b, off, hA, hbw, hc, hmax⟩ := HS.out.at_ k hlt
      subst hA
      have hc' := (BW.out.cell (p := ⟨b, off + k, none⟩) hbw).trans hc
      have HT : Hid (∀ q : Piece, q.2.1 = ts[k] → bytesOf (ps ++ [q]) = ts.take (k + 1)) := fun q hq => tx_take HO.out hlt q hq
      clear hc
      obtain ⟨l, hl⟩ : ∃ l, l = ts[k] := ⟨_, rfl⟩
      rw [← hl] at hc' hmax HT
      clear hl
      obtain ⟨cc, w2, hrun, hs2, hcc, hb2, hz2⟩ := bytes_of_text wr l
      have hlt1 : w.heap.size < wr.heap.size := HK.out.lt
      have HK2 := Lib.hid (HK.out.below hb2 hlt1)
      have hcell : w2.cell? ⟨w.heap.size, k, none⟩ = some (.slice none 0 0) := by
        have h := HK2.out.cell (i := k) (by simp [HP.out]; omega)
        rw [h, List.getElem_append_right (by simp [HP.out])]
        simp
      have hfz := HK2.out.free k
      obtain ⟨g2, hg2⟩ : ∃ g2, g2 = wr.heap.size := ⟨_, rfl⟩
      rw [← hg2] at hrun hs2
      have HQ : Hid (Free w2 (some w.heap.size) (some w.heap.size) (some ⟨g2, 0, none⟩, l, cc)) := by
        refine ⟨?_, hcc, by show l.length ≤ _; omega⟩
        rcases hs2 with h0 | ⟨b', off', hA, hb', hc'⟩
        · exact .inl h0
        · injection hA with hA
          injection hA with e1 e2 _
          subst e1 e2
          exact .inr ⟨g2, 0, rfl, hb', (by intro e; injection e; omega), (by intro e; injection e; omega), hc'⟩
      have HE : Hid (∀ q ∈ ps ++ [((some ⟨g2, 0, none⟩, l, cc) : Piece)], Free (w2.setCell ⟨w.heap.size, k, none⟩ (.slice (some ⟨g2, 0, none⟩) l.length cc)) (some w.heap.size) (some w.heap.size) q) := by
        have hgr : w2.grownBy (w2.setCell ⟨w.heap.size, k, none⟩ (.slice (some ⟨g2, 0, none⟩) l.length cc)) (some w.heap.size) := only_setCell (World.grownBy.refl w2 _) k _
        intro q hq
        rcases List.mem_append.1 hq with hq | hq
        · exact ((HF.out q hq).turn (only_of_below hb2 none) (.inl rfl) (.inl rfl) (.inl rfl)).turn hgr (.inr (.inl rfl)) (.inl rfl) (.inl rfl)
        · simp at hq
          subst hq
          exact HQ.out.turn hgr (.inr (.inl rfl)) (.inl rfl) (.inl rfl)
      have HR : Hid (Blk (w2.setCell ⟨w.heap.size, k, none⟩ (.slice (some ⟨g2, 0, none⟩) l.length cc)) w.heap.size ((ps ++ [((some ⟨g2, 0, none⟩, l, cc) : Piece)]).map pv ++ List.replicate (ts.length - (k + 1)) (.slice none 0 0)) 36) := by
        have h := HK2.out.set k (pv (some ⟨g2, 0, none⟩, l, cc))
        rw [tx_set HP.out hlt] at h
        exact h
      have HB2 : Hid (Below w.heap.size w (w2.setCell ⟨w.heap.size, k, none⟩ (.slice (some ⟨g2, 0, none⟩) l.length cc))) := (hop BW.out hb2).setCell (Nat.le_refl _) _
      clear hs2 hb2 HK HK2 HF HQ hg2 hz2
      generalize (⟨l.toArray⟩ : ByteArray) = tl at *
      go_wp2_with fail
      go_roundw
      case rel => exact ⟨k + 1, ps ++ [(some ⟨g2, 0, none⟩, l, cc)], by omega, by go_num, by rw [List.length_append, HP.out]; rfl, HT.out _ rfl, HR.out, HE.out, HB2.out⟩
      case measure => simp [intOf]; omega
    · obtain rfl : k = ts.length := by omega
      have hall : bytesOf ps = ts := by rw [HO.out, List.take_length]
      have HA := Lib.hid hall
      have HV := Lib.hid (TX.shown HK.out HF.out)
      clear hall HK HF
      have HC : Hid (Calls Try.prog 55 #[.slice (some ⟨w.heap.size, 0, none⟩) ts.length ts.length] wr fun e w' => ∃ A' n' c', e = .returned (.slice A' n' c') ∧ MadeN 5 wr (encL ts) A' n' c' w') := by
        have h := encode_any (some ⟨w.heap.size, 0, none⟩) ps ts.length wr HV.out (by rw [HP.out]; omega) (by rw [HA.out]; exact HB.out)
        rw [HP.out, HA.out] at h
        exact h
      go_wp2_with fail
      refine HC.out.mono ?_
      rintro e w3 ⟨A3, n3, c3, rfl, hm3⟩
      have H3 := Lib.hid hm3
      clear hm3
      go_wp2_with fail
      go_ret
      exact ⟨A3, n3, c3, rfl, H3.out.1, H3.out.2.at_len.2, (own_len H3.out.2.1).2, hop BW.out H3.out.2.2⟩
end Go.Proofs.Ytehabjiacgibpaa
namespace Go.Proofs.Ytehabjiacgibpaa
open Go.RowKit
def RT (w : World) (ts : List (List UInt8)) (s i : Value) (wr : World) : Prop :=
  ∃ (k : Nat) (ps : List Piece) (A : Option Addr) (c : Nat), k ≤ ts.length ∧ i = .int .i64 k ∧ s = .slice A k c ∧ ps.length = k ∧ bytesOf ps = ts.take k ∧ DecAt 5 36 w ps [] (.slice A k c) (.slice none 0 0) wr
set_option maxRecDepth 100000 in
set_option maxHeartbeats 1000000 in
theorem refTexts_any (A : Option Addr) (ts : List (List UInt8)) (c : Nat) (w : World) (hs : SeenT w A ts) (hn : ts.length ≤ 1099511627776) (hb : (encL ts).length ≤ 140737488355328) :
    Calls Try.prog 31 #[.slice A ts.length c] w fun e w' => ∃ A' n' c', e = .returned (.slice A' n' c') ∧ (encL ts).length = n' ∧ Seen w' A' (encL ts) ∧ Below w.heap.size w w' := by
  obtain ⟨j0, gi, gz0, gz1, gz2⟩ := info_parts infoPart
  have HS := Lib.hid hs
  have HB := Lib.hid hb
  clear hs hb
  go_enter Try.func31, Try.ntmps31
  go_wp2_with fail
  go_loopw [3, 4] (fun s i wr => RT w ts s i wr) (fun _ i _ => ts.length - (intOf i).toNat)
  case atStart => exact ⟨0, [], none, 0, by omega, rfl, rfl, rfl, rfl, DecAt.start _ _ _⟩
  case round =>
    obtain ⟨k, ps, A1, c1, hk, rfl, rfl, hps, hbo, hat⟩ := hrel
    have HP := Lib.hid hps
    have HO := Lib.hid hbo
    have H := Lib.hid hat
    clear hps hbo hat
    by_cases hlt : k < ts.length
    · obtain ⟨b, off, hA, hbw, hc, hmax⟩ := HS.out.at_ k hlt
      subst hA
      have hc' := (H.out.below.cell (p := ⟨b, off + k, none⟩) hbw).trans hc
      have HT : Hid (∀ q : Piece, q.2.1 = ts[k] → bytesOf (ps ++ [q]) = ts.take (k + 1)) := fun q hq => tx_take HO.out hlt q hq
      clear hc
      obtain ⟨l, hl⟩ : ∃ l, l = ts[k] := ⟨_, rfl⟩
      rw [← hl] at hc' hmax HT
      clear hl
      obtain ⟨cc, w2, hrun, hs2, hcc, hb2, hz2⟩ := bytes_of_text wr l
      have H2 := Lib.hid (H.out.lower hb2)
      have hll := H.out.list
      obtain ⟨g2, hg2⟩ : ∃ g2, g2 = wr.heap.size := ⟨_, rfl⟩
      rw [← hg2] at hrun hs2
      have HQ : Hid (Free w2 (Value.ownBlock (.slice A1 k c1)) (Value.ownBlock (.slice none 0 0)) (some ⟨g2, 0, none⟩, l, cc)) := by
        refine ⟨?_, hcc, by show l.length ≤ _; omega⟩
        rcases hs2 with h0 | ⟨b', off', hA, hb', hc'⟩
        · exact .inl h0
        · injection hA with hA
          injection hA with e1 e2 _
          subst e1 e2
          refine .inr ⟨g2, 0, rfl, hb', ?_, (by simp [Value.ownBlock]), hc'⟩
          intro e
          have := (hll.lt g2 e.symm).2
          omega
      clear hs2 hb2 H hg2 hz2 hll
      generalize (⟨l.toArray⟩ : ByteArray) = tl at *
      go_wp2_with (at_builtin; refine wpList_append_piece w2 rfl (.tmp 11) (.tmp 17) 101 rfl 36 j0 (.slice none 0 0) Try.underlying101 gi gz0 gz1 gz2 rfl 5 w ps [] (.slice none 0 0) A1 k c1 (some ⟨g2, 0, none⟩, l, cc) (some ⟨g2, 0, none⟩) l.length cc rfl rfl H2.out HP.out rfl HQ.out (by omega) ?_)
      intro A3 c3 w3 H3
      have H3' := Lib.hid H3
      clear H3 H2 HQ
      go_wp2_with fail
      go_roundw
      case rel => exact ⟨k + 1, ps ++ [(some ⟨g2, 0, none⟩, l, cc)], A3, c3, by omega, by go_num, rfl, by rw [List.length_append, HP.out]; rfl, HT.out _ rfl, H3'.out⟩
      case measure => simp [intOf]; omega
    · obtain rfl : k = ts.length := by omega
      have hall : bytesOf ps = ts := by rw [HO.out, List.take_length]
      have HA := Lib.hid hall
      have HC : Hid (Calls Try.prog 56 #[.slice A1 ts.length c1] wr fun e w' => ∃ A' n' c', e = .returned (.slice A' n' c') ∧ MadeN 5 wr (encL ts) A' n' c' w') := by
        have h := refEncode_any A1 ps c1 wr H.out.shown (by rw [HP.out]; omega) (by rw [HA.out]; exact HB.out)
        rw [HP.out, HA.out] at h
        exact h
      have BW := Lib.hid H.out.below
      clear hall H
      go_wp2_with fail
      refine HC.out.mono ?_
      rintro e w3 ⟨A3, n3, c3, rfl, hm3⟩
      have H3 := Lib.hid hm3
      clear hm3
      go_wp2_with fail
      go_ret
      exact ⟨A3, n3, c3, rfl, H3.out.1, H3.out.2.at_len.2, hop BW.out H3.out.2.2⟩
end Go.Proofs.Ytehabjiacgibpaa
