/-
  The document's map: Scan; what it finds is what the program's finds. Conditions: at most 1,000 pairs, of at most 1,000,000,000 bytes a key and a value.
  do: a call, by the tree and by the document's map. Conditions: at most 999 pairs so far; a key and a value of at most 100 bytes.
-/
import Derived.Test.YtaeocbgmoijedaaTrRfPut
import Derived.Test.YtaeocbgmoijedaaTrScans
import Derived.Test.YtaeocbgmoijedaaTrEach
import Derived.Test.YtaeocbgmoijedaaTrDel
import Derived.Deep.RegionHeldLaw
namespace Go.Proofs.Ytaeocbgmoijedaa
open Go.RowKit

/-- what the document's Scan takes -/
def pick (fr to : Key) (x : Kv) : Bool := upTo to x && !ltK x.1 fr
theorem visit_take (to : Key) (mo : Int) : ∀ (l acc : List Kv), Srt l → (acc.length : Int) < mo → (visit to mo acc l).1 = acc ++ (l.filter (upTo to)).take (mo.toNat - acc.length) := by
  intro l
  induction l with
  | nil => intro acc _ _; rw [List.filter_nil, List.take_nil, List.append_nil]; rfl
  | cons x r ih =>
    intro acc hs h
    rw [Srt.cons] at hs
    by_cases hx : upTo to x = true
    · have hsee : see to mo acc x = (acc ++ [x], decide ((acc.length : Int) + 1 < mo)) := by
        unfold see
        rw [if_neg]
        rintro ⟨h1, h2⟩
        unfold upTo at hx
        rw [h2, Bool.or_false, List.isEmpty_iff] at hx
        exact h1 hx
      rw [visit, hsee, List.filter_cons_of_pos hx]
      by_cases hlt : (acc.length : Int) + 1 < mo
      · rw [if_pos (decide_eq_true hlt), ih _ hs.2 (by rw [List.length_append, List.length_singleton]; omega), List.append_assoc, List.length_append, List.length_singleton, show mo.toNat - acc.length = (mo.toNat - (acc.length + 1)) + 1 by omega, List.take_succ_cons]
        rfl
      · rw [if_neg (by rw [decide_eq_false hlt]; simp), show mo.toNat - acc.length = 1 by omega, List.take_succ_cons, List.take_zero]
    · have hx2 : to ≠ [] ∧ ltK x.1 to = false := by
        unfold upTo at hx
        rw [Bool.not_eq_true, Bool.or_eq_false_iff] at hx
        exact ⟨fun e => by rw [e] at hx; simp at hx, hx.2⟩
      have hsee : see to mo acc x = (acc, false) := by unfold see; rw [if_pos hx2]
      rw [visit, hsee, List.filter_cons_of_neg hx]
      have hnone : r.filter (upTo to) = [] := List.filter_eq_nil_iff.2 (fun y hy => by
        unfold upTo
        rw [Bool.not_eq_true, Bool.or_eq_false_iff]
        refine ⟨by simpa using hx2.1, ?_⟩
        cases hyt : ltK y.1 to
        · rfl
        · rw [ltK_trans (hs.1 y hy) hyt] at hx2
          exact absurd hx2.2 (by simp))
      rw [hnone, List.take_nil, List.append_nil, if_neg (by simp)]
theorem scan_doc (fr to : Key) (mo : Int) (L : List Kv) (hs : Srt L) : scanL fr to mo L = (L.filter (pick fr to)).take mo.toNat := by
  unfold scanL
  by_cases h1 : mo < 1
  · rw [if_pos h1, show mo.toNat = 0 by omega, List.take_zero]
  · rw [if_neg h1, visit_take to mo (since fr L) [] (hs.filter _) (by simp; omega), List.nil_append]
    unfold since
    rw [List.filter_filter]
    rfl
theorem pick_step {L : List Kv} {fr to : Key} {i : Nat} (hi : i < L.length) : (L.take (i + 1)).filter (pick fr to) = (L.take i).filter (pick fr to) ++ if pick fr to L[i] then [L[i]] else [] := by
  rw [List.take_succ_eq_append_getElem hi, List.filter_append]
  congr 1
  cases h : pick fr to L[i]
  · rw [List.filter_cons_of_neg (by rw [h]; simp)]; rfl
  · rw [List.filter_cons_of_pos h]; rfl
/-- enough are found -/
theorem pick_full {L : List Kv} {fr to : Key} {mo : Int} {i : Nat} (h : ((L.take i).filter (pick fr to)).length = mo.toNat) : (L.filter (pick fr to)).take mo.toNat = (L.take i).filter (pick fr to) := by
  conv => lhs; arg 2; rw [← List.take_append_drop i L]
  rw [List.filter_append, ← h, List.take_left]
/-- all are found -/
theorem pick_all {L : List Kv} {fr to : Key} {mo : Int} (h : ((L.filter (pick fr to)).length : Int) ≤ max mo 0) : (L.filter (pick fr to)).take mo.toNat = L.filter (pick fr to) := List.take_of_length_le (by omega)

/-- a row of the call's own is there behind any draws -/
theorem own_drewN {w : World} {base s n k : Nat} {e : TypeId} {v : Value} {xs : List Value} (h : w.ownsRow base e s v n xs) : (w.drewN k).ownsRow base e s v n xs := h

/-- what Scan answers -/
def RScanOut (w : World) (Z : List Kv) (e : Ending) (w' : World) : Prop :=
  Below w.heap.size w w' ∧ ∃ (A : Option Addr) (n c : Nat), e = .returned (.slice A n c) ∧ Z.length = n ∧ KvSeen w' A Z
set_option maxRecDepth 100000 in
set_option maxHeartbeats 4000000 in
theorem rscan_any (w : World) (F : Nat → Prop) (hF : ∀ b, F b → b < w.heap.size) (gm : Nat) (room : Int) (L : List Kv) (R T : Option Addr) (fr to : Key) (r rc m d : Nat) (mo : Int) (t : MapAt w F gm room L) (hr : Seen w R fr) (hrl : fr.length = r) (ht : Seen w T to) (htl : to.length = m) (hmm : m ≤ 9223372036854775807) :
    Calls Try.prog 36 #[.pointer (some ⟨gm, 0, none⟩), .slice R r rc, .slice T m d, .int .i64 mo] w (RScanOut w (scanL fr to mo L)) := by
  have hsrt : Srt L := t.2.1
  obtain ⟨A, c, els, he, hel, hb, hcl, hlc, hao, hn9⟩ := map_els t
  rw [scan_doc fr to mo L hsrt]
  obtain ⟨Z, hZ⟩ : ∃ Z, Z = (L.filter (pick fr to)).take mo.toNat := ⟨_, rfl⟩
  rw [← hZ]
  have HZ := Lib.hid hZ
  clear hZ
  have HB := Lib.hid hb
  have HAO := Lib.hid hao
  have HCL := Lib.hid hcl
  have HE := Lib.hid he
  have HF := Lib.hid hF
  have cvR := text_on hr r rc hrl
  have cvT := text_on ht m d htl
  have HCR := Lib.hid cvR
  have HCT := Lib.hid cvT
  have HTL := Lib.hid htl
  obtain ⟨n, hn⟩ : ∃ n, n = L.length := ⟨_, rfl⟩
  have HN := Lib.hid hn
  rw [← hn] at hel HB hlc hn9
  have HEL := Lib.hid hel
  obtain ⟨i0, z0, RT⟩ := rowP
  have HR := Lib.hid RT
  clear t hr hrl ht htl hb hcl hao he cvR cvT hn hF RT hsrt hel
  go_enter Try.func36, Try.ntmps36
  go_wp2_with fail
  go_loopg [9, 10] n (fun kx s9 s10 wr => ∃ (i j : Nat) (sel : List (El 0)) (B : Option Addr) (e : Nat), i + kx = n ∧ s10 = .int .i64 (i : Int) ∧ s9 = .slice B j e ∧ Below w.heap.size w wr ∧ wr.ownsRow w.heap.size 48 2 (.slice B j e) j (rowCells 0 sel) ∧ sel.length = j ∧ (∀ q ∈ sel, q ∈ els) ∧ sel.map kv0 = (L.take i).filter (pick fr to) ∧ (j : Int) ≤ max mo 0)
  case atStart => exact ⟨0, 0, [], none, 0, by omega, rfl, rfl, Below.refl _ _, World.ownsRow_nil _ _ _ _, rfl, (fun q hq => by cases hq), rfl, by omega⟩
  case round =>
    obtain ⟨i, j, sel, B, e, hi, rfl, rfl, hbr, hown, hsl, hsub, hsel, hmax⟩ := hrel
    have HI := Lib.hid hi
    have HBR := Lib.hid hbr
    have HOWN := Lib.hid hown
    have HSL := Lib.hid hsl
    have HSUB := Lib.hid hsub
    have HSEL := Lib.hid hsel
    have HMAX := Lib.hid hmax
    have hbb := HB.out.below hbr HB.out.lt
    have x1 := hbb.cell (i := 1) (by simp)
    simp only [List.getElem_cons_zero, List.getElem_cons_succ] at x1
    have HDONE : Hid (Z = sel.map kv0 → RScanOut w Z (.returned (.slice B j e)) wr) := fun hE => by
      rw [hE]
      exact ⟨HBR.out, B, j, e, rfl, by rw [List.length_map]; exact HSL.out, kv_of (own_cells HOWN.out).1 (AllOk.below (fun q hq => HAO.out q (HSUB.out q hq)) HBR.out)⟩
    clear hi hbr hown hsl hsub hsel hmax hbb
    by_cases hlt : i < n
    · have hkl : (i : Int) < (n : Int) := by omega
      by_cases hjm : (j : Int) < mo
      · have hil : i < L.length := by have := HN.out; omega
        have hil2 : i < els.length := by have := HEL.out; omega
        obtain ⟨b, off, rfl, hblt, _, h0, h1⟩ := pair_cells HCL.out i hil2
        obtain ⟨q, hq⟩ : ∃ q, q = els[i] := ⟨_, rfl⟩
        have HQ : Hid (q ∈ els) := by show _ ∈ _; rw [hq]; exact List.getElem_mem _
        have HQL : Hid (L[i] = kv0 q) := by show _ = _; rw [hq]; simp [← HE.out]
        have hstep := pick_step (fr := fr) (to := to) hil
        rw [HQL.out] at hstep
        have HSTEP := Lib.hid hstep
        clear hstep HQL
        have hok := HAO.out q HQ.out
        obtain ⟨⟨A0, y, c0⟩, hp⟩ : ∃ p, p = epiece 0 q := ⟨_, rfl⟩
        obtain ⟨⟨A1, u, c1⟩, hv⟩ : ∃ p, p = eval0 q := ⟨_, rfl⟩
        have s0 : Seen w A0 y := by have h5 : Seen w (epiece 0 q).1 (epiece 0 q).2.1 := hok.1.1.seen; rw [← hp] at h5; exact h5
        have HKV : Hid (kv0 q = (y, u)) := by show ((epiece 0 q).2.1, (eval0 q).2.1) = _; rw [← hp, ← hv]
        obtain ⟨ny, hny⟩ : ∃ ny, ny = y.length := ⟨_, rfl⟩
        obtain ⟨nz, hnz⟩ : ∃ nz, nz = u.length := ⟨_, rfl⟩
        have HEC : Hid (ecells 0 q = [.slice A0 ny c0, .slice A1 nz c1]) := by show [pv (epiece 0 q), pv (eval0 q)] = _; rw [← hp, ← hv, hny, hnz]; rfl
        have q0 : wr.cell? ⟨b, off + i * 2, none⟩ = some (.slice A0 ny c0) := by rw [HBR.out.cell (p := ⟨b, off + i * 2, none⟩) hblt, h0, ← hq, ← hp, hny]; rfl
        have q1 : wr.cell? ⟨b, off + i * 2 + 1, none⟩ = some (.slice A1 nz c1) := by rw [HBR.out.cell (p := ⟨b, off + i * 2 + 1, none⟩) hblt, h1, ← hq, ← hv, hnz]; rfl
        have cv : (convert 31 9 (.slice A0 ny c0)).run Try.prog wr = .ok (.string ⟨y.toArray⟩) wr := text_on s0 ny c0 hny.symm _ HBR.out
        have cR : (convert 31 9 (.slice R r rc)).run Try.prog wr = .ok (.string ⟨fr.toArray⟩) wr := HCR.out _ HBR.out
        have cT : (convert 31 9 (.slice T m d)).run Try.prog wr = .ok (.string ⟨to.toArray⟩) wr := HCT.out _ HBR.out
        have hj3 : j ≤ 1000 := by
          have h5 := congrArg List.length HSEL.out
          have h6 := List.length_filter_le (pick fr to) (L.take i)
          rw [List.length_map] at h5
          rw [List.length_take] at h6
          have := HSL.out
          omega
        have hwi : IntKind.i64.wrap ((i : Int) + 1) = ((i + 1 : Nat) : Int) := by rw [IntKind.wrap_i64]; omega
        have HPICK : Hid (pick fr to (kv0 q) = (upTo to (y, u) && !ltK y fr)) := by show _ = _; rw [HKV.out]; rfl
        clear s0 hok h0 h1 hp hv hq hny hnz hil2 hil
        cases hyf : ltK y fr
        · have hge : Op.bytesLess (⟨y.toArray⟩ : ByteArray).toList (⟨fr.toArray⟩ : ByteArray).toList = false := by rw [Lib.toList_data, Lib.toList_data]; exact hyf
          have hge2 : Op.bytesLess y fr = false := hyf
          have hcase : m = 0 ∨ (m ≠ 0 ∧ ltK y to = true) ∨ (m ≠ 0 ∧ ltK y to = false) := by
            cases ltK y to <;> simp <;> omega
          have HTN : Hid (to = [] ↔ m = 0) := by
            have := HTL.out
            exact ⟨fun h => by rw [h] at this; exact this.symm, fun h => List.eq_nil_of_length_eq_zero (by omega)⟩
          rcases hcase with rfl | ⟨hm0, hyt⟩ | ⟨hm0, hyt⟩
          · have HP : Hid (pick fr to (kv0 q) = true) := by show _ = _; rw [HPICK.out, hyf, HTN.out.2 rfl]; rfl
            clear hyf
            go_wp2_with (at_builtin
                         refine wpList_append_cells HR.out rfl _ _ rfl F w.heap.size (.slice B j e) j (rowCells 0 sel) (by rfl) (HOWN.out.alloc _) (some ⟨wr.heap.size, 0, none⟩) [.slice A0 ny c0, .slice A1 nz c1] 1 1 (by rfl) (by rfl) (cells_new wr F [.slice A0 ny c0, .slice A1 nz c1] 48 (fun h => by have h1 := HF.out _ h; have h2 := HBR.out.size; omega)) (two_one A0 ny c0 A1 nz c1) (by omega) (by omega) (by have h2 := HBR.out.size; simp; omega) ?_
                         intro v7 w7 ho7 hg7
                         rw [← HEC.out, ← rowCells_single, ← rowCells_append] at ho7
                         obtain ⟨A7, c7, rfl⟩ := own_shape ho7
                         have O7 := Lib.hid ho7
                         have B7 : Hid (Below w.heap.size w w7) := below_grown (HBR.out.alloc HBR.out.size _) (by have h2 := HBR.out.size; simp; omega) (HOWN.out.alloc _) hg7
                         clear ho7 hg7)
            go_roundg (n - (i + 1))
            case measure => have := HI.out; omega
            case rel =>
              refine ⟨i + 1, j + 1, sel ++ [q], A7, c7, by have := HI.out; omega, rfl, rfl, B7.out, O7.out, by rw [List.length_append, HSL.out]; rfl, fun x hx => ?_, by rw [HSTEP.out, HP.out, List.map_append, HSEL.out]; rfl, by omega⟩
              rcases List.mem_append.1 hx with hx | hx
              · exact HSUB.out x hx
              · rw [List.mem_singleton.1 hx]; exact HQ.out
          · have HP : Hid (pick fr to (kv0 q) = true) := by show _ = _; rw [HPICK.out, hyf]; unfold upTo; rw [hyt]; simp
            have hJ : (m == 0) = false := by rw [beq_eq_false_iff_ne]; omega
            have hJ2 : ((m : Int) == 0) = false := by rw [beq_eq_false_iff_ne]; omega
            have hle : Op.bytesLess (⟨y.toArray⟩ : ByteArray).toList (⟨to.toArray⟩ : ByteArray).toList = true := by rw [Lib.toList_data, Lib.toList_data]; exact hyt
            have hle2 : Op.bytesLess y to = true := hyt
            clear hyf hyt
            go_wp2_with (at_builtin
                         refine wpList_append_cells HR.out rfl _ _ rfl F w.heap.size (.slice B j e) j (rowCells 0 sel) (by rfl) (HOWN.out.alloc _) (some ⟨wr.heap.size, 0, none⟩) [.slice A0 ny c0, .slice A1 nz c1] 1 1 (by rfl) (by rfl) (cells_new wr F [.slice A0 ny c0, .slice A1 nz c1] 48 (fun h => by have h1 := HF.out _ h; have h2 := HBR.out.size; omega)) (two_one A0 ny c0 A1 nz c1) (by omega) (by omega) (by have h2 := HBR.out.size; simp; omega) ?_
                         intro v7 w7 ho7 hg7
                         rw [← HEC.out, ← rowCells_single, ← rowCells_append] at ho7
                         obtain ⟨A7, c7, rfl⟩ := own_shape ho7
                         have O7 := Lib.hid ho7
                         have B7 : Hid (Below w.heap.size w w7) := below_grown (HBR.out.alloc HBR.out.size _) (by have h2 := HBR.out.size; simp; omega) (HOWN.out.alloc _) hg7
                         clear ho7 hg7)
            go_roundg (n - (i + 1))
            case measure => have := HI.out; omega
            case rel =>
              refine ⟨i + 1, j + 1, sel ++ [q], A7, c7, by have := HI.out; omega, rfl, rfl, B7.out, O7.out, by rw [List.length_append, HSL.out]; rfl, fun x hx => ?_, by rw [HSTEP.out, HP.out, List.map_append, HSEL.out]; rfl, by omega⟩
              rcases List.mem_append.1 hx with hx | hx
              · exact HSUB.out x hx
              · rw [List.mem_singleton.1 hx]; exact HQ.out
          · have HP : Hid (pick fr to (kv0 q) = false) := by
              have h7 : to ≠ [] := fun h => hm0 (HTN.out.1 h)
              show _ = _; rw [HPICK.out, hyf]; unfold upTo; rw [hyt]; simp [h7]
            have hJ : (m == 0) = false := by rw [beq_eq_false_iff_ne]; omega
            have hJ2 : ((m : Int) == 0) = false := by rw [beq_eq_false_iff_ne]; omega
            have hle : Op.bytesLess (⟨y.toArray⟩ : ByteArray).toList (⟨to.toArray⟩ : ByteArray).toList = false := by rw [Lib.toList_data, Lib.toList_data]; exact hyt
            have hle2 : Op.bytesLess y to = false := hyt
            clear hyf hyt
            go_wp2_with fail
            go_roundg (n - (i + 1))
            case measure => have := HI.out; omega
            case rel => exact ⟨i + 1, j, sel, B, e, by have := HI.out; omega, rfl, rfl, HBR.out, HOWN.out, HSL.out, HSUB.out, by rw [HSTEP.out, HP.out, HSEL.out]; simp, HMAX.out⟩
        · have hge : Op.bytesLess (⟨y.toArray⟩ : ByteArray).toList (⟨fr.toArray⟩ : ByteArray).toList = true := by rw [Lib.toList_data, Lib.toList_data]; exact hyf
          have hge2 : Op.bytesLess y fr = true := hyf
          have HP : Hid (pick fr to (kv0 q) = false) := by show _ = _; rw [HPICK.out, hyf]; simp
          clear hyf
          go_wp2_with fail
          go_roundg (n - (i + 1))
          case measure => have := HI.out; omega
          case rel => exact ⟨i + 1, j, sel, B, e, by have := HI.out; omega, rfl, rfl, HBR.out, HOWN.out, HSL.out, HSUB.out, by rw [HSTEP.out, HP.out, HSEL.out]; simp, HMAX.out⟩
      · have hE : Z = sel.map kv0 := by
          rw [HZ.out, HSEL.out]
          refine pick_full ?_
          rw [← HSEL.out, List.length_map, HSL.out]
          have := HMAX.out
          omega
        have HD := Lib.hid (HDONE.out hE)
        clear hE
        go_wp2_with fail
        go_ret
        exact HD.out
    · obtain rfl : i = n := by have := HI.out; omega
      have hkl : ¬ (i : Int) < (i : Int) := by omega
      have hE : Z = sel.map kv0 := by
        have h5 := HSEL.out
        rw [HN.out, List.take_length] at h5
        rw [HZ.out, h5]
        refine pick_all ?_
        rw [← h5, List.length_map, HSL.out]
        exact HMAX.out
      have HD := Lib.hid (HDONE.out hE)
      clear hE
      go_wp2_with fail
      go_ret
      exact HD.out
end Go.Proofs.Ytaeocbgmoijedaa

namespace Go.Proofs.Ytaeocbgmoijedaa
open Go.RowKit

theorem PutR.same {room : Int} {L L1 L2 : List Kv} {k v : Key} {r s : Int} (h : PutR room L k v r L1) (h2 : PutR room L k v s L2) : s = r ∧ L2 = L1 := by
  rcases h with ⟨a, rfl, rfl⟩ | ⟨a, rfl, rfl⟩ <;> rcases h2 with ⟨b, rfl, rfl⟩ | ⟨b, rfl, rfl⟩
  · exact ⟨rfl, rfl⟩
  · omega
  · omega
  · exact ⟨rfl, rfl⟩
theorem del_named (w : World) (F : Nat → Prop) (hF : ∀ b, F b → b < w.heap.size) (g : Nat) (room : Int) (L : List Kv) (B : Option Addr) (k : Key) (m d : Nat) (t : TreeAt w F g room L) (hk : Seen w B k) (hm : k.length = m) (hm9 : m ≤ 1000000000) :
    Calls Try.prog 14 #[.pointer (some ⟨g, 0, none⟩), .slice B m d] w fun e w' => e = .returned (.bool (hasL k L)) ∧ TreeAt w' F g room (delL k L) ∧ Spared w w' (fun b => b = g) := by
  have hs := t.srt
  refine (del_any w F hF g room L B k m d t hk hm hm9).mono ?_
  rintro e w' ⟨hsp, ⟨h1, rfl, h3⟩ | ⟨h1, rfl, h3⟩⟩
  · exact ⟨by rw [h1], h3, hsp⟩
  · refine ⟨by rw [h1], ?_, hsp⟩
    rw [delL_not hs h1]; exact h3
theorem scan_named (w : World) (F : Nat → Prop) (g : Nat) (room : Int) (L : List Kv) (R T : Option Addr) (fr to : Key) (r rc m d : Nat) (mo : Int) (t : TreeAt w F g room L) (hr : Seen w R fr) (hrl : fr.length = r) (ht : Seen w T to) (htl : to.length = m) (hmm : m ≤ 9223372036854775807) :
    Calls Try.prog 23 #[.pointer (some ⟨g, 0, none⟩), .slice R r rc, .slice T m d, .int .i64 mo] w (RScanOut w (scanL fr to mo L)) := by
  refine (scan_any w F g room L R T fr to r rc m d mo t hr hrl ht htl hmm).mono ?_
  rintro e w' ⟨hb, B0, acc, v, rfl, _, hf, hacc⟩
  obtain ⟨A, c, rfl⟩ := hf.form
  exact ⟨hb, A, _, c, rfl, (kv_length hacc).symm, hf.kv hacc⟩
/-- the tree in block g and the document's map in block gm, side by side -/
structure Both (w : World) (g gm : Nat) (room : Int) (L : List Kv) : Prop where
  ne : g ≠ gm
  tree : TreeAt w (fun b => b = g ∨ b = gm) g room L
  map : MapAt w (fun b => b = g ∨ b = gm) gm room L
section
variable {w w' : World} {g gm : Nat} {room : Int} {L : List Kv}
theorem Both.below (h : Both w g gm room L) (hb : Below w.heap.size w w') : Both w' g gm room L := ⟨h.ne, h.tree.below hb, h.map.below hb⟩
theorem Both.lt (h : Both w g gm room L) : ∀ b, b = g ∨ b = gm → b < w.heap.size := by
  rintro b (rfl | rfl)
  · exact h.tree.lt
  · exact h.map.lt
/-- behind a call of the tree -/
theorem Both.tree' (h : Both w g gm room L) (hs : Spared w w' (fun b => b = g)) : MapAt w' (fun b => b = g ∨ b = gm) gm room L := h.map.moved (hs.mono (fun _ hb => ⟨.inl hb, fun e => h.ne (hb.symm.trans e)⟩)) (fun _ h => .inl h) (.inr rfl)
/-- behind a call of the map -/
theorem Both.map' (hne : g ≠ gm) (t : TreeAt w (fun b => b = g ∨ b = gm) g room L) (hs : Spared w w' (fun b => b = gm)) : TreeAt w' (fun b => b = g ∨ b = gm) g room L := t.moved (hs.mono (fun _ hb => ⟨.inr hb, fun e => hne (e.symm.trans hb)⟩)) (fun _ h => .inl h) (.inl rfl)
end
/-- what a call by both leaves -/
def DoOut (w : World) (g gm : Nat) (room : Int) (L : List Kv) (e : Ending) (w' : World) : Prop :=
  e = .returned (.bool true) ∧ Spared w w' (fun b => b = g ∨ b = gm) ∧ ∃ L', Both w' g gm room L' ∧ L'.length ≤ L.length + 1

set_option maxRecDepth 100000 in
set_option maxHeartbeats 4000000 in
theorem do_any (w : World) (g gm : Nat) (room : Int) (L : List Kv) (K V : Option Addr) (y x : Key) (m z ck cv : Nat) (kd nm : Int) (t : Both w g gm room L) (hl : L.length ≤ 999) (hy : ∀ W, Spared w W (fun b => b = g ∨ b = gm) → Seen W K y) (hym : y.length = m) (hx : ∀ W, Spared w W (fun b => b = g ∨ b = gm) → Seen W V x) (hxz : x.length = z) (hm1 : m ≤ 100) (hz1 : z ≤ 100) :
    Calls Try.prog 15 #[.pointer (some ⟨g, 0, none⟩), .pointer (some ⟨gm, 0, none⟩), .agg #[.int .i64 kd, .slice K m ck, .slice V z cv, .int .i64 nm]] w (DoOut w g gm room L) := by
  have hlt := t.lt
  have HNE : Hid (g ≠ gm) := t.ne
  have HSRT : Hid (Srt L) := t.tree.srt
  obtain ⟨s, hs⟩ : ∃ s, s = w.heap.size := ⟨_, rfl⟩
  obtain ⟨w5, hw5⟩ : ∃ w5, w5 = w.alloc (.cells #[.int .i64 kd, .slice K m ck, .slice V z cv, .int .i64 nm] 33) := ⟨_, rfl⟩
  have hb5 : Below w.heap.size w w5 := by rw [hw5]; exact (Below.refl _ _).alloc (Nat.le_refl _) _
  have t5 := t.below hb5
  have HT5 := Lib.hid t5
  have HOB : Hid (∀ W, Spared w5 W (fun b => b = g ∨ b = gm) → W.cell? ⟨s, 0, none⟩ = some (.int .i64 kd) ∧ W.cell? ⟨s, 1, none⟩ = some (.slice K m ck) ∧ W.cell? ⟨s, 2, none⟩ = some (.slice V z cv) ∧ W.cell? ⟨s, 3, none⟩ = some (.int .i64 nm)) := fun W hW => by
    have h1 : Blk w5 s [.int .i64 kd, .slice K m ck, .slice V z cv, .int .i64 nm] 33 := by rw [hw5, hs]; exact Blk.new w _ _
    have h2 := hW.blk h1 (fun h => by have := hlt s h; omega)
    exact ⟨h2.cell (i := 0) (by simp), h2.cell (i := 1) (by simp), h2.cell (i := 2) (by simp), h2.cell (i := 3) (by simp)⟩
  have sp5 : Spared w w5 (fun b => b = g ∨ b = gm) := .of_below hb5 _
  have HSP5 := Lib.hid sp5
  have HY : Hid (∀ W, Spared w5 W (fun b => b = g ∨ b = gm) → Seen W K y) := fun W hW => hy W (sp5.trans hW (fun _ h => .inl h))
  have HX : Hid (∀ W, Spared w5 W (fun b => b = g ∨ b = gm) → Seen W V x) := fun W hW => hx W (sp5.trans hW (fun _ h => .inl h))
  have HLT : Hid (∀ W, Spared w5 W (fun b => b = g ∨ b = gm) → ∀ b, b = g ∨ b = gm → b < W.heap.size) := fun W hW b hb => Nat.lt_of_lt_of_le (t5.lt b hb) hW.size
  have HW5 := Lib.hid hw5
  have HS := Lib.hid hs
  have HYM := Lib.hid hym
  have HXZ := Lib.hid hxz
  have HL := Lib.hid hl
  have HDL : Hid ((delL y L).length ≤ L.length + 1) := by
    show _ ≤ _
    cases hh : hasL y L
    · rw [delL_not HSRT.out hh]; omega
    · have := (sizeL_has HSRT.out hh).2; omega
  have bd : Below w5.heap.size w5 w5.drew := (Below.refl _ _).drew
  have HMV : Hid (∀ W, Spared w5 W (fun b => b = g) → Spared w5 W (fun b => b = g ∨ b = gm)) := fun W hW => hW.mono (fun _ h => .inl h)
  clear t hy hym hx hxz hl sp5 hb5 hw5 hs hlt t5
  by_cases k0 : kd = 0
  · subst k0
    have HPT : Hid (∀ W, Below w5.heap.size w5 W → Calls Try.prog 13 #[.pointer (some ⟨g, 0, none⟩), .slice K m ck, .slice V z cv] W fun e w' => ∃ (r : Int) (L' : List Kv), e = .returned (.int .i64 r) ∧ TreeAt w' (fun b => b = g ∨ b = gm) g room L' ∧ Spared W w' (fun b => b = g) ∧ PutR room L y x r L') := fun W hW =>
      put_named W _ (HLT.out W (.of_below hW _)) g room L K V y x m ck z cv (HT5.out.tree.below hW) (by have := HL.out; omega) (HY.out W (.of_below hW _)) HYM.out (HX.out W (.of_below hW _)) HXZ.out (by omega) (by omega)
    have HPM : Hid (∀ W, Spared w5 W (fun b => b = g) → Calls Try.prog 33 #[.pointer (some ⟨gm, 0, none⟩), .slice K m ck, .slice V z cv] W (RPutOut W (fun b => b = g ∨ b = gm) gm room L y x)) := fun W hW =>
      rput_any W _ (HLT.out W (HMV.out W hW)) gm room L K V y x m ck z cv (HT5.out.tree' hW) HL.out (HY.out W (HMV.out W hW)) HYM.out (HX.out W (HMV.out W hW)) HXZ.out (by omega) (by omega)
    go_enter Try.func15, Try.ntmps15
    go_wp2_with fail
    rw [← HW5.out, ← HS.out]
    have HC : Hid (∀ W, Spared w5 W (fun b => b = g ∨ b = gm) → W.cell? ⟨s, 1, none⟩ = some (.slice K m ck) ∧ W.cell? ⟨s, 2, none⟩ = some (.slice V z cv)) := fun W hW => ⟨(HOB.out W hW).2.1, (HOB.out W hW).2.2.1⟩
    have S5D : Spared w5 w5.drew (fun b => b = g ∨ b = gm) := .of_below bd _
    go_region_held_law (fun W => W.cell? ⟨s, 1, none⟩ = some (.slice K m ck) ∧ W.cell? ⟨s, 2, none⟩ = some (.slice V z cv))
      (first | exact HC.out _ S5D | exact HC.out _ S6 | exact HC.out _ S7)
      (first
        | (go_at_call 13; (with_reducible refine (HPT.out _ bd).mono ?_); rintro e w6 ⟨r, L1, rfl, ht6, hs6, hr6⟩; have T6 := Lib.hid ht6; have S6G := (Spared.of_below bd (fun b => b = g)).trans hs6 (fun _ h => .inl h); have S6 := HMV.out _ S6G; have HR := Lib.hid hr6; clear ht6 hs6 hr6)
        | (go_at_call 33; (with_reducible refine (HPM.out _ S6G).mono ?_); rintro e w7 ⟨r7, L7, rfl, ht7, hs7, hr7⟩; obtain ⟨rfl, rfl⟩ := HR.out.same hr7; have T7 : Hid (Both w7 g gm room L7) := ⟨HNE.out, Both.map' HNE.out T6.out hs7, ht7⟩; have S7 := S6.trans (hs7.mono (fun _ h => .inr h)) (fun _ h => .inl h); clear ht7 hs7 hr7))
    all_goals
      go_wp2_with fail
      go_ret
      exact ⟨rfl, HSP5.out.trans S7 (fun _ h => .inl h), L7, T7.out, HR.out.length HSRT.out⟩
  have e0 : (kd == 0) = false := by rw [beq_eq_false_iff_ne]; exact k0
  by_cases k1 : kd = 1
  · subst k1
    clear k0 e0
    have HPT : Hid (∀ W, Below w5.heap.size w5 W → Calls Try.prog 14 #[.pointer (some ⟨g, 0, none⟩), .slice K m ck] W fun e w' => e = .returned (.bool (hasL y L)) ∧ TreeAt w' (fun b => b = g ∨ b = gm) g room (delL y L) ∧ Spared W w' (fun b => b = g)) := fun W hW =>
      del_named W _ (HLT.out W (.of_below hW _)) g room L K y m ck (HT5.out.tree.below hW) (HY.out W (.of_below hW _)) HYM.out (by omega)
    have HPM : Hid (∀ W, Spared w5 W (fun b => b = g) → Calls Try.prog 34 #[.pointer (some ⟨gm, 0, none⟩), .slice K m ck] W (RDelOut W (fun b => b = g ∨ b = gm) gm room L y)) := fun W hW =>
      rdel_any W _ (HLT.out W (HMV.out W hW)) gm room L K y m ck (HT5.out.tree' hW) (HY.out W (HMV.out W hW)) HYM.out
    obtain ⟨bb, hbb⟩ : ∃ bb, bb = hasL y L := ⟨_, rfl⟩
    rw [← hbb] at HPT
    have HBB := Lib.hid hbb
    clear hbb
    go_enter Try.func15, Try.ntmps15
    go_wp2_with fail
    rw [← HW5.out, ← HS.out]
    have HC : Hid (∀ W, Spared w5 W (fun b => b = g ∨ b = gm) → W.cell? ⟨s, 1, none⟩ = some (.slice K m ck)) := fun W hW => (HOB.out W hW).2.1
    have S5D : Spared w5 w5.drew (fun b => b = g ∨ b = gm) := .of_below bd _
    go_region_held_law (fun W => W.cell? ⟨s, 1, none⟩ = some (.slice K m ck))
      (first | exact HC.out _ S5D | exact HC.out _ S6 | exact HC.out _ S7)
      (first
        | (go_at_call 14; (with_reducible refine (HPT.out _ bd).mono ?_); rintro e w6 ⟨rfl, ht6, hs6⟩; have T6 := Lib.hid ht6; have S6G := (Spared.of_below bd (fun b => b = g)).trans hs6 (fun _ h => .inl h); have S6 := HMV.out _ S6G; clear ht6 hs6)
        | (go_at_call 34; (with_reducible refine (HPM.out _ S6G).mono ?_); rintro e w7 ⟨rfl, ht7, hs7⟩; have T7 : Hid (Both w7 g gm room (delL y L)) := ⟨HNE.out, Both.map' HNE.out T6.out hs7, ht7⟩; have S7 := S6.trans (hs7.mono (fun _ h => .inr h)) (fun _ h => .inl h); rw [← HBB.out]; clear ht7 hs7))
    all_goals
      go_wp2_with fail
      go_ret
      exact ⟨rfl, HSP5.out.trans S7 (fun _ h => .inl h), _, T7.out, HDL.out⟩
  have e1 : (kd == 1) = false := by rw [beq_eq_false_iff_ne]; exact k1
  by_cases k2 : kd = 2
  · subst k2
    clear k0 e0 k1 e1
    obtain ⟨u, hu⟩ : ∃ u, u = gv y L := ⟨_, rfl⟩
    obtain ⟨hb, hhb⟩ : ∃ hb, hb = hasL y L := ⟨_, rfl⟩
    have hgt := get_named w5 _ g room L K y m ck HT5.out.tree (HY.out w5 (.refl _ _)) HYM.out
    have hgm := fun W hW => rget_any W _ gm room L K y m ck (HT5.out.map.below hW) (HY.out W (.of_below hW _)) HYM.out
    rw [← hu, ← hhb] at hgt hgm
    have HGT := Lib.hid hgt
    have HPM := Lib.hid hgm
    clear hu hhb hgt hgm
    go_enter Try.func15, Try.ntmps15
    go_wp2_with fail
    rw [← HW5.out, ← HS.out]
    with_reducible refine HGT.out.mono ?_
    rintro e w6 ⟨hb6, X6, n6, c6, rfl, hs6, hn6⟩
    have S6 := Lib.hid hs6.seen
    have N6 := Lib.hid hn6
    have B6 := Lib.hid hb6
    obtain ⟨_, q1, _, _⟩ := HOB.out w6 (.of_below hb6 _)
    have HGM := Lib.hid (HPM.out w6 hb6)
    clear hb6 hs6 hn6 HPM HGT
    go_wp2_with fail
    with_reducible refine HGM.out.mono ?_
    rintro e w7 ⟨hb7, X7, n7, c7, rfl, hs7, hn7⟩
    have B7 := Lib.hid (hop B6.out hb7)
    have s67 := S6.out.below hb7
    have cA : (convert 31 9 (.slice X6 n6 c6)).run Try.prog w7 = .ok (.string ⟨u.toArray⟩) w7 := text_on s67 n6 c6 N6.out _ (Below.refl _ _)
    have cB : (convert 31 9 (.slice X7 n7 c7)).run Try.prog w7 = .ok (.string ⟨u.toArray⟩) w7 := text_on hs7 n7 c7 hn7 _ (Below.refl _ _)
    clear hb7 s67 hs7 hn7
    go_wp2_with fail
    go_ret
    exact ⟨rfl, HSP5.out.trans (.of_below B7.out _) (fun _ h => .inl h), L, HT5.out.below B7.out, Nat.le_succ _⟩
  have e2 : (kd == 2) = false := by rw [beq_eq_false_iff_ne]; exact k2
  by_cases k3 : kd = 3
  · subst k3
    clear k0 e0 k1 e1 k2 e2
    obtain ⟨Z, hZ⟩ : ∃ Z, Z = scanL y x nm L := ⟨_, rfl⟩
    obtain ⟨nz, hnz⟩ : ∃ nz, Z.length = nz := ⟨_, rfl⟩
    have HNZ := Lib.hid hnz
    have HNL : Hid (nz ≤ 1000000) := by
      show _ ≤ _
      have h6 := List.length_filter_le (pick y x) L
      rw [← hnz, hZ, scan_doc y x nm L HSRT.out, List.length_take]
      have := HL.out
      omega
    have HPT : Hid (∀ W, Below w5.heap.size w5 W → Calls Try.prog 23 #[.pointer (some ⟨g, 0, none⟩), .slice K m ck, .slice V z cv, .int .i64 nm] W (RScanOut W Z)) := fun W hW => by
      rw [hZ]; exact scan_named W _ g room L K V y x m ck z cv nm (HT5.out.tree.below hW) (HY.out W (.of_below hW _)) HYM.out (HX.out W (.of_below hW _)) HXZ.out (by omega)
    have HPM : Hid (∀ W, Below w5.heap.size w5 W → Calls Try.prog 36 #[.pointer (some ⟨gm, 0, none⟩), .slice K m ck, .slice V z cv, .int .i64 nm] W (RScanOut W Z)) := fun W hW => by
      rw [hZ]; exact rscan_any W _ (HLT.out W (.of_below hW _)) gm room L K V y x m ck z cv nm (HT5.out.map.below hW) (HY.out W (.of_below hW _)) HYM.out (HX.out W (.of_below hW _)) HXZ.out (by omega)
    clear hZ hnz
    go_enter Try.func15, Try.ntmps15
    go_wp2_with fail
    rw [← HW5.out, ← HS.out]
    have HC : Hid (∀ W, Below w5.heap.size w5 W → W.cell? ⟨s, 1, none⟩ = some (.slice K m ck) ∧ W.cell? ⟨s, 2, none⟩ = some (.slice V z cv) ∧ W.cell? ⟨s, 3, none⟩ = some (.int .i64 nm)) := fun W hW => (HOB.out W (.of_below hW _)).2
    go_region_held_law (fun W => W.cell? ⟨s, 1, none⟩ = some (.slice K m ck) ∧ W.cell? ⟨s, 2, none⟩ = some (.slice V z cv) ∧ W.cell? ⟨s, 3, none⟩ = some (.int .i64 nm))
      (first | exact HC.out _ bd | exact HC.out _ B6 | exact HC.out _ B7 | exact HC.out _ B8)
      (first
        | (go_at_call 23; (with_reducible refine (HPT.out _ bd).mono ?_); rintro e w6 ⟨hb6, A6, n6, c6, rfl, hn6, hk6⟩; obtain rfl : n6 = nz := hn6.symm.trans HNZ.out; have B6 := hop bd hb6; have K6 := Lib.hid hk6; clear hb6 hn6 hk6)
        | (go_at_call 36; (with_reducible refine (HPM.out _ B6).mono ?_); rintro e w7 ⟨hb7, A7, n7, c7, rfl, hn7, hk7⟩; obtain rfl : n7 = n6 := hn7.symm.trans HNZ.out; have B7 := hop B6 hb7; have K7 := Lib.hid hk7; have K67 := Lib.hid (K6.out.below hb7); clear hb7 hn7 hk7)
        | (go_at_call 22; (with_reducible refine (pairs_same w7 A6 A7 Z n7 c6 c7 HNZ.out HNL.out K67.out K7.out).mono ?_); rintro e w8 ⟨rfl, hb8⟩; have B8 := hop B7 hb8; clear hb8))
    all_goals
      go_wp2_with fail
      go_ret
      exact ⟨rfl, HSP5.out.trans (.of_below B8 _) (fun _ h => .inl h), L, HT5.out.below B8, Nat.le_succ _⟩
  have e3 : (kd == 3) = false := by rw [beq_eq_false_iff_ne]; exact k3
  obtain ⟨c1, c2, c3, c4⟩ := HOB.out w5 (.refl _ _)
  go_enter Try.func15, Try.ntmps15
  go_wp2_with fail
  rw [← HW5.out]
  go_ret
  exact ⟨rfl, HSP5.out, L, HT5.out, Nat.le_succ _⟩
end Go.Proofs.Ytaeocbgmoijedaa
