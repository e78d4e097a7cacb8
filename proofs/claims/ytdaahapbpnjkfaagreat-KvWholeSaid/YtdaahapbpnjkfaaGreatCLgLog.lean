/-
  'append' onto a row of the call's own, with the new list and its length named ahead. No program is named here.
  What the program's Size and Encode come to: the size, and the bytes, of a frame. Condition: the data are at most 2^46 bytes.
  What the program's Encode comes to: the bytes of a frame, or none. Condition: the data are at most 2^46 bytes.
  A log's methods: Gen, Seq, Room, and Append. Conditions: how the log and its disk lie in memory; as each says.
-/
import Derived.Test.YtdaahapbpnjkfaaGreatCLgPut
import Derived.Test.YtdaahapbpnjkfaaGreatCOrd
import Derived.Test.YtdaahapbpnjkfaaGreatCFrL
import Derived.Test.YtdaahapbpnjkfaaGreatCLgWrite
namespace Go.Proofs.YtdaahapbpnjkfaaGreat
open Go.RowKit
theorem MadeN.below {e : TypeId} {w0 w w' : World} {l : List UInt8} {A : Option Addr} {n c : Nat} (h : MadeN e w0 l A n c w) (hb : Below w.heap.size w w') : MadeN e w0 l A n c w' := ⟨h.1, h.2.below hb⟩
theorem wpList_append_to {P : Program} (w : World) {ops : Array Oper} {rest : List Oper} {o : Oper} {a : Act} {Q : Exit → Act → World → Prop} (hgd : o.guard = none) (s x : Operand) (t : TypeId)
    (ho : o.op = .call { callee := .builtin .append, args := #[s, x], argTypes := #[t, t] })
    (e : TypeId) (i : TypeInfo) (z : Value) (ht : P.underlying t = some (.slice e)) (hi : P.info? e = some i) (hz : i.zero = some z)
    (hsize : i.size = 1) (hby : i.bytes = 1) (hzs : z.cells.size = 1)
    (w0 : World) (A : Option Addr) (n c : Nat) (d : List UInt8) (B : Option Addr) (m k : Nat) (l : List UInt8) (D : List UInt8) (N : Nat) (hs : a.eval s = .slice A n c) (hx : a.eval x = .slice B m k)
    (H : Hid (MadeN e w0 d A n c w)) (hr : Hid (Seen w B l)) (hm : Hid (l.length = m)) (hD : Hid (D = d ++ l)) (hN : Hid (N = n + m)) (hb : n + m ≤ 140737488355328)
    (h : ∀ A' c' w', Hid (MadeN e w0 D A' N c' w') → Hid (Below w0.heap.size w w') → wpList P ops Q rest (a.put o.dst (.slice A' N c')) w') :
    wpList P ops Q (o :: rest) a w := by
  have hm := hm.out
  subst hm
  refine wpList_append_bytes w hgd s x t ho e i z ht hi hz hsize hby hzs w0 (.slice A n c) d B l k hs hx H.out.2 hr.out (by rw [H.out.1]; exact hb) (fun v' w' HM hbl => ?_)
  obtain ⟨A', c', rfl, _⟩ := HM.form
  rw [← hD.out] at HM
  have hl : D.length = N := by rw [hD.out, hN.out, List.length_append, H.out.1]
  have e1 : (d ++ l).length = N := by rw [← hD.out]; exact hl
  rw [hl] at HM
  rw [e1]
  exact h A' c' w' ⟨hl, HM⟩ hbl
theorem wpList_append_new {P : Program} (w : World) {ops : Array Oper} {rest : List Oper} {o : Oper} {a : Act} {Q : Exit → Act → World → Prop} (hgd : o.guard = none) (s x : Operand) (t : TypeId)
    (ho : o.op = .call { callee := .builtin .append, args := #[s, x], argTypes := #[t, t] })
    (e : TypeId) (i : TypeInfo) (z : Value) (ht : P.underlying t = some (.slice e)) (hi : P.info? e = some i) (hz : i.zero = some z)
    (hsize : i.size = 1) (hby : i.bytes = 1) (hzs : z.cells.size = 1)
    (w0 : World) (A : Option Addr) (n c : Nat) (d : List UInt8) (m : Nat) (cs : Array Value) (l : List UInt8) (D : List UInt8) (N : Nat) (hs : a.eval s = .slice A n c) (b : Nat) (hb0 : w.heap.size = b) (hx : a.eval x = .slice (some ⟨b, 0, none⟩) m m)
    (H : Hid (MadeN e w0 d A n c w)) (hcs : (l.map bv).toArray = cs) (hm : Hid (l.length = m)) (hD : Hid (D = d ++ l)) (hN : Hid (N = n + m)) (hb : n + m ≤ 140737488355328)
    (h : ∀ A' c' w', Hid (MadeN e w0 D A' N c' w') → Hid (Below w0.heap.size w w') → wpList P ops Q rest (a.put o.dst (.slice A' N c')) w') :
    wpList P ops Q (o :: rest) a (w.alloc (.cells cs e)) := by
  subst hcs
  subst hb0
  have hal : Below w.heap.size w (w.alloc (.cells (l.map bv).toArray e)) := (Below.refl _ _).alloc (Nat.le_refl _) _
  exact wpList_append_to (w.alloc (.cells (l.map bv).toArray e)) hgd s x t ho e i z ht hi hz hsize hby hzs w0 A n c d (some ⟨w.heap.size, 0, none⟩) m m l D N hs hx (H.out.below hal) (seen_mark w e l (0, 0)) hm hD hN hb
    (fun A' c' w' h1 h2 => h A' c' w' h1 ((hal.mono H.out.2.2.size).trans h2.out))
def Grew (w : World) (v : Value) (w' : World) (v' : Value) : Prop := w.grownBy w' v.ownBlock ∧ (v'.ownBlock = v.ownBlock ∨ ∃ g, v'.ownBlock = some g ∧ w.heap.size ≤ g)
theorem Grew.after {w w1 w2 : World} {v v' : Value} (h : Grew w1 v w2 v') (hb : Below w.heap.size w w1) : Grew w v w2 v' :=
  ⟨only_trans (only_of_below hb _) h.1, h.2.elim .inl (fun ⟨g, h1, h2⟩ => .inr ⟨g, h1, Nat.le_trans hb.size h2⟩)⟩
theorem Grew.trans {w w1 w2 : World} {v v1 v2 : Value} (h : Grew w v w1 v1) (k : Grew w1 v1 w2 v2) : Grew w v w2 v2 := by
  refine ⟨⟨k.1.os.trans h.1.os, k.1.tape.trans h.1.tape, k.1.output.trans h.1.output, Nat.le_trans h.1.size k.1.size, fun i hi hn => ?_⟩, ?_⟩
  · refine (k.1.block i (Nat.lt_of_lt_of_le hi h.1.size) ?_).trans (h.1.block i hi hn)
    rcases h.2 with e | ⟨g, e, hg⟩
    · rw [e]; exact hn
    · rw [e]; intro e'; injection e' with e'; omega
  · rcases k.2 with e | ⟨g, e, hg⟩
    · rw [e]; exact h.2
    · exact .inr ⟨g, e, Nat.le_trans h.1.size hg⟩
theorem run_append_to {P : Program} (w : World) (t ty e : TypeId) (i : TypeInfo) (z : Value) (ht : P.underlying t = some (.slice e)) (hi : P.info? e = some i) (hz : i.zero = some z)
    (hsize : i.size = 1) (hby : i.bytes = 1) (hzs : z.cells.size = 1)
    (w0 : World) (A : Option Addr) (n c : Nat) (d : List UInt8) (B : Option Addr) (m k : Nat) (l : List UInt8) (D : List UInt8) (N : Nat)
    (H : Hid (MadeN e w0 d A n c w)) (hr : Hid (Seen w B l)) (hm : Hid (l.length = m)) (hD : Hid (D = d ++ l)) (hN : Hid (N = n + m)) (hb : n + m ≤ 140737488355328) :
    ∃ A' c' w', (Builtin.append_ #[t, t] ty #[.slice A n c, .slice B m k]).run P w = .ok (.slice A' N c') w' ∧ Hid (MadeN e w0 D A' N c' w') ∧ Hid (Below w0.heap.size w w') ∧ Hid (Grew w (.slice A n c) w' (.slice A' N c')) := by
  have hm := hm.out
  subst hm
  have hown : w.ownsRow w0.heap.size e 1 (.slice A n c) d.length (d.map bv) := H.out.2.1
  obtain ⟨v', w', hrun, hown', hg, hat⟩ := run_append_seen (P := P) w w0.heap.size t ty e i z ht hi hz hsize hby hzs (.slice A n c) d.length (d.map bv) hown B l k hr.out (by rw [H.out.1]; exact hb) H.out.2.2.size
  have hB := H.out.2.2
  have e1 : d.length + l.length = N := by rw [hN.out, H.out.1]
  have hlen : D.length = N := by rw [hD.out, List.length_append]; exact e1
  have hown2 : w'.ownsRow w0.heap.size e 1 v' D.length (D.map bv) := by
    rw [hD.out, List.map_append, List.length_append]
    exact hown'
  have hmade : Made e w0 D v' w' := ⟨hown2, below_grown hB hB.size hown hg⟩
  obtain ⟨A', c', rfl, _⟩ := hmade.form
  rw [hlen] at hrun hmade
  refine ⟨A', c', w', hrun, ⟨hlen, hmade⟩, below_grown (Below.refl _ _) hB.size hown hg, hg, ?_⟩
  rw [hlen] at hat
  exact hat.elim .inl (fun h => .inr ⟨_, h, Nat.le_refl _⟩)
theorem step_append_to {P : Program} {ops : Array Oper} {o : Oper} {a : Act} {K : Act → World → Prop} {Q : Exit → Act → World → Prop} {E : Prop} (w : World) (hgd : o.guard = none) (s x : Operand) (t : TypeId)
    (ho : o.op = .call { callee := .builtin .append, args := #[s, x], argTypes := #[t, t] })
    (e : TypeId) (i : TypeInfo) (z : Value) (ht : P.underlying t = some (.slice e)) (hi : P.info? e = some i) (hz : i.zero = some z)
    (hsize : i.size = 1) (hby : i.bytes = 1) (hzs : z.cells.size = 1)
    (w0 : World) (A : Option Addr) (n c : Nat) (d : List UInt8) (B : Option Addr) (m k : Nat) (l : List UInt8) (D : List UInt8) (N : Nat) (hs : a.eval s = .slice A n c) (hx : a.eval x = .slice B m k)
    (H : Hid (MadeN e w0 d A n c w)) (hr : Hid (Seen w B l)) (hm : Hid (l.length = m)) (hD : Hid (D = d ++ l)) (hN : Hid (N = n + m)) (hb : n + m ≤ 140737488355328)
    (h : ∀ A' c' w', Hid (MadeN e w0 D A' N c' w') → Hid (Below w0.heap.size w w') → Hid (Grew w (.slice A n c) w' (.slice A' N c')) → K (a.put o.dst (.slice A' N c')) w') :
    if Region.wanted o (yielded ops a.tmps) = true then Oper.wp P o a w K Q else E := by
  have hw : Region.wanted o (yielded ops a.tmps) = true := by simp [Region.wanted, hgd]
  rw [if_pos hw]
  obtain ⟨A', c', w', hrun, h1, h2, h3⟩ := run_append_to (P := P) w t o.type e i z ht hi hz hsize hby hzs w0 A n c d B m k l D N H hr hm hD hN hb
  unfold Oper.wp execOp
  simp only [ho, resolve, invoke, builtin, Sem.run_bind, Sem.run_pure, Result.andThen_ok, List.map_toArray, List.map_cons, List.map_nil, hs, hx, hrun]
  exact h A' c' w' h1 h2 h3
theorem wpList_append_by {P : Program} (w : World) {ops : Array Oper} {rest : List Oper} {o : Oper} {a : Act} {Q : Exit → Act → World → Prop} (hgd : o.guard = none) (s x : Operand) (t : TypeId)
    (ho : o.op = .call { callee := .builtin .append, args := #[s, x], argTypes := #[t, t] })
    (e : TypeId) (i : TypeInfo) (z : Value) (ht : P.underlying t = some (.slice e)) (hi : P.info? e = some i) (hz : i.zero = some z)
    (hsize : i.size = 1) (hby : i.bytes = 1) (hzs : z.cells.size = 1)
    (w0 : World) (A : Option Addr) (n c : Nat) (d : List UInt8) (B : Option Addr) (m k : Nat) (l : List UInt8) (D : List UInt8) (N : Nat) (hs : a.eval s = .slice A n c) (hx : a.eval x = .slice B m k)
    (H : Hid (MadeN e w0 d A n c w)) (hr : Hid (Seen w B l)) (hm : Hid (l.length = m)) (hD : Hid (D = d ++ l)) (hN : Hid (N = n + m)) (hb : n + m ≤ 140737488355328)
    (h : ∀ A' c' w', Hid (MadeN e w0 D A' N c' w') → Hid (Grew w (.slice A n c) w' (.slice A' N c')) → wpList P ops Q rest (a.put o.dst (.slice A' N c')) w') :
    wpList P ops Q (o :: rest) a w := by
  refine wpList_plain hgd fun K hK => ?_
  obtain ⟨A', c', w', hrun, h1, _, h3⟩ := run_append_to (P := P) w t o.type e i z ht hi hz hsize hby hzs w0 A n c d B m k l D N H hr hm hD hN hb
  unfold Oper.wp execOp
  simp only [ho, resolve, invoke, builtin, Sem.run_bind, Sem.run_pure, Result.andThen_ok, List.map_toArray, List.map_cons, List.map_nil, hs, hx, hrun]
  exact hK _ _ (h A' c' w' h1 h3)
end Go.Proofs.YtdaahapbpnjkfaaGreat
namespace Go.Proofs.YtdaahapbpnjkfaaGreat
open Go.RowKit
theorem ret_bool {a b : Bool} (h : a = b) : Ending.returned (.bool a) = .returned (.bool b) := by rw [h]
theorem size_any (n : Int) (w : World) (h0 : -9223372036854775808 ≤ n) (h1 : n ≤ 9223372036854775807) :
    Calls Tryz.prog 115 #[.int .i64 n] w fun e w' => e = .returned (.int .i64 (sizeL n)) ∧ Below w.heap.size w w' := by
  by_cases hn : n < 0
  · have HE : Hid (sizeL n = 0) := if_pos (.inl hn)
    go_enter Tryz.func115, Tryz.ntmps115
    go_wp2_with fail
    go_ret
    exact ⟨ret_int HE.out.symm, Below.refl _ _⟩
  · by_cases hb : 65536 < n
    · have HE : Hid (sizeL n = 0) := if_pos (.inr hb)
      have hn' : 0 ≤ n := by omega
      clear hn
      go_enter Tryz.func115, Tryz.ntmps115
      go_wp2_with fail
      go_ret
      exact ⟨ret_int HE.out.symm, Below.refl _ _⟩
    · obtain ⟨m, rfl⟩ := Int.eq_ofNat_of_zero_le (show 0 ≤ n by omega)
      have HE : Hid (sizeL (m : Int) = ((putL m).length : Int) + m + 21) := by show _ = _; rw [sizeL, if_neg (by omega)]; rfl
      have hm : m ≤ 65536 := by omega
      have h3 := putL3 hm
      have HL : Hid ((putL m).length ≤ 3) := h3
      clear hn hb h3
      go_enter Tryz.func115, Tryz.ntmps115
      go_wp2_with fail
      refine (put_made m _ (by omega)).mono ?_
      rintro e w1 ⟨A, k, c, rfl, hk⟩
      have HK := Lib.hid hk.1
      have HB := Lib.hid hk.2.2
      have hk3 : k ≤ 3 := by have := HL.out; have := HK.out; omega
      clear hk
      go_wp2_with fail
      go_ret
      refine ⟨ret_int ?_, HB.out⟩
      rw [HE.out, HK.out]; omega
def inB (n : Int) : Bool := decide (0 ≤ n ∧ n ≤ 1152921504606846976)
theorem inRange_any (n : Int) (w : World) (h0 : -9223372036854775808 ≤ n) (h1 : n ≤ 9223372036854775807) :
    Calls Tryz.prog 116 #[.int .i64 n] w fun e w' => e = .returned (.bool (inB n)) ∧ w = w' := by
  by_cases hn : n < 0
  · have HE : Hid (inB n = false) := decide_eq_false (by omega)
    go_enter Tryz.func116, Tryz.ntmps116
    go_wp2_with fail
    go_ret
    exact ⟨ret_bool HE.out.symm, rfl⟩
  · have hn' : 0 ≤ n := by omega
    clear hn
    by_cases hb : n ≤ 1152921504606846976
    · have HE : Hid (inB n = true) := decide_eq_true ⟨hn', hb⟩
      go_enter Tryz.func116, Tryz.ntmps116
      go_wp2_with fail
      go_ret
      exact ⟨ret_bool HE.out.symm, rfl⟩
    · have HE : Hid (inB n = false) := decide_eq_false (by omega)
      go_enter Tryz.func116, Tryz.ntmps116
      go_wp2_with fail
      go_ret
      exact ⟨ret_bool HE.out.symm, rfl⟩
set_option maxHeartbeats 400000 in
theorem appendNumber_any (w0 w : World) (A : Option Addr) (d : List UInt8) (n c m : Nat) (H : MadeN 5 w0 d A n c w) (hm : m ≤ 9223372036854775807) (hb : n ≤ 140737488355000) :
    Calls Tryz.prog 87 #[.slice A n c, .int .i64 (m : Int)] w fun e w' => ∃ A' n' c', e = .returned (.slice A' n' c') ∧ MadeN 5 w0 (d ++ putL m) A' n' c' w' ∧ n' ≤ n + 9 ∧ Grew w (.slice A n c) w' (.slice A' n' c') := by
  obtain ⟨i0, hi, hz0, hz1, hz2⟩ := info_parts info8p
  have HH := Lib.hid H
  have H9 := Lib.hid (putL_length9 hm)
  clear H
  go_enter Tryz.func87, Tryz.ntmps87
  go_wp2_with fail
  refine (put_made m _ hm).mono ?_
  rintro e w1 ⟨B, k, c1, rfl, hk⟩
  have HK := Lib.hid hk.1
  have HS := Lib.hid hk.seen
  have HH1 := Lib.hid (HH.out.below hk.2.2)
  have HB1 := Lib.hid hk.2.2
  have hk9 : k ≤ 9 := by have := H9.out; have := HK.out; omega
  clear hk
  obtain ⟨D, hD⟩ : ∃ D, D = d ++ putL m := ⟨_, rfl⟩
  obtain ⟨N, hN⟩ : ∃ N, N = n + k := ⟨_, rfl⟩
  have ED := Lib.hid hD
  have EN := Lib.hid hN
  clear hD hN
  go_wp2_with (at_builtin; refine wpList_append_by w1 rfl (.tmp 5) (.tmp 7) 22 rfl 5 i0 (.int .u8 0) Tryz.underlying22 hi hz0 hz1 hz2 rfl w0 A n c d B k c1 (putL m) D N rfl rfl HH1 HS HK ED EN (by omega) ?_)
  intro A2 c2 w2 H2 G2
  go_wp2_with fail
  go_ret
  exact ⟨A2, N, c2, rfl, by rw [← ED.out]; exact H2.out, by rw [EN.out]; omega, G2.out.after HB1.out⟩
end Go.Proofs.YtdaahapbpnjkfaaGreat
namespace Go.Proofs.YtdaahapbpnjkfaaGreat
open Go.RowKit
theorem make_room (n : Nat) (h : n ≤ 140737488351232) (W : World) : (Instr.makeSlice 22 (.int .i64 0) (.int .i64 (n : Int))).run Tryz.prog W = .ok (.slice (some ⟨W.heap.size, 0, none⟩) 0 n) (W.alloc (.cells (madeCells #[.int .u8 0] n) 5)) := by
  obtain ⟨i0, hi, hz0, hz1, hz2⟩ := info_parts info8p
  have hr := run_make (P := Tryz.prog) W 22 5 i0 (.int .u8 0) Tryz.underlying22 hi hz0 .i64 .i64 0 (n : Int) (by omega) (by omega) (by rw [hz2]; omega) (by omega)
  rw [hr, hz1, show ((n : Nat) : Int).toNat = n from by omega, Nat.mul_one]
  rfl
theorem crc_made (A : Option Addr) (l : List UInt8) (n c : Nat) (w : World) (hn : l.length = n) (hl : n ≤ 9223372036854775807) (hs : Seen w A l) :
    Calls Tryz.prog 118 #[.slice A n c] w fun e w' => e = .returned (.int .u32 (crcOf l : Nat)) ∧ w = w' := by
  subst hn
  exact crc_any A l c w hl hs
def boxed (w : World) (g s : Int) (v : Value) : World := w.alloc (.cells #[.int .i64 g, .int .i64 s, v] 134)
theorem boxed_cells {w W : World} {g s : Int} {v : Value} (hb : Below (boxed w g s v).heap.size (boxed w g s v) W) :
    W.cell? ⟨w.heap.size, 0, none⟩ = some (.int .i64 g) ∧ W.cell? ⟨w.heap.size, 1, none⟩ = some (.int .i64 s) ∧ W.cell? ⟨w.heap.size, 2, none⟩ = some v := by
  have B := (Blk.new w [.int .i64 g, .int .i64 s, v] 134).below hb (by simp [boxed])
  exact ⟨B.cell (i := 0) (by simp), B.cell (i := 1) (by simp), B.cell (i := 2) (by simp)⟩
theorem boxed_below (w : World) (g s : Int) (v : Value) : Below w.heap.size w (boxed w g s v) := (Below.refl _ _).alloc (Nat.le_refl _) _
theorem sum4_cells (x : Nat) (hx : x < 4294967296) : ((sum4 x).map bv).toArray = #[.int .u8 ((x : Int) / 16777216), .int .u8 ((x : Int) / 65536 % 256), .int .u8 ((x : Int) / 256 % 256), .int .u8 ((x : Int) % 256)] := by
  have e : ∀ (y : Nat) (z : Int), ((y % 256 : Nat) : Int) = z → bv (UInt8.ofNat (y % 256)) = .int .u8 z := fun y z h => by
    unfold bv; rw [UInt8.toNat_ofNat', ← h]; congr 1; omega
  simp only [sum4, List.map_cons, List.map_nil]
  rw [e _ ((x : Int) / 16777216) (by omega), e _ ((x : Int) / 65536 % 256) (by omega), e _ ((x : Int) / 256 % 256) (by omega), e _ ((x : Int) % 256) (by omega)]
set_option maxRecDepth 100000 in
set_option maxHeartbeats 2000000 in
theorem encode_may (g s : Int) (A : Option Addr) (d : List UInt8) (n c : Nat) (w : World) (hs : Seen w A d) (hn : d.length = n) (hm : mayB g s d.length = true) :
    Calls Tryz.prog 84 #[.agg #[.int .i64 g, .int .i64 s, .slice A n c]] w fun e w' => ∃ A' n' c', e = .returned (.slice A' n' c') ∧ MadeN 5 w (frameL g s d) A' n' c' w' := by
  obtain ⟨i0, hi, hz0, hz1, hz2⟩ := info_parts info8p
  obtain ⟨g0, g1, s0, s1, n1⟩ := mayB_true hm
  obtain ⟨S, hS⟩ : ∃ S : Nat, S = (frameL g s d).length := ⟨_, rfl⟩
  have hsz : sizeL (n : Int) = (S : Int) := by rw [hS, ← hn]; exact sizeL_frame hm
  have hS1 : 22 ≤ S := by rw [hS]; exact frameL_pos g s d
  have hS2 : S ≤ 65560 := by
    have := encF_fits g s d
    rw [encF_may hm] at this; omega
  have hn65 : n ≤ 65536 := by omega
  have HSZ := fun W => size_any (n : Int) W (by omega) (by omega)
  rw [hsz] at HSZ
  have HSZ' := Lib.hid HSZ
  have hig : inB g = true := decide_eq_true ⟨g0, g1⟩
  have his : inB s = true := decide_eq_true ⟨s0, s1⟩
  have HIG := fun W => inRange_any g W (by omega) (by omega)
  have HIS := fun W => inRange_any s W (by omega) (by omega)
  rw [hig] at HIG
  rw [his] at HIS
  have HIG' := Lib.hid HIG
  have HIS' := Lib.hid HIS
  have HN := Lib.hid hn
  have HS := Lib.hid (hs.below (boxed_below w g s (.slice A n c)))
  have HBX := Lib.hid (boxed_below w g s (.slice A n c))
  have HCELL : Hid (∀ W, Below (boxed w g s (.slice A n c)).heap.size (boxed w g s (.slice A n c)) W → W.cell? ⟨w.heap.size, 0, none⟩ = some (.int .i64 g) ∧ W.cell? ⟨w.heap.size, 1, none⟩ = some (.int .i64 s) ∧ W.cell? ⟨w.heap.size, 2, none⟩ = some (.slice A n c)) := fun W hb => boxed_cells hb
  obtain ⟨W0, hW0⟩ : ∃ W0, W0 = boxed w g s (.slice A n c) := ⟨_, rfl⟩
  rw [← hW0] at HS HBX HCELL
  have HW0 : Hid (W0 = w.alloc (.cells #[.int .i64 g, .int .i64 s, .slice A n c] 134)) := hW0
  clear hs hn hm hS hsz hig his HIG HIS HSZ hW0
  obtain ⟨b0, b1, b2⟩ := HCELL.out W0 (Below.refl _ _)
  go_enter Tryz.func84, Tryz.ntmps84
  go_wp2_with fail
  rw [← HW0.out]
  refine (HSZ'.out W0).mono ?_
  rintro e w1 ⟨rfl, hb1⟩
  have HB1 := Lib.hid hb1
  obtain ⟨p0, p1, p2⟩ := HCELL.out w1 hb1
  clear hb1 b0 b1 b2
  have t0 : ((S : Int) == 0) = false := by rw [beq_eq_false_iff_ne]; omega
  go_wp2_with fail
  refine (HIG'.out w1).mono ?_
  rintro e w1' ⟨rfl, rfl⟩
  go_wp2_with fail
  refine (HIS'.out w1).mono ?_
  rintro e w1' ⟨rfl, rfl⟩
  have hmk := make_room S (by omega) w1
  have HM0 : Hid (MadeN 5 W0 [] (some ⟨w1.heap.size, 0, none⟩) 0 S (w1.alloc (.cells (madeCells #[.int .u8 0] S) 5))) :=
    ⟨rfl, World.ownsRow_made w1 _ S HB1.out.size (by unfold maxLen; omega) (by simp [madeCells]), HB1.out.alloc HB1.out.size _⟩
  have L245 : Hid (([245] : List UInt8).length = 1) := rfl
  obtain ⟨D1, hD1⟩ : ∃ D : List UInt8, D = [] ++ [245] := ⟨_, rfl⟩
  obtain ⟨N1, hN1⟩ : ∃ N : Nat, N = 0 + 1 := ⟨_, rfl⟩
  have ED1 := Lib.hid hD1
  have EN1 := Lib.hid hN1
  clear hD1 hN1 p0 p1 p2
  go_wp2_with (at_builtin; refine wpList_append_new (w1.alloc (.cells (madeCells #[.int .u8 0] S) 5)) rfl (.tmp 26) (.tmp 27) 22 rfl 5 i0 (.int .u8 0) Tryz.underlying22 hi hz0 hz1 hz2 rfl W0 _ 0 S [] 1 _ [245] D1 N1 rfl (w1.heap.size + 1) (by simp) rfl HM0 rfl L245 ED1 EN1 (by omega) ?_)
  intro A2 c2 w2 HM2 _
  obtain ⟨p0, p1, p2⟩ := HCELL.out w2 HM2.out.2.2
  clear hmk HM0
  go_wp2_with fail
  refine (appendNumber_any W0 w2 A2 D1 N1 c2 n HM2.out (by omega) (by have := EN1.out; omega)).mono ?_
  rintro e w3 ⟨A3, N3, c3, rfl, hm3, hn3, _⟩
  have HM3 := Lib.hid hm3
  obtain ⟨q0, q1, q2⟩ := HCELL.out w3 hm3.2.2
  clear hm3 HM2 p0 p1 p2
  go_wp2_with fail
  refine (wide_any g w3).mono ?_
  rintro e w4 ⟨A4, rfl, hs4, hb4⟩
  have HS4 : Hid (Seen w4 A4 (wideI g)) := hs4
  have HM4 := Lib.hid (HM3.out.below hb4)
  have L8 : Hid ((wideI g).length = 8) := wideI_length g
  clear hs4 hb4 q0 q1 q2 HM3
  obtain ⟨D3, hD3⟩ : ∃ D : List UInt8, D = D1 ++ putL n := ⟨_, rfl⟩
  rw [← hD3] at HM4
  obtain ⟨D5, hD5⟩ : ∃ D : List UInt8, D = D3 ++ wideI g := ⟨_, rfl⟩
  obtain ⟨N5, hN5⟩ : ∃ N : Nat, N = N3 + 8 := ⟨_, rfl⟩
  have ED3 := Lib.hid hD3
  have ED5 := Lib.hid hD5
  have EN5 := Lib.hid hN5
  clear hD3 hD5 hN5
  have hN3 : N3 ≤ 10 := by have := EN1.out; omega
  go_wp2_with (at_builtin; refine wpList_append_to w4 rfl (.tmp 34) (.tmp 37) 22 rfl 5 i0 (.int .u8 0) Tryz.underlying22 hi hz0 hz1 hz2 rfl W0 A3 N3 c3 D3 A4 8 8 (wideI g) D5 N5 rfl rfl HM4 HS4 L8 ED5 EN5 (by omega) ?_)
  intro A5 c5 w5 HM5 _
  obtain ⟨p0, p1, p2⟩ := HCELL.out w5 HM5.out.2.2
  clear HM4 HS4
  go_wp2_with fail
  refine (wide_any s w5).mono ?_
  rintro e w6 ⟨A6, rfl, hs6, hb6⟩
  have HS6 : Hid (Seen w6 A6 (wideI s)) := hs6
  have HM6 := Lib.hid (HM5.out.below hb6)
  have L8' : Hid ((wideI s).length = 8) := wideI_length s
  clear hs6 hb6 p0 p1 p2 HM5
  obtain ⟨D7, hD7⟩ : ∃ D : List UInt8, D = D5 ++ wideI s := ⟨_, rfl⟩
  obtain ⟨N7, hN7⟩ : ∃ N : Nat, N = N5 + 8 := ⟨_, rfl⟩
  have ED7 := Lib.hid hD7
  have EN7 := Lib.hid hN7
  clear hD7 hN7
  have hN5 : N5 ≤ 18 := by have := EN5.out; omega
  go_wp2_with (at_builtin; refine wpList_append_to w6 rfl (.tmp 39) (.tmp 42) 22 rfl 5 i0 (.int .u8 0) Tryz.underlying22 hi hz0 hz1 hz2 rfl W0 A5 N5 c5 D5 A6 8 8 (wideI s) D7 N7 rfl rfl HM6 HS6 L8' ED7 EN7 (by omega) ?_)
  intro A7 c7 w7 HM7 _
  obtain ⟨p0, p1, p2⟩ := HCELL.out w7 HM7.out.2.2
  clear HM6 HS6
  have HSD := Lib.hid (HS.out.below HM7.out.2.2)
  obtain ⟨D8, hD8⟩ : ∃ D : List UInt8, D = D7 ++ d := ⟨_, rfl⟩
  obtain ⟨N8, hN8⟩ : ∃ N : Nat, N = N7 + n := ⟨_, rfl⟩
  have ED8 := Lib.hid hD8
  have EN8 := Lib.hid hN8
  clear hD8 hN8
  have hN7 : N7 ≤ 26 := by have := EN7.out; omega
  go_wp2_with (at_builtin; refine wpList_append_to w7 rfl (.tmp 44) (.tmp 46) 22 rfl 5 i0 (.int .u8 0) Tryz.underlying22 hi hz0 hz1 hz2 rfl W0 A7 N7 c7 D7 A n c d D8 N8 rfl rfl HM7 HSD HN ED8 EN8 (by omega) ?_)
  intro A8 c8 w8 HM8 _
  clear HM7 HSD p0 p1 p2
  have hN8 : N8 ≤ 70000 := by have := EN8.out; omega
  go_wp2_with fail
  refine (crc_made A8 D8 N8 c8 w8 HM8.out.1 (by omega) HM8.out.seen).mono ?_
  rintro e w9 ⟨rfl, rfl⟩
  have hxl := crcOf_lt D8
  have HX := Lib.hid (sum4_cells (crcOf D8) hxl)
  have HXL := Lib.hid (sum4_length (crcOf D8))
  obtain ⟨X, hX⟩ : ∃ X, X = crcOf D8 := ⟨_, rfl⟩
  rw [← hX] at HX hxl HXL
  rw [← hX]
  have EX := Lib.hid hX
  clear hX
  obtain ⟨D9, hD9⟩ : ∃ D : List UInt8, D = D8 ++ sum4 X := ⟨_, rfl⟩
  obtain ⟨N9, hN9⟩ : ∃ N : Nat, N = N8 + 4 := ⟨_, rfl⟩
  have ED9 := Lib.hid hD9
  have EN9 := Lib.hid hN9
  clear hD9 hN9
  go_wp2_with (at_builtin; refine wpList_append_new w8 rfl (.tmp 50) (.tmp 62) 22 rfl 5 i0 (.int .u8 0) Tryz.underlying22 hi hz0 hz1 hz2 rfl W0 A8 N8 c8 D8 4 _ (sum4 X) D9 N9 rfl _ rfl rfl HM8 HX.out HXL ED9 EN9 (by omega) ?_)
  intro A9 c9 w9 HM9 _
  go_wp2_with fail
  go_ret
  have hD : D9 = frameL g s d := by
    have h8 : D8 = headL g s d := by
      rw [ED8.out, ED7.out, ED5.out, ED3.out, ED1.out, headL, HN.out]
      simp
    rw [ED9.out, EX.out, h8, frameL, sumOf]
  have h9 := HM9.out
  rw [hD] at h9
  exact ⟨A9, N9, c9, rfl, h9.1, h9.2.since HBX.out⟩
set_option maxRecDepth 100000 in
set_option maxHeartbeats 1000000 in
theorem encode_not (g s : Int) (A : Option Addr) (d : List UInt8) (n c : Nat) (w : World) (hn : d.length = n) (hl : n ≤ 9223372036854775807) (g0 : -9223372036854775808 ≤ g) (g1 : g ≤ 9223372036854775807) (s0 : -9223372036854775808 ≤ s) (s1 : s ≤ 9223372036854775807) (hm : mayB g s d.length = false) :
    Calls Tryz.prog 84 #[.agg #[.int .i64 g, .int .i64 s, .slice A n c]] w fun e w' => e = .returned (.slice none 0 0) ∧ Below w.heap.size w w' := by
  have hm' := mayB_false hm
  rw [hn] at hm'
  have HBX := Lib.hid (boxed_below w g s (.slice A n c))
  have HCELL : Hid (∀ W, Below (boxed w g s (.slice A n c)).heap.size (boxed w g s (.slice A n c)) W → W.cell? ⟨w.heap.size, 0, none⟩ = some (.int .i64 g) ∧ W.cell? ⟨w.heap.size, 1, none⟩ = some (.int .i64 s) ∧ W.cell? ⟨w.heap.size, 2, none⟩ = some (.slice A n c)) := fun W hb => boxed_cells hb
  obtain ⟨W0, hW0⟩ : ∃ W0, W0 = boxed w g s (.slice A n c) := ⟨_, rfl⟩
  rw [← hW0] at HBX HCELL
  have HW0 : Hid (W0 = w.alloc (.cells #[.int .i64 g, .int .i64 s, .slice A n c] 134)) := hW0
  have HSZ := Lib.hid (fun W => size_any (n : Int) W (by omega) (by omega))
  clear hW0 hm hn
  by_cases hb : 65536 < n
  · have h0 : sizeL (n : Int) = 0 := if_pos (.inr (by omega))
    rw [h0] at HSZ
    clear h0 hm' hb
    go_enter Tryz.func84, Tryz.ntmps84
    go_wp2_with fail
    rw [← HW0.out]
    refine (HSZ.out W0).mono ?_
    rintro e w1 ⟨rfl, hb1⟩
    have HB1 := Lib.hid hb1
    clear hb1
    go_wp2_with fail
    go_ret
    exact ⟨rfl, HBX.out.trans (HB1.out.mono HBX.out.size)⟩
  · obtain ⟨S, hS⟩ : ∃ S : Nat, (S : Int) = sizeL (n : Int) ∧ 0 < S := by
      refine ⟨(putL n).length + n + 21, ?_, by omega⟩
      rw [sizeL, if_neg (by omega)]
      simp only [Int.toNat_natCast]
      omega
    rw [← hS.1] at HSZ
    have t0 : ((S : Int) == 0) = false := by rw [beq_eq_false_iff_ne]; omega
    clear hS
    have HIG := Lib.hid (fun W => inRange_any g W g0 g1)
    by_cases hg : 0 ≤ g ∧ g ≤ 1152921504606846976
    · have hig : inB g = true := decide_eq_true hg
      have his : inB s = false := decide_eq_false (by omega)
      have HIS := Lib.hid (fun W => inRange_any s W s0 s1)
      rw [hig] at HIG
      rw [his] at HIS
      clear hig his hm' hg hb
      go_enter Tryz.func84, Tryz.ntmps84
      go_wp2_with fail
      rw [← HW0.out]
      refine (HSZ.out W0).mono ?_
      rintro e w1 ⟨rfl, hb1⟩
      have HB1 := Lib.hid hb1
      obtain ⟨p0, p1, p2⟩ := HCELL.out w1 hb1
      clear hb1
      go_wp2_with fail
      refine (HIG.out w1).mono ?_
      rintro e w1' ⟨rfl, rfl⟩
      go_wp2_with fail
      refine (HIS.out w1).mono ?_
      rintro e w1' ⟨rfl, rfl⟩
      go_wp2_with fail
      go_ret
      exact ⟨rfl, HBX.out.trans (HB1.out.mono HBX.out.size)⟩
    · have hig : inB g = false := decide_eq_false hg
      rw [hig] at HIG
      clear hig hm' hg hb
      go_enter Tryz.func84, Tryz.ntmps84
      go_wp2_with fail
      rw [← HW0.out]
      refine (HSZ.out W0).mono ?_
      rintro e w1 ⟨rfl, hb1⟩
      have HB1 := Lib.hid hb1
      obtain ⟨p0, p1, p2⟩ := HCELL.out w1 hb1
      clear hb1
      go_wp2_with fail
      refine (HIG.out w1).mono ?_
      rintro e w1' ⟨rfl, rfl⟩
      go_wp2_with fail
      go_ret
      exact ⟨rfl, HBX.out.trans (HB1.out.mono HBX.out.size)⟩
theorem encode_any (g s : Int) (A : Option Addr) (d : List UInt8) (n c : Nat) (w : World) (hs : Seen w A d) (hn : d.length = n) (hl : n ≤ 9223372036854775807) (g0 : -9223372036854775808 ≤ g) (g1 : g ≤ 9223372036854775807) (s0 : -9223372036854775808 ≤ s) (s1 : s ≤ 9223372036854775807) :
    Calls Tryz.prog 84 #[.agg #[.int .i64 g, .int .i64 s, .slice A n c]] w fun e w' => ∃ A' n' c', e = .returned (.slice A' n' c') ∧ MadeN 5 w (encF g s d) A' n' c' w' := by
  by_cases hm : mayB g s d.length = true
  · rw [encF_may hm]; exact encode_may g s A d n c w hs hn hm
  · have hm : mayB g s d.length = false := by simpa using hm
    rw [encF_not hm]
    refine (encode_not g s A d n c w hn hl g0 g1 s0 s1 hm).mono ?_
    rintro e w' ⟨rfl, hb⟩
    exact ⟨none, 0, 0, rfl, rfl, World.ownsRow_nil _ _ _ _, hb⟩
end Go.Proofs.YtdaahapbpnjkfaaGreat
namespace Go.Proofs.YtdaahapbpnjkfaaGreat
open Go.RowKit
def lgCells (g : Nat) (l : Lg) : List Value := [.pointer (some ⟨g, 0, none⟩), .int .i64 (l.f : Int), .int .i64 (l.blocks : Int), .int .i64 l.gen, .int .i64 (l.seq : Int), .int .i64 (l.fin : Int), .bool l.down]
theorem lg_cells {w : World} {b g : Nat} {l : Lg} {t : TypeId} (h : Blk w b (lgCells g l) t) : w.cell? ⟨b, 0, none⟩ = some (.pointer (some ⟨g, 0, none⟩)) ∧ w.cell? ⟨b, 1, none⟩ = some (.int .i64 (l.f : Int)) ∧ w.cell? ⟨b, 2, none⟩ = some (.int .i64 (l.blocks : Int)) ∧
    w.cell? ⟨b, 3, none⟩ = some (.int .i64 l.gen) ∧ w.cell? ⟨b, 4, none⟩ = some (.int .i64 (l.seq : Int)) ∧ w.cell? ⟨b, 5, none⟩ = some (.int .i64 (l.fin : Int)) ∧ w.cell? ⟨b, 6, none⟩ = some (.bool l.down) :=
  ⟨h.cell (i := 0) (by simp [lgCells]), h.cell (i := 1) (by simp [lgCells]), h.cell (i := 2) (by simp [lgCells]), h.cell (i := 3) (by simp [lgCells]), h.cell (i := 4) (by simp [lgCells]), h.cell (i := 5) (by simp [lgCells]), h.cell (i := 6) (by simp [lgCells])⟩
def LMoved (w : World) (g b : Nat) (F : Nat → Prop) (s : Dsk) (l : Lg) (w' : World) : Prop :=
  ∃ F', DiskAt w' g F' s ∧ Blk w' b (lgCells g l) 145 ∧ ¬ F' b ∧ Spared w w' (fun k => F k ∨ k = b) ∧ ∀ k, F' k → F k ∨ w.heap.size ≤ k
structure LogOn (w : World) (g b : Nat) (F : Nat → Prop) (s : Dsk) (l : Lg) : Prop where
  disk : DiskAt w g F s
  blk : Blk w b (lgCells g l) 145
  not : ¬ F b
  fits : l.Fits s
section
variable {w : World} {g b : Nat} {F : Nat → Prop} {s : Dsk} {l : Lg}
theorem LogOn.still {w' : World} (h : LogOn w g b F s l) (hb : Below w.heap.size w w') : LogOn w' g b F s l := ⟨h.disk.still hb, h.blk.below hb h.blk.lt, h.not, h.fits⟩
theorem gen_any (h : Blk w b (lgCells g l) 145) : Calls Tryz.prog 67 #[.pointer (some ⟨b, 0, none⟩)] w fun e w' => e = .returned (.int .i64 l.gen) ∧ w' = w := by
  obtain ⟨_, _, _, c3, _⟩ := lg_cells h
  clear h
  go_enter Tryz.func67, Tryz.ntmps67
  go_wp2
  go_ret
  exact ⟨rfl, rfl⟩
theorem room_any (h : Blk w b (lgCells g l) 145) (hf : l.fin ≤ l.blocks * 64) (hb : l.blocks ≤ 4096) : Calls Tryz.prog 85 #[.pointer (some ⟨b, 0, none⟩)] w fun e w' => e = .returned (.int .i64 (l.room : Int)) ∧ ∃ m, w' = w.drewN m := by
  obtain ⟨_, _, c2, _, _, c5, _⟩ := lg_cells h
  have HR : Hid ((l.room : Int) = (l.blocks : Int) * 64 - (l.fin : Int)) := by show (l.room : Int) = _; unfold Lg.room; omega
  obtain ⟨r, hr⟩ : ∃ r : Int, r = (l.room : Int) := ⟨_, rfl⟩
  rw [← hr] at HR ⊢
  clear hr
  have hw1 : IntKind.i64.wrap ((l.blocks : Int) * 64) = (l.blocks : Int) * 64 := by rw [IntKind.wrap_i64]; omega
  have hw2 : IntKind.i64.wrap ((l.blocks : Int) * 64 - (l.fin : Int)) = (l.blocks : Int) * 64 - (l.fin : Int) := by rw [IntKind.wrap_i64]; omega
  clear h
  go_enter Tryz.func85, Tryz.ntmps85
  go_wp2
  go_quiet (fail)
  go_wp2
  go_ret
  exact ⟨by rw [HR.out]; rfl, _, rfl⟩
end
theorem gen_nil (w : World) : Calls Tryz.prog 67 #[.pointer none] w fun e w' => e = .returned (.int .i64 0) ∧ w' = w := by
  go_enter Tryz.func67, Tryz.ntmps67
  go_wp2
  go_ret
  exact ⟨rfl, rfl⟩
theorem putErr_cases (s : Dsk) (i : Nat) (R : List (List UInt8)) : s.putErr i R = 0 ∨ s.putErr i R = 5 := by
  unfold Dsk.putErr
  split
  · exact .inl rfl
  · split
    · exact .inr rfl
    · exact .inl rfl
theorem layErr_cases (s : Dsk) (b : List UInt8) (i : Nat) : s.layErr b i = 0 ∨ s.layErr b i = 5 := putErr_cases _ _ _
set_option maxRecDepth 100000 in
set_option maxHeartbeats 2000000 in
theorem append_any (w : World) (g b : Nat) (F : Nat → Prop) (s : Dsk) (l : Lg) (A : Option Addr) (d : List UInt8) (n c q : Nat) (h : LogOn w g b F s l) (ha : Seen w A d) (hn : d.length = n) (hl : n ≤ 9223372036854775807) (hf : s.Few q) (hq : q ≤ 700000) :
    Calls Tryz.prog 51 #[.pointer (some ⟨b, 0, none⟩), .slice A n c] w fun e w' => e = .returned (.int .i64 (l.err s d)) ∧ LMoved w g b F (l.dsk s d) (l.next s d) w' := by
  have HSTAY : Hid (∀ w', Below w.heap.size w w' → LMoved w g b F s l w') := fun w' hb => ⟨F, h.disk.still hb, h.blk.below hb h.blk.lt, h.not, .of_below hb _, fun _ h => .inl h⟩
  have H := Lib.hid h
  have hK4 := h.disk.ok.hi
  have hfin := h.fits.fin
  have hbl := h.fits.area
  have hsq := h.fits.seq
  have hg1 := h.fits.gen1
  have hg2 := h.fits.gen2
  obtain ⟨c0, c1, c2, c3, c4, c5, c6⟩ := lg_cells h.blk
  have f4 := h.blk.free 4
  have f5 := h.blk.free 5
  have f6 := h.blk.free 6
  have HA := Lib.hid ha
  have HN := Lib.hid hn
  have HF := Lib.hid hf
  clear h ha hn hf
  by_cases hd : l.down = true
  · have HE : Hid (l.err s d = 5 ∧ l.dsk s d = s ∧ l.next s d = l) := by
      unfold Lg.err Lg.dsk Lg.next
      rw [hd]
      exact ⟨rfl, rfl, rfl⟩
    rw [hd] at c6
    clear hd
    go_enter Tryz.func51, Tryz.ntmps51
    go_wp2
    go_ret
    rw [HE.out.1, HE.out.2.1, HE.out.2.2]
    exact ⟨rfl, HSTAY.out _ (Below.refl _ _)⟩
  have hd' : l.down = false := by cases h : l.down <;> simp_all
  have HD := Lib.hid hd'
  rw [hd'] at c6
  clear hd hd'
  have HENC := Lib.hid (encode_any l.gen (l.seq : Int) A d n c w.drew (HA.out.below (Below.refl _ _).drew) HN.out hl (by omega) (by omega) (by omega) (by omega))
  have HCODE : Hid (l.code d = encF l.gen (l.seq : Int) d) := rfl
  rw [← HCODE.out] at HENC
  have hcf := l.code_fits d
  go_enter Tryz.func51, Tryz.ntmps51
  go_wp2
  go_still_tail 10, (by kernel_rfl)
  go_wp2_with fail
  refine HENC.out.mono ?_
  rintro e w1 ⟨A1, n1, c1', rfl, hm1⟩
  have HM1 := Lib.hid hm1
  have HB1 : Hid (Below w.heap.size w w1) := undrew hm1.2.2
  have H1 := Lib.hid (H.out.still HB1.out)
  obtain ⟨c0, c1, c2, c3, c4, c5, c6⟩ := lg_cells H1.out.blk
  have f4 := H1.out.blk.free 4
  have f5 := H1.out.blk.free 5
  have f6 := H1.out.blk.free 6
  have hn1 : n1 ≤ 65560 := by rw [← hm1.1]; exact hcf
  have HL1 := Lib.hid hm1.1
  have HROOM : Hid (Calls Tryz.prog 85 #[.pointer (some ⟨b, 0, none⟩)] w1 fun e w' => e = .returned (.int .i64 (l.room : Int)) ∧ Below w1.heap.size w1 w') := (room_any (w := w1) H1.out.blk hfin (by omega)).mono fun e w' ⟨he, m, hm⟩ => ⟨he, by rw [hm]; exact below_drewN (Below.refl _ _) m⟩
  clear hm1 HENC
  by_cases hfull : l.full d = true
  · have HE : Hid (l.err s d = 4 ∧ l.dsk s d = s ∧ l.next s d = l) := by
      unfold Lg.err Lg.dsk Lg.next
      rw [HD.out, hfull]
      exact ⟨rfl, rfl, rfl⟩
    have hfl : n1 = 0 ∨ l.room < n1 := by
      unfold Lg.full at hfull
      rw [Bool.or_eq_true, decide_eq_true_iff, decide_eq_true_iff, HL1.out] at hfull
      exact hfull
    clear hfull
    by_cases h0 : n1 = 0
    · have hz : ((n1 : Int) == 0) = true := by rw [h0]; rfl
      have hz' : (n1 : Int) = 0 := by omega
      clear h0 hfl
      go_wp2
      go_ret
      rw [HE.out.1, HE.out.2.1, HE.out.2.2]
      exact ⟨rfl, HSTAY.out _ HB1.out⟩
    · have hz : ((n1 : Int) == 0) = false := by rw [beq_eq_false_iff_ne]; omega
      have hz' : ¬ (n1 : Int) = 0 := by omega
      have hr : (l.room : Int) < (n1 : Int) := by omega
      clear h0 hfl
      go_wp2_with (go_at_call 85; refine HROOM.out.mono ?_; rintro e w2 ⟨rfl, hb2⟩; have HB2 := Lib.hid hb2; clear hb2)
      go_ret
      rw [HE.out.1, HE.out.2.1, HE.out.2.2]
      exact ⟨rfl, HSTAY.out _ (hop HB1.out HB2.out)⟩
  have hfull' : l.full d = false := by simpa using hfull
  obtain ⟨p1, p2, p3, p4⟩ := Lg.full_false hfull'
  obtain ⟨m, r1, r2, r3⟩ := Lg.rows (s := s) H.out.fits H.out.disk.ok hfull'
  rw [HL1.out] at p1 p2 r3
  have hz : ((n1 : Int) == 0) = false := by rw [beq_eq_false_iff_ne]; omega
  have hz' : ¬ (n1 : Int) = 0 := by omega
  have hr : ¬ (l.room : Int) < (n1 : Int) := by omega
  have hroom : l.room = l.blocks * 64 - l.fin := rfl
  have HERR : Hid (l.err s d = s.layErr (l.laid s d) (l.f + l.fin / 64) ∧ l.dsk s d = s.lay (l.laid s d) (l.f + l.fin / 64)) := by
    unfold Lg.err Lg.dsk
    rw [HD.out, hfull']
    exact ⟨rfl, rfl⟩
  have HNX : Hid (l.next s d = if l.err s d = 0 then l.put d else { l with down := true }) := by
    show l.next s d = _
    unfold Lg.next
    rw [HD.out, hfull']
    rfl
  have haw : Away w1 F A1 (l.code d) := (Made.past HM1.out.2).mono (fun b hb => H.out.disk.lt b hb)
  have HWR := Lib.hid (fun w2 (hb2 : Below w1.heap.size w1 w2) => area_write w2.drew g F s l.f l.blocks l.fin A1 (l.code d) n1 c1' q (H1.out.disk.still hb2.drew) (haw.moved (.of_below hb2.drew F) (fun _ h => .inl h)) HL1.out p1 hbl (by omega) HF.out (by omega))
  have HLD : Hid (l.laid s d = laidL s.view l.f l.blocks l.fin (l.code d)) := rfl
  rw [← HLD.out, ← HERR.out.1, ← HERR.out.2] at HWR
  have hcs : l.err s d = 0 ∨ l.err s d = 5 := by rw [HERR.out.1]; exact layErr_cases _ _ _
  obtain ⟨E, hE⟩ : ∃ E, E = l.err s d := ⟨_, rfl⟩
  rw [← hE] at hcs HNX HWR
  have HE := Lib.hid hE
  have HFL := Lib.hid p2
  clear hfull hfull' p1 p2 p3 p4 r1 r2 r3 haw hE hcf hroom
  go_wp2_with (go_at_call 85; refine HROOM.out.mono ?_; rintro e w2 ⟨rfl, hb2⟩; have HB2 := Lib.hid hb2; clear hb2)
  obtain ⟨c0, c1, c2, c3, c4, c5, c6⟩ := lg_cells (H1.out.still HB2.out).blk
  go_still_tail 9, (by kernel_rfl)
  go_wp2_with fail
  refine (HWR.out _ HB2.out).mono ?_
  rintro e w3 ⟨rfl, hp3⟩
  have P3 : Hid (Moved w g F (l.dsk s d) w3) := hp3.before (hop HB1.out HB2.out).drew
  have HX3 := Lib.hid (P3.out.blk H.out.blk H.out.not)
  obtain ⟨_, _, _, _, d4, d5, _⟩ := lg_cells HX3.out
  have f4' := HX3.out.free 4
  have f5' := HX3.out.free 5
  have f6' := HX3.out.free 6
  clear hp3 HWR hz hz' hr c0 c1 c2 c3 c4 c5 c6 f4 f5 f6
  rcases hcs with h0 | h5
  · subst h0
    have hw1 : IntKind.i64.wrap ((l.fin : Int) + (n1 : Int)) = (l.fin : Int) + (n1 : Int) := by rw [IntKind.wrap_i64]; omega
    have hw2 : IntKind.i64.wrap ((l.seq : Int) + 1) = (l.seq : Int) + 1 := by rw [IntKind.wrap_i64]; omega
    have HB3 : Hid (Blk ((w3.setCell ⟨b, 5, none⟩ (.int .i64 ((l.fin : Int) + (n1 : Int)))).setCell ⟨b, 4, none⟩ (.int .i64 ((l.seq : Int) + 1))) b (lgCells g (l.put d)) 145) := by
      have := (HX3.out.set 5 (.int .i64 ((l.fin : Int) + (n1 : Int)))).set 4 (.int .i64 ((l.seq : Int) + 1))
      have e : lgCells g (l.put d) = ((lgCells g l).set 5 (.int .i64 ((l.fin : Int) + (n1 : Int)))).set 4 (.int .i64 ((l.seq : Int) + 1)) := by
        have e1 : (((l.fin + n1 : Nat)) : Int) = (l.fin : Int) + (n1 : Int) := by omega
        have e2 : (((l.seq + 1 : Nat)) : Int) = (l.seq : Int) + 1 := by omega
        simp only [lgCells, Lg.put, HL1.out, e1, e2, List.set_cons_succ, List.set_cons_zero]
      show Blk _ b (lgCells g (l.put d)) _
      rw [e]; exact this
    go_wp2
    go_ret
    obtain ⟨F3, h31, h32, h33⟩ := P3.out
    have hbw := H.out.blk.lt
    have hnF3 : ¬ F3 b := fun hf => (h33 b hf).elim H.out.not (fun h => by omega)
    have hs5 : Spared w3 ((w3.setCell ⟨b, 5, none⟩ (.int .i64 ((l.fin : Int) + (n1 : Int)))).setCell ⟨b, 4, none⟩ (.int .i64 ((l.seq : Int) + 1))) (· = b) := ((Spared.refl w3 (· = b)).setCell rfl 5 _).setCell rfl 4 _
    refine ⟨by rw [← HE.out]; rfl, F3, h31.apart hs5 (fun k hk e => hnF3 (by rw [← e]; exact hk)), ?_, hnF3, ?_, h33⟩
    · rw [HNX.out]; exact HB3.out
    · exact (h32.mono (fun _ h => .inl h)).trans (hs5.mono (G := fun k => F k ∨ k = b) (fun _ h => .inr h)) (fun _ h => .inl h)
  · subst h5
    have HB3 : Hid (Blk (w3.setCell ⟨b, 6, none⟩ (.bool true)) b (lgCells g { l with down := true }) 145) := HX3.out.set 6 (.bool true)
    go_wp2
    go_ret
    obtain ⟨F3, h31, h32, h33⟩ := P3.out
    have hbw := H.out.blk.lt
    have hnF3 : ¬ F3 b := fun hf => (h33 b hf).elim H.out.not (fun h => by omega)
    have hs5 : Spared w3 (w3.setCell ⟨b, 6, none⟩ (.bool true)) (· = b) := (Spared.refl w3 (· = b)).setCell rfl 6 _
    refine ⟨by rw [← HE.out]; rfl, F3, h31.apart hs5 (fun k hk e => hnF3 (by rw [← e]; exact hk)), ?_, hnF3, ?_, h33⟩
    · rw [HNX.out]; exact HB3.out
    · exact (h32.mono (fun _ h => .inl h)).trans (hs5.mono (G := fun k => F k ∨ k = b) (fun _ h => .inr h)) (fun _ h => .inl h)
end Go.Proofs.YtdaahapbpnjkfaaGreat
