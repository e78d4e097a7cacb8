/-
  Parse's deferred closure: what it makes of a panic of the parser's, and that it leaves all as it is where there is none. Condition: its variables can be written.
  The program's Parse. Condition: a text's length fits an int.
  May an expression be, by the program? Conditions: it is there; what it may have is from 0 to 1,000.
  The text of an expression that may be, by the program. Conditions: it is there; it is at most 12 high.
  The program's Expr. Condition: it is there.
-/
import Derived.Test.YtpiaiibobjlipaaCPaSc
import Derived.Defers
import Derived.Recover
import Derived.Deep.RegionLaw
import Derived.Test.YtpiaiibobjlipaaCLaSh
import Derived.Test.YtpiaiibobjlipaaCNmName
import Derived.Test.YtpiaiibobjlipaaCPaE
import Derived.Test.YtpiaiibobjlipaaCLpS
import Derived.Deep.RegionHeldLaw
import Derived.Test.YtpiaiibobjlipaaCAwL
namespace Go.Proofs.Ytpiaiibobjlipaa
open Go.RowKit
theorem passert_none (w : World) : (Instr.typeAssert Value.nilIface 20 28 true).run Try.prog w = .ok (.tuple #[.agg #[.int .i64 0, .int .i64 0, .int .i64 0], .bool false]) w := by kernel_rfl
theorem passert_diag (a b c : Int) (w : World) : (Instr.typeAssert (.iface 28 (.agg #[.int .i64 a, .int .i64 b, .int .i64 c])) 20 28 true).run Try.prog w = .ok (.tuple #[.agg #[.int .i64 a, .int .i64 b, .int .i64 c], .bool true]) w := by kernel_rfl
set_option maxHeartbeats 400000 in
theorem parseCatch_idle (p q : Addr) (w : World) :
    CallsD Try.prog 22 #[.pointer (some p), .pointer (some q)] .returning w fun e u' w' => e = .returned (.tuple #[]) ∧ u' = .returning ∧ w' = w.alloc (.cells #[.int .i64 0, .int .i64 0, .int .i64 0] 28) := by
  refine callsD_of_wpS Try.func22 rfl fun c₀ cs hu => ?_
  have hta := passert_none
  apply wpS_seq
  apply wpS_region
  simp [wpOpsS, go_sem, recoverD, hu, Try.ntmps22, Exit.thenS, hta]
  apply wpS_seq
  apply wpS_region
  simp [wpOpsS, go_sem, Exit.thenS]
  refine wpS_cond (t := false) (by simp [Act.eval, Array.replicate]) ?_
  simp only [Bool.false_eq_true, if_false]
  refine wpS_of_wp (wp_skip ?_)
  cases c₀
  simp_all [bodyPostS, results, Try.results22]
set_option maxHeartbeats 800000 in
theorem parseCatch_wrong (g h : Nat) (older : List PanicEntry) (w : World) (x y0 y1 y2 : Value) (a b c : Int) (hG : Blk w g [x] 25) (hH : Blk w h [y0, y1, y2] 28) (hne : ¬ g = h) :
    CallsD Try.prog 22 #[.pointer (some ⟨g, 0, none⟩), .pointer (some ⟨h, 0, none⟩)] (.panicking ({ v := .iface 28 (.agg #[.int .i64 a, .int .i64 b, .int .i64 c]), recovered := false } :: older)) w fun e u' w' =>
      e = .returned (.tuple #[]) ∧ u' = .panicking ({ v := .iface 28 (.agg #[.int .i64 a, .int .i64 b, .int .i64 c]), recovered := true } :: older) ∧ Spared w w' (fun x => x = g ∨ x = h) ∧ Blk w' g [.slice none 0 0] 25 ∧ Blk w' h [.int .i64 a, .int .i64 b, .int .i64 c] 28 := by
  refine callsD_of_wpS Try.func22 rfl fun c₀ cs hu => ?_
  have hta := passert_diag
  obtain ⟨V, hV⟩ : ∃ V, V = w.alloc (.cells #[.int .i64 a, .int .i64 b, .int .i64 c] 28) := ⟨_, rfl⟩
  have HK1 : Hid (Blk V w.heap.size [.int .i64 a, .int .i64 b, .int .i64 c] 28) := by rw [hV]; exact Lib.hid (Blk.new w _ _)
  have HG1 : Hid (Blk V g [x] 25) := by rw [hV]; exact Lib.hid (hG.alloc _)
  have HH1 : Hid (Blk V h [y0, y1, y2] 28) := by rw [hV]; exact Lib.hid (hH.alloc _)
  have HS1 : Hid (Spared w V (fun x => x = g ∨ x = h)) := by rw [hV]; exact Lib.hid ((Spared.refl w _).alloc _)
  have hgk : ¬ w.heap.size = g := fun e => by have := hG.lt; omega
  have hhk : ¬ w.heap.size = h := fun e => by have := hH.lt; omega
  have hkg : ¬ g = w.heap.size := fun e => hgk e.symm
  have hkh : ¬ h = w.heap.size := fun e => hhk e.symm
  have hen : ¬ h = g := fun e => hne e.symm
  have k0 := HK1.out.cell (i := 0) (by simp)
  have k1 := HK1.out.cell (i := 1) (by simp)
  have k2 := HK1.out.cell (i := 2) (by simp)
  have g0 := HG1.out.cell (i := 0) (by simp)
  have gf := HG1.out.free 0
  have j0 := HH1.out.cell (i := 0) (by simp)
  have j1 := HH1.out.cell (i := 1) (by simp)
  have j2 := HH1.out.cell (i := 2) (by simp)
  have jf0 := HH1.out.free 0
  have jf1 := HH1.out.free 1
  have jf2 := HH1.out.free 2
  simp only [List.getElem_cons_succ, List.getElem_cons_zero] at k0 k1 k2 g0 j0 j1 j2
  apply wpS_seq
  apply wpS_region
  simp [wpOpsS, go_sem, recoverD, hu, Try.ntmps22, Exit.thenS, hta]
  apply wpS_seq
  apply wpS_region
  simp [wpOpsS, go_sem, Exit.thenS]
  refine wpS_cond (t := true) (by simp [Act.eval, Array.replicate]) ?_
  simp only [if_true]
  refine wpS_of_wp ?_
  simp [Array.replicate]
  rw [← hV]
  clear hV
  go_region
  all_goals
    simp [bodyPostS, results, Try.results22]
    refine ⟨?_, ?_, ?_⟩
    · exact ((((HS1.out.setCell (g := g) (.inl rfl) 0 _).setCell (g := h) (.inr rfl) 0 _).setCell (g := h) (.inr rfl) 1 _).setCell (g := h) (.inr rfl) 2 _).drew
    · have := (((HG1.out.set 0 (.slice none 0 0)).other ⟨h, 0, none⟩ (.int .i64 a) hne).other ⟨h, 1, none⟩ (.int .i64 b) hne).other ⟨h, 2, none⟩ (.int .i64 c) hne
      exact Blk.drew (by simpa using this)
    · have := (((HH1.out.other ⟨g, 0, none⟩ (.slice none 0 0) hen).set 0 (.int .i64 a)).set 1 (.int .i64 b)).set 2 (.int .i64 c)
      exact Blk.drew (by simpa using this)
end Go.Proofs.Ytpiaiibobjlipaa
namespace Go.Proofs.Ytpiaiibobjlipaa
open Go.RowKit
def ParsedAs (W : World) (R : Sc × Dg) (e : Ending) (w' : World) : Prop := ∃ A c, e = .returned (.tuple #[.agg #[.slice A R.1.length c], .agg #[.int .i64 (R.2.1 : Int), .int .i64 (R.2.2.1 : Int), .int .i64 (R.2.2.2 : Int)]]) ∧
  ScAt w' (fun b => b < W.heap.size) A R.1 ∧ R.1.length ≤ 5000 ∧ Below W.heap.size W w'
set_option maxHeartbeats 1000000 in
theorem parse_any (s : ByteArray) (W : World) (hm : s.size ≤ 9223372036854775807) :
    Calls Try.prog 9 #[.string s] W (ParsedAs W (parseT s.data.toList)) := by
  have hmf : ∀ (fn : Fn) (first cap : Array Value) (w : World), (Instr.makeFunc fn first cap).run Try.prog w = .ok (.func fn first cap) w := fun _ _ _ _ => rfl
  obtain ⟨R, hR⟩ : ∃ R, R = parseT s.data.toList := ⟨_, rfl⟩
  rw [← hR]
  unfold parseT at hR
  rw [size_list] at hR
  obtain ⟨W2, hW2⟩ : ∃ W2, W2 = (W.alloc (.cells #[.slice none 0 0] 25)).alloc (.cells #[.int .i64 0, .int .i64 0, .int .i64 0] 28) := ⟨_, rfl⟩
  by_cases hl : 4096 < s.size
  · rw [if_pos hl] at hR
    have HR := Lib.hid hR
    have hd : (4096 : Int) < (s.size : Int) := by omega
    obtain ⟨W3, hW3⟩ : ∃ W3, W3 = (W.alloc (.cells #[.slice none 0 0] 25)).alloc (.cells #[.int .i64 1, .int .i64 1, .int .i64 2] 28) := ⟨_, rfl⟩
    have hb3 : Below W.heap.size W W3 := by rw [hW3]; exact ((Below.refl W.heap.size W).alloc (Nat.le_refl _) _).alloc (by simp) _
    have HB3 := Lib.hid hb3
    have HS3 : Hid (Blk W3 W.heap.size [.slice none 0 0] 25) := by rw [hW3]; exact Lib.hid ((Blk.new W _ _).alloc _)
    have HD3 : Hid (Blk W3 (W.heap.size + 1) [.int .i64 1, .int .i64 1, .int .i64 2] 28) := by
      rw [hW3]
      have := Blk.new (W.alloc (.cells #[.slice none 0 0] 25)) [.int .i64 1, .int .i64 1, .int .i64 2] 28
      rw [World.size_alloc] at this
      exact Lib.hid this
    have HW3 := Lib.hid hW3
    clear hR hl hW2 hW3 hb3
    go_enter_defers Try.func9, Try.ntmps9
    go_wp2_with fail
    rw [← HW3.out]
    refine leaves_cons (f := 22) (args := #[.pointer (some ⟨W.heap.size, 0, none⟩), .pointer (some ⟨W.heap.size + 1, 0, none⟩)]) (by simp) (by simp [go_sem]) ?_
    refine (parseCatch_idle _ _ _).mono ?_
    rintro e u' w' ⟨rfl, rfl, rfl⟩
    have s0 := (HS3.out.alloc (.cells #[.int .i64 0, .int .i64 0, .int .i64 0] 28)).cell (i := 0) (by simp)
    have d0 := (HD3.out.alloc (.cells #[.int .i64 0, .int .i64 0, .int .i64 0] 28)).cell (i := 0) (by simp)
    have d1 := (HD3.out.alloc (.cells #[.int .i64 0, .int .i64 0, .int .i64 0] 28)).cell (i := 1) (by simp)
    have d2 := (HD3.out.alloc (.cells #[.int .i64 0, .int .i64 0, .int .i64 0] 28)).cell (i := 2) (by simp)
    simp only [List.getElem_cons_succ, List.getElem_cons_zero] at s0 d0 d1 d2
    simp [Leaves, settle, results, Try.results9, go_sem, s0, d0, d1, d2]
    rw [HR.out]
    exact ⟨none, 0, rfl, .inl rfl, Nat.zero_le _, HB3.out.trans (((Below.refl W3.heap.size W3).alloc (Nat.le_refl _) _).mono HB3.out.size)⟩
  · rw [if_neg hl] at hR
    have hd : (s.size : Int) ≤ 4096 := by omega
    have hl' : s.size ≤ 4096 := by omega
    obtain ⟨W3, hW3⟩ : ∃ W3, W3 = W2.alloc (.cells #[.string s, .int .i64 0, .int .i64 0, .int .i64 0] 53) := ⟨_, rfl⟩
    have hsz2 : W2.heap.size = W.heap.size + 1 + 1 := by rw [hW2]; simp
    have hb2 : Below W.heap.size W W2 := by rw [hW2]; exact ((Below.refl W.heap.size W).alloc (Nat.le_refl _) _).alloc (by simp) _
    have hb3 : Below W.heap.size W W3 := by rw [hW3]; exact hb2.alloc (by omega) _
    have hP3 : Blk W3 (W.heap.size + 1 + 1) [.string s, .int .i64 0, .int .i64 0, .int .i64 0] 53 := by
      rw [hW3]
      have := Blk.new W2 [.string s, .int .i64 0, .int .i64 0, .int .i64 0] 53
      rw [hsz2] at this
      exact this
    have HS3 : Hid (Blk W3 W.heap.size [.slice none 0 0] 25) := by rw [hW3, hW2]; exact Lib.hid (((Blk.new W _ _).alloc _).alloc _)
    have HD3 : Hid (Blk W3 (W.heap.size + 1) [.int .i64 0, .int .i64 0, .int .i64 0] 28) := by
      rw [hW3, hW2]
      have := Blk.new (W.alloc (.cells #[.slice none 0 0] 25)) [.int .i64 0, .int .i64 0, .int .i64 0] 28
      rw [World.size_alloc] at this
      exact Lib.hid (this.alloc _)
    have HNX := Lib.hid (next_tok (g := W.heap.size + 1 + 1) (i := 0) (j := 0) (op := 0) (Nat.zero_le _) hl' hP3)
    have HSK := Lib.hid (skip_start s.data.toList s.data.toList.length 0 (by omega)).2
    have hsz3 : W3.heap.size = W.heap.size + 1 + 1 + 1 := by rw [hW3, World.size_alloc, hsz2]
    have HB3 := Lib.hid hb3
    have HSZ3 := Lib.hid hsz3
    have HR := Lib.hid hR
    have HW3 : Hid (W3 = ((W.alloc (.cells #[.slice none 0 0] 25)).alloc (.cells #[.int .i64 0, .int .i64 0, .int .i64 0] 28)).alloc (.cells #[.string s, .int .i64 0, .int .i64 0, .int .i64 0] 53)) := by rw [hW3, hW2]; exact Lib.hid rfl
    clear hR hl hW2 hW3 hb3 hb2 hP3 hsz2 hsz3
    go_enter_defers Try.func9, Try.ntmps9
    go_wp2_with fail
    rw [← HW3.out]
    refine HNX.out.mono ?_
    rintro e w4 ⟨rfl, hp4, hs4⟩
    have HSC := Lib.hid (schema_any hp4)
    have HS4 := Lib.hid (hs4.blk HS3.out (fun e => by have e : W.heap.size = W.heap.size + 1 + 1 := e; omega))
    have HD4 := Lib.hid (hs4.blk HD3.out (fun e => by have e : W.heap.size + 1 = W.heap.size + 1 + 1 := e; omega))
    have HB4 := Lib.hid (hs4.below HB3.out (fun k hk => by have hk : k = W.heap.size + 1 + 1 := hk; omega))
    have HZ4 := Lib.hid (Nat.le_trans (Nat.le_of_eq HSZ3.out.symm) hs4.size)
    rw [HSK.out] at HSC
    clear hp4 hs4 HNX HSK HS3 HD3
    cases hw : wholeP (toks s.data.toList 0) with
    | no d =>
      have HRV : Hid (R = ([], d)) := Lib.hid (by
        have h := HR.out
        have h2 : wholeP (tokL s.data.toList 1 1) = .no d := hw
        rw [h2] at h
        exact h)
      rw [hw] at HSC
      clear hw HR
      go_wp2_with fail
      refine HSC.out.mono ?_
      rintro e w5 ⟨rfl, hs5⟩
      have hs5' := hs5.blk HS4.out (fun e => by have e : W.heap.size = W.heap.size + 1 + 1 := e; omega)
      have hd5' := hs5.blk HD4.out (fun e => by have e : W.heap.size + 1 = W.heap.size + 1 + 1 := e; omega)
      have HB5 := Lib.hid (hs5.below HB4.out (fun k hk => by have hk : k = W.heap.size + 1 + 1 := hk; omega))
      go_wp2_with fail
      refine leaves_cons (f := 22) (args := #[.pointer (some ⟨W.heap.size, 0, none⟩), .pointer (some ⟨W.heap.size + 1, 0, none⟩)]) (by simp) (by simp [go_sem]) ?_
      refine (parseCatch_wrong W.heap.size (W.heap.size + 1) [] w5 _ _ _ _ _ _ _ hs5' hd5' (by omega)).mono ?_
      rintro e u' w' ⟨rfl, rfl, hsp, hg, hh⟩
      have s0 := hg.cell (i := 0) (by simp)
      have d0 := hh.cell (i := 0) (by simp)
      have d1 := hh.cell (i := 1) (by simp)
      have d2 := hh.cell (i := 2) (by simp)
      simp only [List.getElem_cons_succ, List.getElem_cons_zero] at s0 d0 d1 d2
      simp [Leaves, settle, results, Try.results9, go_sem, s0, d0, d1, d2]
      rw [HRV.out]
      exact ⟨none, 0, rfl, .inl rfl, Nat.zero_le _, hsp.below HB5.out (fun k hk => by rcases hk with hk | hk <;> omega)⟩
    | ok sc r =>
      have HRV : Hid (R = (sc, (0, 0, 0))) := Lib.hid (by
        have h := HR.out
        have h2 : wholeP (tokL s.data.toList 1 1) = .ok sc r := hw
        rw [h2] at h
        exact h)
      rw [hw] at HSC
      clear hw HR
      go_wp2_with fail
      refine HSC.out.mono ?_
      rintro e w5 ⟨A, c, rfl, hsc, hlen, hs5⟩
      have hs5' := hs5.blk HS4.out (fun e => by have e : W.heap.size = W.heap.size + 1 + 1 := e; omega)
      have hd5' := hs5.blk HD4.out (fun e => by have e : W.heap.size + 1 = W.heap.size + 1 + 1 := e; omega)
      have HB5 := Lib.hid (hs5.below HB4.out (fun k hk => by have hk : k = W.heap.size + 1 + 1 := hk; omega))
      have a0 := hs5'.cell (i := 0) (by simp)
      have b0 := hd5'.cell (i := 0) (by simp)
      have b1 := hd5'.cell (i := 1) (by simp)
      have b2 := hd5'.cell (i := 2) (by simp)
      simp only [List.getElem_cons_succ, List.getElem_cons_zero] at a0 b0 b1 b2
      have af := hs5'.free 0
      have bf0 := hd5'.free 0
      have bf1 := hd5'.free 1
      have bf2 := hd5'.free 2
      have HSCA := Lib.hid hsc
      have HLEN := Lib.hid hlen
      obtain ⟨w6, hw6⟩ : ∃ w6, w6 = ((((w5.setCell ⟨W.heap.size, 0, none⟩ (.slice A sc.length c)).setCell ⟨W.heap.size + 1, 0, none⟩ (.int .i64 0)).setCell ⟨W.heap.size + 1, 1, none⟩ (.int .i64 0)).setCell ⟨W.heap.size + 1, 2, none⟩ (.int .i64 0)) := ⟨_, rfl⟩
      have hn1 : ∀ o, W.heap.size ≠ (⟨W.heap.size + 1, o, none⟩ : Addr).block := fun o => by show W.heap.size ≠ W.heap.size + 1; omega
      have hn2 : ∀ o, W.heap.size + 1 ≠ (⟨W.heap.size, o, none⟩ : Addr).block := fun o => by show W.heap.size + 1 ≠ W.heap.size; omega
      have HS6 : Hid (Blk w6 W.heap.size [.slice A sc.length c] 25) := by
        rw [hw6]
        have := (((hs5'.set 0 (.slice A sc.length c)).other _ (.int .i64 0) (hn1 0)).other _ (.int .i64 0) (hn1 1)).other _ (.int .i64 0) (hn1 2)
        exact Lib.hid (by simpa using this)
      have HD6 : Hid (Blk w6 (W.heap.size + 1) [.int .i64 0, .int .i64 0, .int .i64 0] 28) := by
        rw [hw6]
        have := (((hd5'.other _ (.slice A sc.length c) (hn2 0)).set 0 (.int .i64 0)).set 1 (.int .i64 0)).set 2 (.int .i64 0)
        exact Lib.hid (by simpa using this)
      have HSP6 : Hid (Spared w5 w6 (fun b => b = W.heap.size ∨ b = W.heap.size + 1)) := by
        rw [hw6]
        exact Lib.hid (((((Spared.refl w5 _).setCell (g := W.heap.size) (.inl rfl) 0 _).setCell (g := W.heap.size + 1) (.inr rfl) 0 _).setCell (g := W.heap.size + 1) (.inr rfl) 1 _).setCell (g := W.heap.size + 1) (.inr rfl) 2 _)
      have HW6 := Lib.hid hw6
      clear hs5' hd5' hs5 hsc hlen hw6 hn1 hn2
      go_wp2_with fail
      rw [← HW6.out]
      refine leaves_cons (f := 22) (args := #[.pointer (some ⟨W.heap.size, 0, none⟩), .pointer (some ⟨W.heap.size + 1, 0, none⟩)]) (by simp) (by simp [go_sem]) ?_
      refine (parseCatch_idle _ _ _).mono ?_
      rintro e u' w' ⟨rfl, rfl, rfl⟩
      have s0 := (HS6.out.alloc (.cells #[.int .i64 0, .int .i64 0, .int .i64 0] 28)).cell (i := 0) (by simp)
      have d0 := (HD6.out.alloc (.cells #[.int .i64 0, .int .i64 0, .int .i64 0] 28)).cell (i := 0) (by simp)
      have d1 := (HD6.out.alloc (.cells #[.int .i64 0, .int .i64 0, .int .i64 0] 28)).cell (i := 1) (by simp)
      have d2 := (HD6.out.alloc (.cells #[.int .i64 0, .int .i64 0, .int .i64 0] 28)).cell (i := 2) (by simp)
      simp only [List.getElem_cons_succ, List.getElem_cons_zero] at s0 d0 d1 d2
      simp [Leaves, settle, results, Try.results9, go_sem, s0, d0, d1, d2]
      rw [HRV.out]
      have hb6 := HSP6.out.below HB5.out (fun k hk => by rcases hk with hk | hk <;> omega)
      have hz4 := HZ4.out
      have h6 : ScAt w6 (fun b => b < W.heap.size) A sc := by
        refine ScAt.moved (F := Old (W.heap.size + 1 + 1) w4) (HSP6.out.mono (fun b hb => .inr (by rcases hb with hb | hb <;> omega))) (fun i hi => .inl (.inr (by have hi : i < W.heap.size := hi; omega))) HSCA.out
      exact ⟨A, c, rfl, h6.below ((Below.refl w6.heap.size w6).alloc (Nat.le_refl _) _), HLEN.out, hb6.trans (((Below.refl w6.heap.size w6).alloc (Nat.le_refl _) _).mono hb6.size)⟩
end Go.Proofs.Ytpiaiibobjlipaa
namespace Go.Proofs.Ytpiaiibobjlipaa
open Go.RowKit
theorem mayE_zero (k : Int) (n o : Txt) (ks : List Ex) : mayE (.mk k n o ks) 0 = false := by rw [mayE, if_pos (.inl rfl)]
theorem mayE_none {k : Int} (n o : Txt) (ks : List Ex) (m : Int) (h : k < 0 ∨ 4 < k) : mayE (.mk k n o ks) m = false := by rw [mayE, if_pos (.inr h)]
theorem mayE_rel (n o : Txt) (ks : List Ex) {m : Int} (h : m ≠ 0) : mayE (.mk 0 n o ks) m = ((ks.length == 0) && nameL n) := by
  rw [mayE, if_neg (by omega), if_pos (by decide)]
  cases nameL n <;> cases (ks.length == 0) <;> simp
theorem mayE_arrow (n o : Txt) (ks : List Ex) {m : Int} (h : m ≠ 0) : mayE (.mk 1 n o ks) m = ((ks.length == 0) && (nameL n && nameL o)) := by
  rw [mayE, if_neg (by omega), if_pos (by decide)]
  cases nameL n <;> cases (ks.length == 0) <;> simp
theorem mayE_two {k : Int} (n o : Txt) (ks : List Ex) {m : Int} (h : m ≠ 0) (hk : k = 2 ∨ k = 3 ∨ k = 4) : mayE (.mk k n o ks) m = (decide (ks.length = 2) && mayL ks (m - 1)) := by
  rw [mayE, if_neg (by omega), if_neg (by omega)]
set_option maxHeartbeats 1000000 in
theorem pmayExpr_any : ∀ (e : Ex) (W : World) (F : Nat → Prop) (cs : List Value) (m : Int), ExAt W F e cs → 0 ≤ m ∧ m ≤ 1000 →
    Calls Try.prog 40 #[.agg cs.toArray, .int .i64 m] W fun e' w' => e' = .returned (.bool (mayE e m)) ∧ Below W.heap.size W w' := by
  intro e
  refine Ex.all (P := fun e => ∀ (W : World) (F : Nat → Prop) (cs : List Value) (m : Int), ExAt W F e cs → 0 ≤ m ∧ m ≤ 1000 →
    Calls Try.prog 40 #[.agg cs.toArray, .int .i64 m] W fun e' w' => e' = .returned (.bool (mayE e m)) ∧ Below W.heap.size W w') (fun k n o ks ih W F cs m hE hm => ?_) e
  obtain ⟨A, c, rfl, ⟨⟨k1, k2⟩, hn, ho, hl⟩, hr⟩ := hE.row
  show Calls _ _ #[.agg #[.int .i64 k, strV n, strV o, .slice A ks.length c], .int .i64 m] _ _
  obtain ⟨m1, m2⟩ := hm
  obtain ⟨W1, hW⟩ : ∃ W1, W1 = W.alloc (.cells #[.int .i64 k, strV n, strV o, .slice A ks.length c] 35) := ⟨_, rfl⟩
  have HK0 : Hid (Blk W1 W.heap.size [.int .i64 k, strV n, strV o, .slice A ks.length c] 35) := by rw [hW]; exact Lib.hid (Blk.new W _ _)
  have HB0 : Hid (Below W.heap.size W W1) := by rw [hW]; exact Lib.hid ((Below.refl W.heap.size W).alloc (Nat.le_refl _) _)
  have HR := Lib.hid hr
  have HI := Lib.hid ih
  have HW := Lib.hid hW
  have HNn := Lib.hid (fun W => name_any n W hn)
  have HNo := Lib.hid (fun W => name_any o W ho)
  clear ih hr hE hW
  by_cases h0 : m = 0
  · subst h0
    rw [mayE_zero]
    go_enter Try.func40, Try.ntmps40
    go_wp2_with fail
    go_ret
    exact ⟨rfl, by rw [← HW.out]; exact HB0.out⟩
  have b0 : ((m : Int) == 0) = false := beq_eq_false_iff_ne.2 h0
  by_cases hbad : k < 0 ∨ 4 < k
  · rw [mayE_none n o ks m hbad]
    have b1 : ¬ k = 0 := by omega
    have b2 : ¬ k = 1 := by omega
    have b3 : ¬ k = 2 := by omega
    have b4 : ¬ k = 3 := by omega
    have b5 : ¬ k = 4 := by omega
    have d1 : (k == 0) = false := beq_eq_false_iff_ne.2 b1
    have d2 : (k == 1) = false := beq_eq_false_iff_ne.2 b2
    have d3 : (k == 2) = false := beq_eq_false_iff_ne.2 b3
    have d4 : (k == 3) = false := beq_eq_false_iff_ne.2 b4
    have d5 : (k == 4) = false := beq_eq_false_iff_ne.2 b5
    clear hbad
    go_enter Try.func40, Try.ntmps40
    go_wp2_with fail
    go_ret
    exact ⟨rfl, by rw [← HW.out]; exact HB0.out⟩
  have hc : k = 0 ∨ k = 1 ∨ (k = 2 ∨ k = 3 ∨ k = 4) := by omega
  clear hbad
  obtain ⟨z, hz⟩ : ∃ z, (ks.length == 0) = z := ⟨_, rfl⟩
  have hz2 : (((ks.length : Nat) : Int) == 0) = z := by
    rw [← hz, Bool.eq_iff_iff]; simp only [beq_iff_eq]; omega
  obtain ⟨x, hx⟩ : ∃ x, nameL n = x := ⟨_, rfl⟩
  obtain ⟨y, hy⟩ : ∃ y, nameL o = y := ⟨_, rfl⟩
  rw [hx] at HNn
  rw [hy] at HNo
  rcases hc with rfl | rfl | hk
  · have HV : Hid (mayE (.mk 0 n o ks) m = (z && x)) := Lib.hid (by rw [mayE_rel n o ks h0, hz, hx])
    rw [HV.out]
    clear HV hz hx hy
    cases z
    · go_enter Try.func40, Try.ntmps40
      go_wp2_with fail
      go_ret
      exact ⟨rfl, by rw [← HW.out]; exact HB0.out⟩
    · go_enter Try.func40, Try.ntmps40
      go_wp2_with fail
      rw [← HW.out]
      refine (HNn.out _).mono ?_
      rintro e w2 ⟨rfl, hb2⟩
      go_wp2_with fail
      go_ret
      exact ⟨rfl, HB0.out.trans (hb2.mono HB0.out.size)⟩
  · have HV : Hid (mayE (.mk 1 n o ks) m = (z && (x && y))) := Lib.hid (by rw [mayE_arrow n o ks h0, hz, hx, hy])
    rw [HV.out]
    clear HV hz hx hy
    cases z
    · go_enter Try.func40, Try.ntmps40
      go_wp2_with fail
      go_ret
      exact ⟨rfl, by rw [← HW.out]; exact HB0.out⟩
    · cases x
      · go_enter Try.func40, Try.ntmps40
        go_wp2_with fail
        rw [← HW.out]
        refine (HNn.out _).mono ?_
        rintro e w2 ⟨rfl, hb2⟩
        go_wp2_with fail
        go_ret
        exact ⟨rfl, HB0.out.trans (hb2.mono HB0.out.size)⟩
      · go_enter Try.func40, Try.ntmps40
        go_wp2_with fail
        rw [← HW.out]
        refine (HNn.out _).mono ?_
        rintro e w2 ⟨rfl, hb2⟩
        have x2 := (HK0.out.below hb2 HK0.out.lt).cell (i := 2) (by simp)
        simp only [List.getElem_cons_succ, List.getElem_cons_zero] at x2
        have HB2 := Lib.hid (HB0.out.trans (hb2.mono HB0.out.size))
        clear hb2
        go_wp2_with fail
        refine (HNo.out _).mono ?_
        rintro e w3 ⟨rfl, hb3⟩
        go_wp2_with fail
        go_ret
        exact ⟨rfl, HB2.out.trans (hb3.mono HB2.out.size)⟩
  · have HV : Hid (mayE (.mk k n o ks) m = (decide (ks.length = 2) && mayL ks (m - 1))) := Lib.hid (mayE_two n o ks h0 hk)
    rw [HV.out]
    clear HV hz hx hy hz2 HNn HNo
    have hk0 : ¬ k = 0 := by omega
    have hk1 : ¬ k = 1 := by omega
    have hd0 : (k == 0) = false := beq_eq_false_iff_ne.2 hk0
    have hd1 : (k == 1) = false := beq_eq_false_iff_ne.2 hk1
    by_cases h3 : ks.length = 2
    · rw [decide_eq_true h3, Bool.true_and]
      obtain ⟨a, d, rfl⟩ : ∃ a d, ks = [a, d] := by
        match ks, h3 with
        | [a, b], _ => exact ⟨a, b, rfl⟩
      rw [mayL, mayL, mayL, Bool.and_true]
      obtain ⟨b, off, k3, n3, o3, A3, m3, c3, rfl, hE3, hc3⟩ := HR.out.kid (j := 0) (by simp)
      obtain ⟨b', off', k4, n4, o4, A4, m4, c4, hbb, hE4, hc4⟩ := HR.out.kid (j := 1) (by simp)
      injection hbb with hbb
      injection hbb with hb1 hb2 _
      subst hb1 hb2
      have HC3 : Hid (∀ W', Below W.heap.size W W' → W'.cell? ⟨b, off, none⟩ = some (.int .i64 k3) ∧ W'.cell? ⟨b, off + 1, none⟩ = some (strV n3) ∧ W'.cell? ⟨b, off + 2, none⟩ = some (strV o3) ∧ W'.cell? ⟨b, off + 3, none⟩ = some (.slice A3 m3 c3)) := Lib.hid (fun W' hW' => by have h := hc3 W' hW'; unfold ExFour at h; simpa using h)
      have HC4 : Hid (∀ W', Below W.heap.size W W' → W'.cell? ⟨b, off + 4, none⟩ = some (.int .i64 k4) ∧ W'.cell? ⟨b, off + 4 + 1, none⟩ = some (strV n4) ∧ W'.cell? ⟨b, off + 4 + 2, none⟩ = some (strV o4) ∧ W'.cell? ⟨b, off + 4 + 3, none⟩ = some (.slice A4 m4 c4)) := Lib.hid (fun W' hW' => by have h := hc4 W' hW'; unfold ExFour at h; simpa using h)
      have HX := Lib.hid (HI.out a (by simp) W1 F _ (m - 1) (ExAt.below HB0.out hE3) (by omega))
      have HIY := Lib.hid (fun W' (hW' : Below W.heap.size W W') => HI.out d (by simp) W' F _ (m - 1) (ExAt.below hW' hE4) (by omega))
      obtain ⟨q1, hq1⟩ : ∃ q, mayE a (m - 1) = q := ⟨_, rfl⟩
      obtain ⟨q2, hq2⟩ : ∃ q, mayE d (m - 1) = q := ⟨_, rfl⟩
      rw [hq1] at HX ⊢
      rw [hq2] at HIY ⊢
      have HK : Hid (Blk W1 W.heap.size [.int .i64 k, strV n, strV o, .slice (some ⟨b, off, none⟩) 2 c] 35) := HK0
      have HW2 : Hid (W1 = W.alloc (.cells #[.int .i64 k, strV n, strV o, .slice (some ⟨b, off, none⟩) 2 c] 35)) := HW
      clear hc3 hc4 hE3 hE4 hq1 hq2 HI HR HK0 HW h3 hl
      show Calls _ _ #[.agg #[.int .i64 k, strV n, strV o, .slice (some ⟨b, off, none⟩) 2 c], .int .i64 m] _ _
      have z0 : ∀ o, (W.alloc o).cell? ⟨b, off, none⟩ = some (.int .i64 k3) := fun o => (HC3.out _ ((Below.refl _ _).alloc (Nat.le_refl _) o)).1
      have z1 : ∀ o, (W.alloc o).cell? ⟨b, off + 1, none⟩ = some (strV n3) := fun o => (HC3.out _ ((Below.refl _ _).alloc (Nat.le_refl _) o)).2.1
      have z2 : ∀ o, (W.alloc o).cell? ⟨b, off + 2, none⟩ = some (strV o3) := fun o => (HC3.out _ ((Below.refl _ _).alloc (Nat.le_refl _) o)).2.2.1
      have z3 : ∀ o, (W.alloc o).cell? ⟨b, off + 3, none⟩ = some (.slice A3 m3 c3) := fun o => (HC3.out _ ((Below.refl _ _).alloc (Nat.le_refl _) o)).2.2.2
      rcases hk with rfl | rfl | rfl
      all_goals
        cases q1
        · go_enter Try.func40, Try.ntmps40
          go_wp2_with (go_at_call 40; rw [← HW2.out]; refine HX.out.mono ?_; rintro e w2 ⟨rfl, hb2⟩)
          go_ret
          exact ⟨rfl, HB0.out.trans (hb2.mono HB0.out.size)⟩
        · go_enter Try.func40, Try.ntmps40
          go_wp2_with (first
            | (go_at_call 40; rw [← HW2.out]; refine HX.out.mono ?_; rintro e w2 ⟨rfl, hb2⟩; have HB2 := Lib.hid (HB0.out.trans (hb2.mono HB0.out.size)); have HY := Lib.hid (HIY.out w2 HB2.out); have x3 := (HK.out.below hb2 HK.out.lt).cell (i := 3) (by simp); simp only [List.getElem_cons_succ, List.getElem_cons_zero] at x3; obtain ⟨u0, u1, u2, u3⟩ := HC4.out w2 HB2.out; clear hb2)
            | (go_at_call 40; refine HY.out.mono ?_; rintro e w3 ⟨rfl, hb3⟩))
          go_ret
          exact ⟨rfl, HB2.out.trans (hb3.mono HB2.out.size)⟩
    · have hd : ((ks.length : Int) == 2) = false := beq_eq_false_iff_ne.2 (by omega)
      have hdi : ¬ (ks.length : Int) = 2 := by omega
      rw [decide_eq_false h3, Bool.false_and]
      clear h3
      rcases hk with rfl | rfl | rfl
      all_goals
        go_enter Try.func40, Try.ntmps40
        go_wp2_with fail
        go_ret
        exact ⟨rfl, by rw [← HW.out]; exact HB0.out⟩
end Go.Proofs.Ytpiaiibobjlipaa
namespace Go.Proofs.Ytpiaiibobjlipaa
open Go.RowKit
theorem opT_parts {k : Int} (h : k = 2 ∨ k = 3 ∨ k = 4) : opT k = [32] ++ opS k ++ [32] := by
  rcases h with rfl | rfl | rfl <;> rfl
set_option maxRecDepth 100000 in
set_option maxHeartbeats 2000000 in
theorem pshow_any : ∀ (e : Ex) (W : World) (F : Nat → Prop) (cs : List Value) (m : Int), ExAt W F e cs → mayE e m = true → 0 ≤ m ∧ m ≤ 12 →
    Calls Try.prog 41 #[.agg cs.toArray] W fun e' w' => e' = .returned (strV (showE e)) ∧ Below W.heap.size W w' := by
  intro e
  refine Ex.all (P := fun e => ∀ (W : World) (F : Nat → Prop) (cs : List Value) (m : Int), ExAt W F e cs → mayE e m = true → 0 ≤ m ∧ m ≤ 12 →
    Calls Try.prog 41 #[.agg cs.toArray] W fun e' w' => e' = .returned (strV (showE e)) ∧ Below W.heap.size W w') (fun k n o ks ih W F cs m hE hmay hm => ?_) e
  have hlen : ∀ x ∈ ks, ∀ j : Int, 0 ≤ j → j ≤ 12 → mayE x j = true → (showE x).length ≤ 262144 := fun x _ j h0 h1 hx => by
    have h2 := showE_len x j h0 hx
    have h3 : 2 ^ j.toNat ≤ 2 ^ 12 := Nat.pow_le_pow_right (by omega) (by omega)
    have h4 : (2 : Nat) ^ 12 = 4096 := by decide
    omega
  obtain ⟨A, c, rfl, ⟨⟨k1, k2⟩, hn, ho, hl⟩, hr⟩ := hE.row
  show Calls _ _ #[.agg #[.int .i64 k, strV n, strV o, .slice A ks.length c]] _ _
  obtain ⟨m1, m2⟩ := hm
  obtain ⟨v, hv⟩ : ∃ v, v = showE (.mk k n o ks) := ⟨_, rfl⟩
  rw [← hv]
  unfold showE at hv
  unfold mayE at hmay
  by_cases hb : m = 0 ∨ k < 0 ∨ 4 < k
  · rw [if_pos hb] at hmay; cases hmay
  rw [if_neg hb] at hmay
  obtain ⟨W1, hW⟩ : ∃ W1, W1 = W.alloc (.cells #[.int .i64 k, strV n, strV o, .slice A ks.length c] 35) := ⟨_, rfl⟩
  have HK0 : Hid (Blk W1 W.heap.size [.int .i64 k, strV n, strV o, .slice A ks.length c] 35) := by rw [hW]; exact Lib.hid (Blk.new W _ _)
  have HB0 : Hid (Below W.heap.size W W1) := by rw [hW]; exact Lib.hid ((Below.refl W.heap.size W).alloc (Nat.le_refl _) _)
  have HR := Lib.hid hr
  have HI := Lib.hid ih
  have HW := Lib.hid hW
  clear ih hr hE hW
  by_cases hk : k ≤ 1
  · rw [if_pos hk] at hmay
    simp only [Bool.and_eq_true, Bool.or_eq_true] at hmay
    obtain ⟨h1, _, h3⟩ := hmay
    have l1 := (nameL_len h1).2
    by_cases h0 : k = 0
    · rw [if_pos h0] at hv
      subst h0 hv
      have HC := Lib.hid (fun W => sclone_any v W (by omega))
      clear hb hk h1 h3 l1 hlen
      go_enter Try.func41, Try.ntmps41
      go_wp2_with fail
      rw [← HW.out]
      refine (HC.out _).mono ?_
      rintro e w2 ⟨rfl, hb2⟩
      go_wp2_with fail
      go_ret
      exact ⟨rfl, HB0.out.trans (hb2.mono HB0.out.size)⟩
    · obtain rfl : k = 1 := by omega
      have h4 : nameL o = true := h3.resolve_left (by simp)
      have l2 := (nameL_len h4).2
      rw [if_neg (by decide), if_pos rfl] at hv
      obtain ⟨T1, hT1⟩ : ∃ T1, T1 = n ++ [46] := ⟨_, rfl⟩
      rw [← hT1] at hv
      have J1 : ∀ W, (Op.stringOp .add ⟨n.toArray⟩ ⟨#[46]⟩).run Try.prog W = .ok (strV T1) W := fun W => by rw [hT1]; exact plus n [46] (by omega) (by simp) W
      have J2 : ∀ W, (Op.stringOp .add ⟨T1.toArray⟩ ⟨o.toArray⟩).run Try.prog W = .ok (strV v) W := fun W => by rw [hv]; exact plus T1 o (by rw [hT1]; simp; omega) (by omega) W
      clear hb hk h1 h3 h4 l1 l2 hlen h0 hT1 hv
      go_enter Try.func41, Try.ntmps41
      go_wp2_with fail
      go_ret
      exact ⟨rfl, by rw [← HW.out]; exact HB0.out⟩
  · rw [if_neg hk] at hmay
    rw [if_neg (by omega), if_neg (by omega)] at hv
    simp only [Bool.and_eq_true, decide_eq_true_eq] at hmay
    obtain ⟨h1, h2⟩ := hmay
    obtain ⟨x, y, rfl⟩ : ∃ x y, ks = [x, y] := by
      match ks, h1 with
      | [a, b], _ => exact ⟨a, b, rfl⟩
    simp only [mayL, Bool.and_true, Bool.and_eq_true] at h2
    have l1 := hlen x (by simp) (m - 1) (by omega) (by omega) h2.1
    have l2 := hlen y (by simp) (m - 1) (by omega) (by omega) h2.2
    obtain ⟨b, off, k3, n3, o3, A3, m3, c3, rfl, hE3, hc3⟩ := HR.out.kid (j := 0) (by simp)
    obtain ⟨b', off', k4, n4, o4, A4, m4, c4, hbb, hE4, hc4⟩ := HR.out.kid (j := 1) (by simp)
    injection hbb with hbb
    injection hbb with hb1 hb2 _
    subst hb1 hb2
    have HX := Lib.hid (fun W' (hW' : Below W.heap.size W W') => HI.out x (by simp) W' F _ (m - 1) (ExAt.below hW' hE3) h2.1 (by omega))
    have HIY := Lib.hid (fun W' (hW' : Below W.heap.size W W') => HI.out y (by simp) W' F _ (m - 1) (ExAt.below hW' hE4) h2.2 (by omega))
    have HK : Hid (Blk W1 W.heap.size [.int .i64 k, strV n, strV o, .slice (some ⟨b, off, none⟩) 2 c] 35) := HK0
    have HW2 : Hid (W1 = W.alloc (.cells #[.int .i64 k, strV n, strV o, .slice (some ⟨b, off, none⟩) 2 c] 35)) := HW
    have hk3 : k = 2 ∨ k = 3 ∨ k = 4 := by omega
    rw [opT_parts hk3] at hv
    have HOP := Lib.hid (fun W => operator_any k W)
    have hopl : (opS k).length ≤ 1 := by rcases hk3 with h | h | h <;> (rw [h]; decide)
    obtain ⟨sx, hsx⟩ : ∃ sx, showE x = sx := ⟨_, rfl⟩
    obtain ⟨sy, hsy⟩ : ∃ sy, showE y = sy := ⟨_, rfl⟩
    simp only [showAll, List.getD_cons_zero, List.getD_cons_succ, hsx, hsy] at hv
    generalize opS k = so at *
    rw [hsx] at HX l1
    rw [hsy] at HIY l2
    have HX : Hid (∀ W', Below W.heap.size W W' → Calls Try.prog 41 #[.agg #[.int .i64 k3, strV n3, strV o3, .slice A3 m3 c3]] W' fun e' w' => e' = .returned (strV sx) ∧ Below W'.heap.size W' w') := HX
    have HIY : Hid (∀ W', Below W.heap.size W W' → Calls Try.prog 41 #[.agg #[.int .i64 k4, strV n4, strV o4, .slice A4 m4 c4]] W' fun e' w' => e' = .returned (strV sy) ∧ Below W'.heap.size W' w') := HIY
    have hS3 : ∀ W', Below W.heap.size W W' → (W'.cell? ⟨b, off, none⟩ = some (.int .i64 k3) ∧ W'.cell? ⟨b, off + 1, none⟩ = some (strV n3) ∧ W'.cell? ⟨b, off + 2, none⟩ = some (strV o3) ∧ W'.cell? ⟨b, off + 3, none⟩ = some (.slice A3 m3 c3)) ∧ (W'.cell? ⟨b, off + 4, none⟩ = some (.int .i64 k4) ∧ W'.cell? ⟨b, off + 4 + 1, none⟩ = some (strV n4) ∧ W'.cell? ⟨b, off + 4 + 2, none⟩ = some (strV o4) ∧ W'.cell? ⟨b, off + 4 + 3, none⟩ = some (.slice A4 m4 c4)) := fun W' hW' => by
      have h3 := hc3 W' hW'
      have h4 := hc4 W' hW'
      unfold ExFour at h3 h4
      exact ⟨by simpa using h3, by simpa using h4⟩
    have hS : ∀ W', Below W1.heap.size W1 W' → (W'.cell? ⟨W.heap.size, 0, none⟩ = some (.int .i64 k) ∧ W'.cell? ⟨W.heap.size, 3, none⟩ = some (.slice (some ⟨b, off, none⟩) 2 c)) ∧ (W'.cell? ⟨b, off, none⟩ = some (.int .i64 k3) ∧ W'.cell? ⟨b, off + 1, none⟩ = some (strV n3) ∧ W'.cell? ⟨b, off + 2, none⟩ = some (strV o3) ∧ W'.cell? ⟨b, off + 3, none⟩ = some (.slice A3 m3 c3)) ∧ (W'.cell? ⟨b, off + 4, none⟩ = some (.int .i64 k4) ∧ W'.cell? ⟨b, off + 4 + 1, none⟩ = some (strV n4) ∧ W'.cell? ⟨b, off + 4 + 2, none⟩ = some (strV o4) ∧ W'.cell? ⟨b, off + 4 + 3, none⟩ = some (.slice A4 m4 c4)) := fun W' hW' => by
      have hb := HB0.out.trans (hW'.mono HB0.out.size)
      exact ⟨⟨(HK.out.below hW' HK.out.lt).cell (i := 0) (by simp), (HK.out.below hW' HK.out.lt).cell (i := 3) (by simp)⟩, hS3 W' hb⟩
    have HS := Lib.hid hS
    have hS0 := hS _ (Below.refl W1.heap.size W1).drew
    obtain ⟨T1, hT1⟩ : ∃ T1, T1 = [40] ++ sx := ⟨_, rfl⟩
    obtain ⟨T2, hT2⟩ : ∃ T2, T2 = T1 ++ [32] := ⟨_, rfl⟩
    obtain ⟨T3, hT3⟩ : ∃ T3, T3 = T2 ++ so := ⟨_, rfl⟩
    obtain ⟨T4, hT4⟩ : ∃ T4, T4 = T3 ++ [32] := ⟨_, rfl⟩
    obtain ⟨T5, hT5⟩ : ∃ T5, T5 = T4 ++ sy := ⟨_, rfl⟩
    have hv5 : v = T5 ++ [41] := by rw [hv, hT5, hT4, hT3, hT2, hT1]; simp
    have J1 : ∀ W, (Op.stringOp .add ⟨#[40]⟩ ⟨sx.toArray⟩).run Try.prog W = .ok (strV T1) W := fun W => by rw [hT1]; exact plus [40] sx (by simp) (by omega) W
    have J2 : ∀ W, (Op.stringOp .add ⟨T1.toArray⟩ ⟨#[32]⟩).run Try.prog W = .ok (strV T2) W := fun W => by rw [hT2]; exact plus T1 [32] (by rw [hT1]; simp; omega) (by simp) W
    have J3 : ∀ W, (Op.stringOp .add ⟨T2.toArray⟩ ⟨so.toArray⟩).run Try.prog W = .ok (strV T3) W := fun W => by rw [hT3]; exact plus T2 so (by rw [hT2, hT1]; simp; omega) (by omega) W
    have J4 : ∀ W, (Op.stringOp .add ⟨T3.toArray⟩ ⟨#[32]⟩).run Try.prog W = .ok (strV T4) W := fun W => by rw [hT4]; exact plus T3 [32] (by rw [hT3, hT2, hT1]; simp; omega) (by simp) W
    have J5 : ∀ W, (Op.stringOp .add ⟨T4.toArray⟩ ⟨sy.toArray⟩).run Try.prog W = .ok (strV T5) W := fun W => by rw [hT5]; exact plus T4 sy (by rw [hT4, hT3, hT2, hT1]; simp; omega) (by omega) W
    have J6 : ∀ W, (Op.stringOp .add ⟨T5.toArray⟩ ⟨#[41]⟩).run Try.prog W = .ok (strV v) W := fun W => by rw [hv5]; exact plus T5 [41] (by rw [hT5, hT4, hT3, hT2, hT1]; simp; omega) (by simp) W
    have hk0 : ¬ k = 0 := by omega
    have hk1 : ¬ k = 1 := by omega
    have hd0 : (k == 0) = false := beq_eq_false_iff_ne.2 hk0
    have hd1 : (k == 1) = false := beq_eq_false_iff_ne.2 hk1
    clear hS hS3 hc3 hc4 hE3 hE4 hsx hsy HI HR HK0 HW hl h1 h2 hlen hT1 hT2 hT3 hT4 hT5 hv hv5 l1 l2 hopl hb hk hk3
    show Calls _ _ #[.agg #[.int .i64 k, strV n, strV o, .slice (some ⟨b, off, none⟩) 2 c]] _ _
    go_enter Try.func41, Try.ntmps41
    go_wp2_with fail
    rw [← HW2.out]
    have HX1 := Lib.hid (HX.out W1.drew HB0.out.drew)
    go_region_held_law (fun w' => (w'.cell? ⟨W.heap.size, 0, none⟩ = some (.int .i64 k) ∧ w'.cell? ⟨W.heap.size, 3, none⟩ = some (.slice (some ⟨b, off, none⟩) 2 c)) ∧ (w'.cell? ⟨b, off, none⟩ = some (.int .i64 k3) ∧ w'.cell? ⟨b, off + 1, none⟩ = some (strV n3) ∧ w'.cell? ⟨b, off + 2, none⟩ = some (strV o3) ∧ w'.cell? ⟨b, off + 3, none⟩ = some (.slice A3 m3 c3)) ∧ (w'.cell? ⟨b, off + 4, none⟩ = some (.int .i64 k4) ∧ w'.cell? ⟨b, off + 4 + 1, none⟩ = some (strV n4) ∧ w'.cell? ⟨b, off + 4 + 2, none⟩ = some (strV o4) ∧ w'.cell? ⟨b, off + 4 + 3, none⟩ = some (.slice A4 m4 c4)))
      (with_reducible assumption)
      (first
        | (go_at_call 41; with_reducible refine HX1.out.mono ?_; rintro e w2 ⟨rfl, hb2⟩; have HBW2 := Lib.hid ((Below.refl W1.heap.size W1).drew.trans (hb2.mono (Below.refl W1.heap.size W1).drew.size)); have HB2 := Lib.hid (HB0.out.trans (HBW2.out.mono HB0.out.size)); have hS2 := HS.out _ HBW2.out; have HY := Lib.hid (HIY.out w2 HB2.out); clear hb2)
        | (go_at_call 65; with_reducible refine (HOP.out _).mono ?_; rintro e w4 ⟨rfl, rfl⟩)
        | (go_at_call 41; with_reducible refine HY.out.mono ?_; rintro e w3 ⟨rfl, hb3⟩; have hS3 := HS.out _ (HBW2.out.trans (hb3.mono HBW2.out.size))))
    go_wp2_with fail
    go_ret
    exact ⟨rfl, HB2.out.trans (hb3.mono HB2.out.size)⟩
end Go.Proofs.Ytpiaiibobjlipaa
namespace Go.Proofs.Ytpiaiibobjlipaa
open Go.RowKit
set_option maxHeartbeats 1000000 in
theorem pexprT_any (e : Ex) (W : World) (F : Nat → Prop) (cs : List Value) (h : ExAt W F e cs) :
    Calls Try.prog 18 #[.agg cs.toArray] W fun e' w' => e' = .returned (strV (exprT e)) ∧ Below W.heap.size W w' := by
  obtain ⟨k, n, o, ks⟩ := e
  obtain ⟨A, c, rfl, _, _⟩ := h.row
  show Calls _ _ #[.agg #[.int .i64 k, strV n, strV o, .slice A ks.length c]] _ _
  obtain ⟨W1, hW⟩ : ∃ W1, W1 = W.alloc (.cells #[.int .i64 k, strV n, strV o, .slice A ks.length c] 35) := ⟨_, rfl⟩
  have HC : Hid (∀ W', Below W.heap.size W W' → Calls Try.prog 40 #[.agg #[.int .i64 k, strV n, strV o, .slice A ks.length c], .int .i64 12] W' fun e' w' => e' = .returned (.bool (mayE (.mk k n o ks) 12)) ∧ Below W'.heap.size W' w') := Lib.hid (fun W' hW' => pmayExpr_any _ W' F _ 12 (h.below hW') (by omega))
  have HS : Hid (mayE (.mk k n o ks) 12 = true → ∀ W', Below W.heap.size W W' → Calls Try.prog 41 #[.agg #[.int .i64 k, strV n, strV o, .slice A ks.length c]] W' fun e' w' => e' = .returned (strV (showE (.mk k n o ks))) ∧ Below W'.heap.size W' w') := Lib.hid (fun hm W' hW' => pshow_any _ W' F _ 12 (h.below hW') hm (by omega))
  have HK0 : Hid (Blk W1 W.heap.size [.int .i64 k, strV n, strV o, .slice A ks.length c] 35) := by rw [hW]; exact Lib.hid (Blk.new W _ _)
  have HB0 : Hid (Below W.heap.size W W1) := by rw [hW]; exact Lib.hid ((Below.refl W.heap.size W).alloc (Nat.le_refl _) _)
  have HW := Lib.hid hW
  unfold exprT
  generalize showE (.mk k n o ks) = s at *
  generalize mayE (.mk k n o ks) 12 = q at *
  clear h hW
  have HC1 := Lib.hid (HC.out W1 HB0.out)
  cases q
  · go_enter Try.func18, Try.ntmps18
    go_wp2_with (go_at_call 40; rw [← HW.out]; with_reducible refine HC1.out.mono ?_; rintro e w2 ⟨rfl, hb2⟩)
    go_ret
    exact ⟨rfl, HB0.out.trans (hb2.mono HB0.out.size)⟩
  · go_enter Try.func18, Try.ntmps18
    go_wp2_with (first
      | (go_at_call 40; rw [← HW.out]; with_reducible refine HC1.out.mono ?_; rintro e w2 ⟨rfl, hb2⟩; have HB2 := Lib.hid (HB0.out.trans (hb2.mono HB0.out.size)); have hbk := HK0.out.below hb2 HK0.out.lt; have y0 := hbk.cell (i := 0) (by simp); have y1 := hbk.cell (i := 1) (by simp); have y2 := hbk.cell (i := 2) (by simp); have y3 := hbk.cell (i := 3) (by simp); clear hbk; have HS2 := Lib.hid (HS.out rfl w2 HB2.out))
      | (go_at_call 41; with_reducible refine HS2.out.mono ?_; rintro e w3 ⟨rfl, hb3⟩))
    go_ret
    exact ⟨rfl, HB2.out.trans (hb3.mono HB2.out.size)⟩
end Go.Proofs.Ytpiaiibobjlipaa
