/-
  The parser's accept, expect, name. Conditions: how the parser lies in memory.
  The parser's ref. Conditions: how the parser lies in memory.
  The tokens of a text without their places; the tokens of what is printed. No program is named.
-/
import Derived.Test.YtpiaiibobjlipaaCNmName
import Derived.Test.YtpiaiibobjlipaaCAwL
namespace Go.Proofs.Ytpiaiibobjlipaa
open Go.RowKit
def Gone (W : World) (g : Nat) (s : ByteArray) (i op : Nat) (ts : List Tk) (w' : World) : Prop := ∃ i', ts = toks s.data.toList i' ∧ i < i' ∧ PAt w' g s i' op ∧ Spared W w' (onG g)
theorem PAt.next {W : World} {g : Nat} {s : ByteArray} {i op : Nat} (h : PAt W g s i op) (h1 : (nx (toks s.data.toList i)).1 ≠ []) (h2 : (nx (toks s.data.toList i)).1 ≠ [63]) :
    Calls Try.prog 23 #[.pointer (some ⟨g, 0, none⟩)] W fun e w' => e = .returned (.tuple #[]) ∧ Gone W g s i op (toks s.data.toList i).tail w' := by
  obtain ⟨h3, h4⟩ := h.1.tail h1 h2
  have hl : i + tlen (s.data.toList.drop i) ≤ s.data.toList.length := by rw [size_list]; exact h.le
  obtain ⟨_, h5⟩ := skip_start s.data.toList (s.data.toList.length - (i + tlen (s.data.toList.drop i))) (i + tlen (s.data.toList.drop i)) (by omega)
  refine (next_tok h.le h.2.1 h.2.2).mono ?_
  rintro e w' ⟨h6, h7, h8⟩
  refine ⟨h6, _, h3.trans h5.symm, ?_, h7, h8⟩
  unfold skipT; omega
theorem Gone.since {W W1 w' : World} {g : Nat} {s : ByteArray} {i op : Nat} {ts : List Tk} (h : Gone W1 g s i op ts w') (hb : Below W.heap.size W W1) : Gone W g s i op ts w' := by
  obtain ⟨i', h1, h2, h3, h4⟩ := h
  exact ⟨i', h1, h2, h3, sp_trans (Spared.of_below hb (onG g)) h4⟩
set_option maxHeartbeats 1000000 in
theorem accept_yes {W : World} {g : Nat} {s : ByteArray} {i op : Nat} (h : PAt W g s i op) {t : Txt} (ht : Good t) (h0 : t ≠ []) (he : (nx (toks s.data.toList i)).1 = t) :
    Calls Try.prog 47 #[.pointer (some ⟨g, 0, none⟩), strV t] W fun e w' => e = .returned (.bool true) ∧ Gone W g s i op (toks s.data.toList i).tail w' := by
  have hc : curT s.data.toList i = t := (h.1.tok.1.eq ht).2 he
  have HT := Lib.hid (token_any h)
  rw [hc] at HT
  have hn : (t != t) = false := by simp
  have HN := Lib.hid (fun W' (h' : PAt W' g s i op) => h'.next (by rw [he]; exact h0) (by rw [he]; exact ht.no63))
  have HP := Lib.hid h
  clear h ht h0 he hc
  go_enter Try.func47, Try.ntmps47
  go_wp2_with (first
    | (go_at_call 66; refine HT.out.mono ?_; rintro e w1 ⟨rfl, hb1⟩; have HB1 := Lib.hid hb1; have HP1 := Lib.hid (HP.out.below hb1); clear hb1)
    | (go_at_call 23; refine (HN.out _ HP1.out).mono ?_; rintro e w2 ⟨rfl, hg2⟩; have HG2 := Lib.hid hg2; clear hg2))
  go_ret
  exact ⟨rfl, HG2.out.since HB1.out⟩
set_option maxHeartbeats 1000000 in
theorem accept_no {W : World} {g : Nat} {s : ByteArray} {i op : Nat} (h : PAt W g s i op) {t : Txt} (ht : Good t) (he : (nx (toks s.data.toList i)).1 ≠ t) :
    Calls Try.prog 47 #[.pointer (some ⟨g, 0, none⟩), strV t] W fun e w' => e = .returned (.bool false) ∧ Below W.heap.size W w' := by
  have hc : curT s.data.toList i ≠ t := fun e => he ((h.1.tok.1.eq ht).1 e)
  have HT := Lib.hid (token_any h)
  generalize curT s.data.toList i = u at *
  have hn : (u == t) = false := beq_eq_false_iff_ne.2 hc
  clear h ht he hc
  go_enter Try.func47, Try.ntmps47
  go_wp2_with (go_at_call 66; refine HT.out.mono ?_; rintro e w1 ⟨rfl, hb1⟩)
  go_ret
  exact ⟨rfl, hb1⟩
def POut {α : Type} (V : World → α → Value → Prop) (W : World) (g : Nat) (s : ByteArray) (i op : Nat) (r : Rs α) (e : Ending) (w' : World) : Prop :=
  match r with
  | .ok a ts => ∃ v, e = .returned v ∧ V w' a v ∧ Gone W g s i op ts w'
  | .no d => e = fault d ∧ Spared W w' (onG g)
theorem Start.pos {l : Txt} {i : Nat} (h : Start l i) (e : Nat) : failT (nx (toks l i)) e = ((posT l i).1, (posT l i).2, e) := by
  have := h.tok.2
  unfold failT
  rw [this]
theorem PAt.fail {W : World} {g : Nat} {s : ByteArray} {i op : Nat} (h : PAt W g s i op) (e : Nat) :
    Calls Try.prog 70 #[.pointer (some ⟨g, 0, none⟩), .int .i64 (i : Int), .int .i64 (e : Int)] W fun r w' => r = fault (failT (nx (toks s.data.toList i)) e) ∧ Below W.heap.size W w' := by
  rw [h.1.pos e]
  exact pfail_any ⟨h.lt, h.2.2.cell (i := 0) (by simp)⟩ h.2.1 (by have := h.1.1; rwa [size_list] at this) e
theorem PAt.from_ {W : World} {g : Nat} {s : ByteArray} {i op : Nat} (h : PAt W g s i op) : W.cell? ⟨g, 1, none⟩ = some (.int .i64 (i : Int)) := h.2.2.cell (i := 1) (by simp)
set_option maxHeartbeats 1000000 in
theorem expect_any {W : World} {g : Nat} {s : ByteArray} {i op : Nat} (h : PAt W g s i op) {t : Txt} (ht : Good t) (h0 : t ≠ []) :
    Calls Try.prog 49 #[.pointer (some ⟨g, 0, none⟩), strV t] W (POut (fun _ _ v => v = .tuple #[]) W g s i op (mustP t (toks s.data.toList i))) := by
  have HP := Lib.hid h
  by_cases he : (nx (toks s.data.toList i)).1 = t
  · rw [mustP, if_pos he]
    have HA := Lib.hid (accept_yes h ht h0 he)
    clear h ht h0 he
    go_enter Try.func49, Try.ntmps49
    go_wp2_with (go_at_call 47; refine HA.out.mono ?_; rintro e w1 ⟨rfl, hg1⟩; have HG1 := Lib.hid hg1; clear hg1)
    go_end0
    exact ⟨_, rfl, rfl, HG1.out⟩
  · rw [mustP, if_neg he]
    have HA := Lib.hid (accept_no h ht he)
    clear h ht h0 he
    go_enter Try.func49, Try.ntmps49
    go_wp2_with (first
      | (go_at_call 47; refine HA.out.mono ?_; rintro e w1 ⟨rfl, hb1⟩; have HB1 := Lib.hid hb1; have HP1 := HP.out.below hb1; have x1 := HP1.from_; have HF := Lib.hid (HP1.fail 8); clear hb1 HP1)
      | (go_at_call 70; refine HF.out.mono ?_; rintro e w2 ⟨rfl, hb2⟩))
    exact ⟨rfl, rfl, Spared.of_below (hop HB1.out hb2) (onG g)⟩
theorem sclone_any (l : Txt) (w : World) (hm : l.length ≤ 281474976710656) :
    Calls Try.prog 64 #[strV l] w fun e w' => e = .returned (strV l) ∧ Below w.heap.size w w' := by
  have hC := fun W => Try.stringslite_Clone ⟨l.toArray⟩ W (by simpa [ByteArray.size] using hm)
  have HC := Lib.hid hC
  clear hC
  go_enter Try.func64, Try.ntmps64
  go_wp2_with (go_at_call 85; with_reducible refine (HC.out _).mono ?_; rintro e w1 ⟨rfl, hb1⟩)
  go_ret
  exact ⟨rfl, hb1⟩
set_option maxHeartbeats 1000000 in
theorem pname_any {W : World} {g : Nat} {s : ByteArray} {i op : Nat} (h : PAt W g s i op) :
    Calls Try.prog 67 #[.pointer (some ⟨g, 0, none⟩)] W (POut (fun _ a v => v = strV a ∧ small a) W g s i op (nameP (toks s.data.toList i))) := by
  have HP := Lib.hid h
  have HT := Lib.hid (token_any h)
  have hlen : (curT s.data.toList i).length ≤ 4096 := by
    have := h.2.1
    unfold curT
    rw [List.length_take, List.length_drop, size_list]
    omega
  have HC := Lib.hid (fun W => sclone_any (curT s.data.toList i) W (by omega))
  have HN := Lib.hid (fun W => name_any (curT s.data.toList i) W (by omega))
  by_cases he : nameL (curT s.data.toList i) = true
  · have e1 := h.1.tok.1.name_eq he
    have HX : Hid (nameP (toks s.data.toList i) = .ok (curT s.data.toList i) (toks s.data.toList i).tail) := Lib.hid (by rw [nameP, ← e1, if_pos he])
    have h3 := nameL_ends he
    have HNX := Lib.hid (fun W' (h' : PAt W' g s i op) => h'.next (by rw [← e1]; exact h3.1) (by rw [← e1]; exact h3.2))
    rw [he] at HN
    rw [HX.out]
    generalize curT s.data.toList i = u at *
    clear h he e1 h3 HX
    go_enter Try.func67, Try.ntmps67
    go_wp2_with (first
      | (go_at_call 66; refine HT.out.mono ?_; rintro e w1 ⟨rfl, hb1⟩; have HB1 := Lib.hid hb1; clear hb1)
      | (go_at_call 64; refine (HC.out _).mono ?_; rintro e w2 ⟨rfl, hb2⟩; have HB2 := Lib.hid (hop HB1.out hb2); clear hb2)
      | (go_at_call 61; refine (HN.out _).mono ?_; rintro e w3 ⟨rfl, hb3⟩; have HB3 := Lib.hid (hop HB2.out hb3); have HP3 := Lib.hid (HP.out.below HB3.out); clear hb3)
      | (go_at_call 23; refine (HNX.out _ HP3.out).mono ?_; rintro e w4 ⟨rfl, hg4⟩; have HG4 := Lib.hid hg4; clear hg4))
    go_ret
    exact ⟨_, rfl, ⟨rfl, by unfold small; omega⟩, HG4.out.since HB3.out⟩
  · have he' : nameL (curT s.data.toList i) = false := by simpa using he
    have HX : Hid (nameP (toks s.data.toList i) = .no (failT (nx (toks s.data.toList i)) 8)) := Lib.hid (by rw [nameP, if_neg (by rw [← h.1.tok.1.name]; exact he)])
    rw [he'] at HN
    rw [HX.out]
    generalize curT s.data.toList i = u at *
    clear h he he' HX
    go_enter Try.func67, Try.ntmps67
    go_wp2_with (first
      | (go_at_call 66; refine HT.out.mono ?_; rintro e w1 ⟨rfl, hb1⟩; have HB1 := Lib.hid hb1; clear hb1)
      | (go_at_call 64; refine (HC.out _).mono ?_; rintro e w2 ⟨rfl, hb2⟩; have HB2 := Lib.hid (hop HB1.out hb2); clear hb2)
      | (go_at_call 61; refine (HN.out _).mono ?_; rintro e w3 ⟨rfl, hb3⟩; have HB3 := Lib.hid (hop HB2.out hb3); have HP3 := HP.out.below HB3.out; have x1 := HP3.from_; have HF := Lib.hid (HP3.fail 8); clear hb3 HP3)
      | (go_at_call 70; refine HF.out.mono ?_; rintro e w4 ⟨rfl, hb4⟩))
    exact ⟨rfl, rfl, Spared.of_below (hop HB3.out hb4) (onG g)⟩
end Go.Proofs.Ytpiaiibobjlipaa
namespace Go.Proofs.Ytpiaiibobjlipaa
open Go.RowKit
theorem Gone.trans {W w1 w2 : World} {g : Nat} {s : ByteArray} {i i1 op : Nat} {ts : List Tk} (hi : i ≤ i1) (hs : Spared W w1 (onG g)) (h : Gone w1 g s i1 op ts w2) : Gone W g s i op ts w2 := by
  obtain ⟨i', h1, h2, h3, h4⟩ := h
  exact ⟨i', h1, by omega, h3, sp_trans hs h4⟩
theorem PAt.setNew {W w : World} {g : Nat} {s : ByteArray} {i op : Nat} (h : PAt w g s i op) (hg : g < W.heap.size) {b : Nat} (hb : W.heap.size ≤ b) (o : Nat) (v : Value) : PAt (w.setCell ⟨b, o, none⟩ v) g s i op :=
  ⟨h.1, h.2.1, h.2.2.other _ _ (by show g ≠ b; omega)⟩
theorem POut.no_ {α : Type} {V : World → α → Value → Prop} {W w' : World} {g : Nat} {s : ByteArray} {i op : Nat} {R : Rs α} {d : Dg} (h : R = .no d) (hs : Spared W w' (onG g)) : POut V W g s i op R (fault d) w' := by
  subst h; exact ⟨rfl, hs⟩
theorem POut.ok_ {α : Type} {V : World → α → Value → Prop} {W w' : World} {g : Nat} {s : ByteArray} {i op : Nat} {R : Rs α} {a : α} {ts : List Tk} {v : Value} (h : R = .ok a ts) (hv : V w' a v) (hg : Gone W g s i op ts w') : POut V W g s i op R (.returned v) w' := by
  subst h; exact ⟨v, rfl, hv, hg⟩
def refV (_ : World) (x : Rf) (v : Value) : Prop := v = .agg #[strV x.1, strV x.2] ∧ small x.1 ∧ small x.2
set_option maxHeartbeats 1000000 in
theorem pref_any {W : World} {g : Nat} {s : ByteArray} {i op : Nat} (h : PAt W g s i op) :
    Calls Try.prog 87 #[.pointer (some ⟨g, 0, none⟩)] W (POut refV W g s i op (refP (toks s.data.toList i))) := by
  have hg := h.lt
  have hgn : g ≠ W.heap.size := Nat.ne_of_lt hg
  have hb1 := (Below.refl W.heap.size W).alloc (Nat.le_refl _) (.cells #[.string ⟨#[]⟩, .string ⟨#[]⟩] 78)
  have HP1 := Lib.hid (h.below hb1)
  have HN1 := Lib.hid (pname_any HP1.out)
  have HX1 := Lib.hid (Blk.new W [.string ⟨#[]⟩, .string ⟨#[]⟩] 78)
  have HS1 := Lib.hid (Spared.of_below hb1 (onG g))
  obtain ⟨R, hR⟩ : ∃ R, R = refP (toks s.data.toList i) := ⟨_, rfl⟩
  rw [← hR]
  have HR := Lib.hid hR
  clear h hb1 hR
  cases hr1 : nameP (toks s.data.toList i) with
  | no d =>
    rw [hr1] at HN1
    have HR1 := Lib.hid hr1
    clear hr1
    go_enter Try.func87, Try.ntmps87
    go_wp2_with fail
    refine HN1.out.mono ?_
    rintro e w1 ⟨rfl, hs1⟩
    go_wp2_with fail
    exact ⟨rfl, POut.no_ (by rw [HR.out, refP, HR1.out]; rfl) (sp_trans HS1.out hs1)⟩
  | ok a r1 =>
    rw [hr1] at HN1
    have HR1 := Lib.hid hr1
    clear hr1
    go_enter Try.func87, Try.ntmps87
    go_wp2_with fail
    refine HN1.out.mono ?_
    rintro e w1 ⟨_, rfl, ⟨rfl, ha⟩, i1, e1, l1, hp1, hs1⟩
    subst e1
    have HZ1 := Lib.hid (hs1.blk HX1.out (fun e => hgn e.symm))
    have hb2 := (Below.refl w1.heap.size w1).alloc (Nat.le_refl _) (.cells #[strV a, .string ⟨#[]⟩] 78)
    have HP2 := Lib.hid (hp1.below hb2)
    have HX2 := Lib.hid (Blk.new w1 [strV a, .string ⟨#[]⟩] 78)
    have HZ2 := Lib.hid (HZ1.out.alloc (.cells #[strV a, .string ⟨#[]⟩] 78))
    have HS2 := Lib.hid (sp_trans (sp_trans HS1.out hs1) (Spared.of_below hb2 (onG g)))
    have HZW := Lib.hid HZ1.out.lt
    have hgx : g ≠ w1.heap.size := Nat.ne_of_lt hp1.lt
    have hzx : ¬ W.heap.size = w1.heap.size := Nat.ne_of_lt HZW.out
    have hxz : ¬ w1.heap.size = W.heap.size := fun e => hzx e.symm
    have HL1 := Lib.hid l1
    clear hs1 hp1 HN1 HX1 HS1 HP1 hb2 HZ1
    by_cases hq : (nx (toks s.data.toList i1)).1 = [35]
    · have HQ := Lib.hid hq
      have HA := Lib.hid (accept_yes HP2.out (t := [35]) (.inr (.inr ⟨35, by decide, rfl⟩)) (by decide) hq)
      clear hq
      go_wp2_with fail
      go_at_call 47
      refine HA.out.mono ?_
      rintro e w3 ⟨rfl, i3, e3, l3, hp3, hs3⟩
      have HE3 := Lib.hid e3
      have HL3 := Lib.hid l3
      have HX3 := Lib.hid (hs3.blk HX2.out (fun e => hgx e.symm))
      have HZ3 := Lib.hid (hs3.blk HZ2.out (fun e => hgn e.symm))
      have HS3 := Lib.hid (sp_trans HS2.out hs3)
      have HN3 := Lib.hid (pname_any hp3)
      clear hs3 hp3 HA HX2 HZ2 HS2 HP2 e3 l3 l1
      cases hr3 : nameP (toks s.data.toList i3) with
      | no d =>
        rw [hr3] at HN3
        have HR3 := Lib.hid hr3
        clear hr3
        go_wp2_with fail
        go_at_call 67
        refine HN3.out.mono ?_
        rintro e w4 ⟨rfl, hs4⟩
        go_wp2_with fail
        exact ⟨rfl, POut.no_ (by rw [HR.out, refP, HR1.out]; simp only [Rs.then]; rw [if_pos HQ.out, HE3.out, HR3.out]) (sp_trans HS3.out hs4)⟩
      | ok b r3 =>
        rw [hr3] at HN3
        have HR3 := Lib.hid hr3
        clear hr3
        go_wp2_with fail
        go_at_call 67
        refine HN3.out.mono ?_
        rintro e w4 ⟨_, rfl, ⟨rfl, hb⟩, i4, e4, l4, hp4, hs4⟩
        have hX4 := hs4.blk HX3.out (fun e => hgx e.symm)
        have hZ4 := hs4.blk HZ3.out (fun e => hgn e.symm)
        have x0 := hX4.cell (i := 0) (by simp)
        have x1 := hX4.cell (i := 1) (by simp)
        have z0 := hZ4.cell (i := 0) (by simp)
        have z1 := hZ4.cell (i := 1) (by simp)
        simp only [List.getElem_cons_succ, List.getElem_cons_zero] at x0 x1 z0 z1
        have xf := hX4.free 1
        have zf := hZ4.free 0
        have zg := hZ4.free 1
        have HP4 := Lib.hid hp4
        have HS4 := Lib.hid (sp_trans HS3.out hs4)
        clear hs4 hp4 hX4 hZ4 HN3 HX3 HZ3 HS3
        go_wp2_with fail
        refine bodyPost_ret (v := .agg #[strV a, strV b]) (by simp [results, Try.results87, go_sem, z0, z1]) rfl ?_
        have hzw := HZW.out
        exact POut.ok_ (a := (a, b)) (ts := r3) (by rw [HR.out, refP, HR1.out]; simp only [Rs.then]; rw [if_pos HQ.out, HE3.out, HR3.out]) ⟨rfl, ha, hb⟩ ⟨i4, e4, by have := HL1.out; have := HL3.out; omega, ((HP4.out.setNew hg (by omega) _ _).setNew hg (Nat.le_refl _) _ _).setNew hg (Nat.le_refl _) _ _, ((HS4.out.setNew (by omega) _ _).setNew (Nat.le_refl _) _ _).setNew (Nat.le_refl _) _ _⟩
    · have HQ := Lib.hid hq
      have HA := Lib.hid (accept_no HP2.out (t := [35]) (.inr (.inr ⟨35, by decide, rfl⟩)) hq)
      clear hq
      go_wp2_with fail
      go_at_call 47
      refine HA.out.mono ?_
      rintro e w3 ⟨rfl, hb3⟩
      have hX4 := HX2.out.below hb3 HX2.out.lt
      have hZ4 := HZ2.out.below hb3 HZ2.out.lt
      have x0 := hX4.cell (i := 0) (by simp)
      have x1 := hX4.cell (i := 1) (by simp)
      have z0 := hZ4.cell (i := 0) (by simp)
      have z1 := hZ4.cell (i := 1) (by simp)
      simp only [List.getElem_cons_succ, List.getElem_cons_zero] at x0 x1 z0 z1
      have zf := hZ4.free 0
      have zg := hZ4.free 1
      have HP4 := Lib.hid (HP2.out.below hb3)
      have HS4 := Lib.hid (sp_trans HS2.out (Spared.of_below hb3 (onG g)))
      clear hb3 hX4 hZ4 HX2 HZ2 HS2
      go_wp2_with fail
      refine bodyPost_ret (v := .agg #[strV a, .string ⟨#[]⟩]) (by simp [results, Try.results87, go_sem, z0, z1]) rfl ?_
      exact POut.ok_ (a := (a, [])) (ts := toks s.data.toList i1) (by rw [HR.out, refP, HR1.out]; simp only [Rs.then]; rw [if_neg HQ.out]) ⟨rfl, ha, Nat.zero_le _⟩ ⟨i1, rfl, HL1.out, (HP4.out.setNew hg (Nat.le_refl _) _ _).setNew hg (Nat.le_refl _) _ _, (HS4.out.setNew (Nat.le_refl _) _ _).setNew (Nat.le_refl _) _ _⟩
end Go.Proofs.Ytpiaiibobjlipaa
namespace Go.Proofs.Ytpiaiibobjlipaa
open Go.RowKit
def tokS (l : Txt) : List Txt :=
  match l with
  | [] => [[]]
  | c :: r =>
    if c = 10 then tokS r
    else if c = 32 ∨ c = 9 then tokS r
    else if _h : wordL (c :: r) = 0 then (if signT c = [63] then [[63]] else signT c :: tokS r)
    else (c :: r).take (wordL (c :: r)) :: tokS ((c :: r).drop (wordL (c :: r)))
termination_by l.length
decreasing_by
  all_goals simp
  all_goals omega
theorem tokL_map : ∀ (n : Nat) (l : Txt) (a b : Nat), l.length ≤ n → (tokL l a b).map (·.1) = tokS l := by
  intro n
  induction n with
  | zero =>
    intro l a b h
    obtain rfl : l = [] := List.eq_nil_of_length_eq_zero (by omega)
    rw [tokL, tokS]; rfl
  | succ n ih =>
    intro l a b h
    cases l with
    | nil => rw [tokL, tokS]; rfl
    | cons c r =>
      have hr : r.length ≤ n := by simpa using h
      rw [tokL, tokS]
      by_cases h1 : c = 10
      · rw [if_pos h1, if_pos h1]; exact ih _ _ _ hr
      · rw [if_neg h1, if_neg h1]
        by_cases h2 : c = 32 ∨ c = 9
        · rw [if_pos h2, if_pos h2]; exact ih _ _ _ hr
        · rw [if_neg h2, if_neg h2]
          by_cases h3 : wordL (c :: r) = 0
          · rw [dif_pos h3, dif_pos h3]
            by_cases h4 : signT c = [63]
            · rw [if_pos h4, if_pos h4]; rfl
            · rw [if_neg h4, if_neg h4, List.map_cons, ih _ _ _ hr]
          · rw [dif_neg h3, dif_neg h3, List.map_cons, ih _ _ _ (by simp; omega)]
theorem tokS_blank (r : Txt) : tokS (32 :: r) = tokS r := by rw [tokS, if_neg (by decide), if_pos (.inl rfl)]
theorem tokS_line (r : Txt) : tokS (10 :: r) = tokS r := by rw [tokS, if_pos rfl]
theorem tokS_sign {c : UInt8} (h : c ∈ signs) (r : Txt) : tokS (c :: r) = [c] :: tokS r := by
  have h1 : c ≠ 10 ∧ ¬ (c = 32 ∨ c = 9) ∧ lowB c = false ∧ c ≠ 63 := by
    simp only [signs, List.mem_cons, List.not_mem_nil, or_false] at h
    rcases h with rfl | rfl | rfl | rfl | rfl | rfl | rfl | rfl | rfl <;> decide
  have h2 : signT c = [c] := by unfold signT; rw [if_pos h]
  have h3 : wordL (c :: r) = 0 := by rw [wordL, h1.2.2.1]; rfl
  rw [tokS, if_neg h1.1, if_neg h1.2.1, dif_pos h3, h2, if_neg (by intro e; injection e with e; exact h1.2.2.2 e)]
def word (w : Txt) : Prop := ∃ c r, w = c :: r ∧ lowB c = true ∧ r.all nmB = true
def ends (r : Txt) : Prop := r = [] ∨ ∃ c t, r = c :: t ∧ nmB c = false
theorem tokS_word {w r : Txt} (hw : word w) (hr : ends r) : tokS (w ++ r) = w :: tokS r := by
  obtain ⟨c, u, rfl, hc, hu⟩ := hw
  have h1 : c ≠ 10 ∧ ¬ (c = 32 ∨ c = 9) := by
    refine ⟨?_, ?_⟩
    · rintro rfl; revert hc; decide
    · rintro (rfl | rfl) <;> (revert hc; decide)
  have h2 : (u ++ r).takeWhile nmB = u := by
    have ht : r.takeWhile nmB = [] := by
      rcases hr with rfl | ⟨d, t, rfl, hd⟩
      · rfl
      · rw [List.takeWhile_cons, hd]; rfl
    rw [List.takeWhile_append_of_pos (fun a ha => List.all_eq_true.1 hu a ha), ht, List.append_nil]
  have h3 : wordL (c :: (u ++ r)) = u.length + 1 := by rw [wordL, if_pos hc, h2]
  rw [List.cons_append, tokS, if_neg h1.1, if_neg h1.2, dif_neg (by omega), h3]
  simp
theorem name_word {w : Txt} (h : nameL w = true) : word w := by
  unfold nameL at h
  simp only [Bool.and_eq_true] at h
  cases w with
  | nil => have := h.2.1; simp [lowB] at this
  | cons c r =>
    refine ⟨c, r, rfl, by simpa using h.2.1, ?_⟩
    have := h.2.2
    rw [List.all_cons, Bool.and_eq_true] at this
    exact this.2
theorem tokS_name {w r : Txt} (h : nameL w = true) (hr : ends r) : tokS (w ++ r) = w :: tokS r := tokS_word (name_word h) hr
theorem ends_of {c : UInt8} (h : nmB c = false) (t : Txt) : ends (c :: t) := .inr ⟨c, t, rfl, h⟩
def opW (k : Int) : Txt := if k = 2 then [43] else if k = 3 then [38] else [45]
mutual
def exT : Ex → List Txt
  | .mk k n o ks => if k = 0 then [n] else if k = 1 then [n, [46], o] else [40] :: ((exTs ks).getD 0 [] ++ (opW k :: ((exTs ks).getD 1 [] ++ [[41]])))
def exTs : List Ex → List (List Txt)
  | [] => []
  | x :: r => exT x :: exTs r
end
def rfK (r : Rf) : List Txt := r.1 :: (if r.2 = [] then [] else [[35], r.2])
def rfsK : Bool → List Rf → List Txt
  | _, [] => []
  | b, r :: l => (if b then [] else [[124]]) ++ (rfK r ++ rfsK false l)
def rlK (x : Rl) : List Txt := if x.refs.length = 0 then defW2 :: x.name :: [58] :: exT x.expr else relW2 :: x.name :: [58] :: rfsK true x.refs
def rlsK : List Rl → List Txt
  | [] => []
  | x :: r => rlK x ++ rlsK r
def tyK (t : Ty) : List Txt := typW2 :: t.name :: rlsK t.rels
def scK : Sc → List Txt
  | [] => []
  | t :: r => tyK t ++ scK r
theorem tok_op (k : Int) (r : Txt) : tokS (opT k ++ r) = opW k :: tokS r := by
  unfold opT opW
  by_cases h2 : k = 2
  · rw [if_pos h2, if_pos h2]
    show tokS (32 :: 43 :: 32 :: r) = _
    rw [tokS_blank, tokS_sign (by decide), tokS_blank]
  · rw [if_neg h2, if_neg h2]
    by_cases h3 : k = 3
    · rw [if_pos h3, if_pos h3]
      show tokS (32 :: 38 :: 32 :: r) = _
      rw [tokS_blank, tokS_sign (by decide), tokS_blank]
    · rw [if_neg h3, if_neg h3]
      show tokS (32 :: 45 :: 32 :: r) = _
      rw [tokS_blank, tokS_sign (by decide), tokS_blank]
theorem opT_ends (k : Int) (r : Txt) : ends (opT k ++ r) := by
  unfold opT
  split
  · exact ends_of (by decide) _
  · split <;> exact ends_of (by decide) _
theorem mayE_op {k : Int} {n o : Txt} {ks : List Ex} {m : Int} (h : mayE (.mk k n o ks) m = true) : (m ≠ 0 ∧ 0 ≤ k ∧ k ≤ 4) ∧
    ((k ≤ 1 ∧ nameL n = true ∧ ks = [] ∧ (k = 0 ∨ nameL o = true)) ∨ (1 < k ∧ ∃ x y, ks = [x, y] ∧ mayE x (m - 1) = true ∧ mayE y (m - 1) = true)) := by
  unfold mayE at h
  by_cases hb : m = 0 ∨ k < 0 ∨ 4 < k
  · rw [if_pos hb] at h; cases h
  rw [if_neg hb] at h
  refine ⟨by omega, ?_⟩
  by_cases hk : k ≤ 1
  · rw [if_pos hk] at h
    simp only [Bool.and_eq_true, Bool.or_eq_true, beq_iff_eq] at h
    exact .inl ⟨hk, h.1, List.eq_nil_of_length_eq_zero h.2.1, h.2.2⟩
  · rw [if_neg hk] at h
    simp only [Bool.and_eq_true, decide_eq_true_eq] at h
    obtain ⟨h1, h2⟩ := h
    obtain ⟨x, y, rfl⟩ : ∃ x y, ks = [x, y] := by
      match ks, h1 with
      | [a, b], _ => exact ⟨a, b, rfl⟩
    simp only [mayL, Bool.and_true, Bool.and_eq_true] at h2
    exact .inr ⟨by omega, x, y, rfl, h2.1, h2.2⟩
theorem tok_show : ∀ (e : Ex) (m : Int), mayE e m = true → ∀ r : Txt, ends r → tokS (showE e ++ r) = exT e ++ tokS r := by
  intro e
  refine Ex.all (P := fun e => ∀ m : Int, mayE e m = true → ∀ r : Txt, ends r → tokS (showE e ++ r) = exT e ++ tokS r) (fun k n o ks ih m h r hr => ?_) e
  obtain ⟨⟨_, k0, k4⟩, h⟩ := mayE_op h
  unfold showE exT
  rcases h with ⟨hk, h1, rfl, h3⟩ | ⟨hk, x, y, rfl, h1, h2⟩
  · by_cases h0 : k = 0
    · rw [if_pos h0, if_pos h0, tokS_name h1 hr]; rfl
    · have h4 : nameL o = true := h3.resolve_left h0
      rw [if_neg h0, if_neg h0, if_pos (by omega), if_pos (by omega), List.append_assoc, List.append_assoc]
      show tokS (n ++ 46 :: (o ++ r)) = _
      rw [tokS_name h1 (ends_of (by decide) _), tokS_sign (by decide), tokS_name h4 hr]; rfl
  · rw [if_neg (by omega), if_neg (by omega), if_neg (by omega), if_neg (by omega)]
    simp only [showAll, exTs, List.getD_cons_zero, List.getD_cons_succ, List.append_assoc]
    show tokS (40 :: (showE x ++ (opT k ++ (showE y ++ (41 :: r))))) = _
    rw [tokS_sign (by decide), ih x (by simp) _ h1 _ (opT_ends _ _), tok_op, ih y (by simp) _ h2 _ (ends_of (by decide) _), tokS_sign (by decide)]
    simp
theorem word_def : word defW2 := ⟨100, [101, 102, 105, 110, 101], rfl, by decide, by decide⟩
theorem word_rel : word relW2 := ⟨114, [101, 108, 97, 116, 105, 111, 110], rfl, by decide, by decide⟩
theorem word_typ : word typW2 := ⟨116, [121, 112, 101], rfl, by decide, by decide⟩
theorem tok_rf (x : Rf) (h : mayRf x = true) (r : Txt) (hr : ends r) : tokS (rfT x ++ r) = rfK x ++ tokS r := by
  unfold mayRf at h
  simp only [Bool.and_eq_true, Bool.or_eq_true] at h
  obtain ⟨h1, h2⟩ := h
  unfold rfT rfK
  by_cases h0 : x.2 = []
  · rw [if_pos h0, if_pos h0, List.append_nil, tokS_name h1 hr]; rfl
  · have h3 : nameL x.2 = true := h2.resolve_left (by simpa using h0)
    rw [if_neg h0, if_neg h0, List.append_assoc]
    show tokS (x.1 ++ 35 :: (x.2 ++ r)) = _
    rw [tokS_name h1 (ends_of (by decide) _), tokS_sign (by decide), tokS_name h3 hr]; rfl
theorem rfsT_ends : ∀ (l : List Rf) (r : Txt), ends r → ends (rfsT false l ++ r)
  | [], r, h => h
  | x :: l, r, _ => by
    rw [rfsT]
    show ends (32 :: _)
    exact ends_of (by decide) _
theorem tok_rfs : ∀ (b : Bool) (l : List Rf), l.all mayRf = true → ∀ r : Txt, ends r → tokS (rfsT b l ++ r) = rfsK b l ++ tokS r
  | b, [], _, r, _ => rfl
  | b, x :: l, h, r, hr => by
    rw [List.all_cons, Bool.and_eq_true] at h
    have ih := tok_rfs false l h.2 r hr
    rw [rfsT, rfsK]
    have e : tokS (rfT x ++ (rfsT false l ++ r)) = rfK x ++ (rfsK false l ++ tokS r) := by rw [tok_rf x h.1 _ (rfsT_ends l r hr), ih]
    cases b
    · simp only [Bool.false_eq_true, if_false, List.append_assoc]
      show tokS (32 :: 124 :: 32 :: (rfT x ++ (rfsT false l ++ r))) = _
      rw [tokS_blank, tokS_sign (by decide), tokS_blank, e]; rfl
    · simp only [if_true, List.append_assoc, List.nil_append]
      exact e
theorem tok_rl (x : Rl) (h : mayR x = true) (r : Txt) : tokS (rlT x ++ r) = rlK x ++ tokS r := by
  unfold mayR at h
  simp only [Bool.and_eq_true, Bool.or_eq_true, decide_eq_true_eq] at h
  obtain ⟨h1, h2, h3⟩ := h
  unfold rlT rlK
  by_cases h0 : x.refs.length = 0
  · have h4 := h3.resolve_left (by omega)
    rw [if_pos h0, if_pos h0]
    simp only [dfW, List.append_assoc, List.cons_append, List.nil_append]
    rw [tokS_blank, tokS_blank, show (100 :: 101 :: 102 :: 105 :: 110 :: 101 :: 32 :: (x.name ++ (58 :: 32 :: (showE x.expr ++ 10 :: r))) : Txt) = defW2 ++ 32 :: (x.name ++ (58 :: 32 :: (showE x.expr ++ 10 :: r))) from rfl,
      tokS_word word_def (ends_of (by decide) _), tokS_blank, tokS_name h1 (ends_of (by decide) _), tokS_sign (by decide), tokS_blank, tok_show x.expr 12 h4 _ (ends_of (by decide) _), tokS_line]
  · rw [if_neg h0, if_neg h0]
    simp only [rlW, List.append_assoc, List.cons_append, List.nil_append]
    rw [tokS_blank, tokS_blank, show (114 :: 101 :: 108 :: 97 :: 116 :: 105 :: 111 :: 110 :: 32 :: (x.name ++ (58 :: 32 :: (rfsT true x.refs ++ 10 :: r))) : Txt) = relW2 ++ 32 :: (x.name ++ (58 :: 32 :: (rfsT true x.refs ++ 10 :: r))) from rfl,
      tokS_word word_rel (ends_of (by decide) _), tokS_blank, tokS_name h1 (ends_of (by decide) _), tokS_sign (by decide), tokS_blank, tok_rfs true x.refs h2 _ (ends_of (by decide) _), tokS_line]
theorem tok_rls : ∀ (l : List Rl), l.all mayR = true → ∀ r : Txt, tokS (rlsT l ++ r) = rlsK l ++ tokS r
  | [], _, r => rfl
  | x :: l, h, r => by
    rw [List.all_cons, Bool.and_eq_true] at h
    rw [rlsT, rlsK, List.append_assoc, tok_rl x h.1, tok_rls l h.2, List.append_assoc]
theorem tok_ty (t : Ty) (h : mayT t = true) (r : Txt) : tokS (tyT t ++ r) = tyK t ++ tokS r := by
  unfold mayT at h
  rw [Bool.and_eq_true] at h
  unfold tyT tyK
  simp only [tyW, List.append_assoc, List.cons_append, List.nil_append]
  rw [show (116 :: 121 :: 112 :: 101 :: 32 :: (t.name ++ (10 :: (rlsT t.rels ++ r))) : Txt) = typW2 ++ 32 :: (t.name ++ (10 :: (rlsT t.rels ++ r))) from rfl,
    tokS_word word_typ (ends_of (by decide) _), tokS_blank, tokS_name h.1 (ends_of (by decide) _), tokS_line, tok_rls t.rels h.2]
theorem tok_sc : ∀ (s : Sc), mayS s = true → tokS (scT s) = scK s ++ [[]]
  | [], _ => by rw [scT, tokS]; rfl
  | t :: s, h => by
    unfold mayS at h
    rw [List.all_cons, Bool.and_eq_true] at h
    rw [scT, scK, tok_ty t h.1, tok_sc s h.2, List.append_assoc]
end Go.Proofs.Ytpiaiibobjlipaa
