/-
  Pairs: are two lists of pairs the same? An empty map. Conditions: at most 1,000,000 pairs.
  A store on a disk that is on, and stays so: what Open and Commit come to, as the laws need it. Conditions: at most 400 blocks; batches of at most 60 puts of at most 500 bytes a key and a value.
  The chapter's example is answered (awake of layer 9); are the pairs of a store the document's? (shows)
-/
import Derived.Test.YtdaahapbpnjkfaaGreatCTrRfPut
import Derived.Test.YtdaahapbpnjkfaaGreatCTrRf
import Derived.Test.YtdaahapbpnjkfaaGreatCLgLog
import Derived.BigQuiet
import Derived.Laws.Cover1
import Derived.Test.YtdaahapbpnjkfaaGreatCKpCommit
import Derived.Test.YtdaahapbpnjkfaaGreatCPutsFew
import Derived.Test.YtdaahapbpnjkfaaGreatCRefF
import Derived.Test.YtdaahapbpnjkfaaGreatCDkCrash
import Derived.Lib.SlBytesConst
namespace Go.Proofs.YtdaahapbpnjkfaaGreat
open Go.RowKit
set_option maxHeartbeats 1000000 in
theorem rempty_any (w : World) : Calls Tryz.prog 27 #[] w fun e w' => e = .returned (.pointer (some ⟨w.heap.size, 0, none⟩)) ∧ w' = w.alloc (.cells #[.int .i64 1000000000, .slice none 0 0] 119) := by
  go_enter Tryz.func27, Tryz.ntmps27
  go_wp2_with fail
  go_ret
  exact ⟨rfl, rfl⟩
theorem empty_map (w : World) (F : Nat → Prop) (h : F w.heap.size) : MapAt (w.alloc (.cells #[.int .i64 1000000000, .slice none 0 0] 119)) F w.heap.size 1000000000 [] :=
  ⟨h, Srt.nil, Nat.zero_le _, none, 0, [], rfl, Blk.new w [.int .i64 1000000000, .slice none 0 0] _, .inl rfl, Nat.le_refl _, fun x hx => by cases hx⟩
theorem drop_same {l l' : List Kv} {i : Nat} (h1 : i < l.length) (h2 : i < l'.length) : decide (l.drop i = l'.drop i) = (decide (l[i].1 = l'[i].1) && decide (l[i].2 = l'[i].2) && decide (l.drop (i + 1) = l'.drop (i + 1))) := by
  rw [List.drop_eq_getElem_cons h1, List.drop_eq_getElem_cons h2, Bool.eq_iff_iff]
  simp only [decide_eq_true_iff, Bool.and_eq_true, List.cons.injEq, Prod.ext_iff]
set_option maxRecDepth 100000 in
set_option maxHeartbeats 1000000 in
theorem kvpairs_any (w : World) (A B : Option Addr) (l l' : List Kv) (n m c d : Nat) (hn : l.length = n) (hm : l'.length = m) (hl : n ≤ 1000000) (hl' : m ≤ 1000000) (ha : KvSeen w A l) (hb : KvSeen w B l') :
    Calls Tryz.prog 33 #[.slice A n c, .slice B m d] w fun e w' => e = .returned (.bool (decide (l = l'))) ∧ Below w.heap.size w w' := by
  have HA := Lib.hid ha
  have HB := Lib.hid hb
  have HN := Lib.hid hn
  have HM := Lib.hid hm
  obtain ⟨v, hv⟩ : ∃ v, v = decide (l = l') := ⟨_, rfl⟩
  rw [← hv]
  have HV := Lib.hid hv
  clear ha hb hn hm hv
  by_cases hnm : n = m
  · subst hnm
    go_enter Tryz.func33, Tryz.ntmps33
    go_wp2_with fail
    go_loopg [5] n (fun kx s wr => ∃ i : Nat, i + kx = n ∧ s = .int .i64 (i : Int) ∧ Below w.heap.size w wr ∧ Hid (decide (l.drop i = l'.drop i) = v))
    case atStart => exact ⟨0, by omega, rfl, Below.refl _ _, HV.out.symm⟩
    case round =>
      obtain ⟨i, hi, rfl, hbr, HD⟩ := hrel
      have HBR := Lib.hid hbr
      have HI := Lib.hid hi
      clear hbr hi
      by_cases hlt : i < n
      · have hkl : (i : Int) < (n : Int) := by omega
        have hil : i < l.length := by have := HN.out; omega
        have hil' : i < l'.length := by have := HM.out; omega
        obtain ⟨b, off, A0, c0, A1, c1, rfl, _, q0, q1, s0, s1⟩ := HA.out.below HBR.out i hil
        obtain ⟨b2, off2, B0, d0, B1, d1, rfl, _, p0, p1, t0, t1⟩ := HB.out.below HBR.out i hil'
        have hdr := drop_same hil hil'
        obtain ⟨x, hx⟩ : ∃ x, x = l[i].1 := ⟨_, rfl⟩
        obtain ⟨y, hy⟩ : ∃ y, y = l[i].2 := ⟨_, rfl⟩
        obtain ⟨x', hx'⟩ : ∃ x', x' = l'[i].1 := ⟨_, rfl⟩
        obtain ⟨y', hy'⟩ : ∃ y', y' = l'[i].2 := ⟨_, rfl⟩
        rw [← hx] at q0 s0 hdr
        rw [← hy] at q1 s1 hdr
        rw [← hx'] at p0 t0 hdr
        rw [← hy'] at p1 t1 hdr
        have HDR := Lib.hid hdr
        clear hx hy hx' hy' hil hil' hdr
        have cv : ∀ (X : Option Addr) (y : Key) (z : Nat), Seen wr X y → ∀ q, (convert 22 9 (.slice X y.length z)).run Tryz.prog (wr.drewN q) = .ok (.string ⟨y.toArray⟩) (wr.drewN q) := fun X y z h q => (h.below (below_drewN (Below.refl _ _) q)).text (P := Tryz.prog) 22 9 5 Tryz.underlying22 Tryz.underlying5 Tryz.underlying9 z
        have e0 := cv A0 x c0 s0
        have e1 := cv A1 y c1 s1
        have f0 := cv B0 x' d0 t0
        have f1 := cv B1 y' d1 t1
        have hwi : IntKind.i64.wrap ((i : Int) + 1) = ((i + 1 : Nat) : Int) := by rw [IntKind.wrap_i64]; omega
        clear s0 s1 t0 t1 cv
        have u0 := text_beq x x'
        have u1 := text_beq y y'
        by_cases hx : x = x'
        · by_cases hy : y = y'
          · subst hx hy
            have HD2 : Hid (decide (l.drop (i + 1) = l'.drop (i + 1)) = v) := by show _ = _; rw [← HD.out, HDR.out]; simp
            clear u0 u1
            go_wp2_with fail
            go_quiet (fail)
            go_wp2_with fail
            go_roundg (n - (i + 1))
            case measure => have := HI.out; omega
            case rel => exact ⟨i + 1, by have := HI.out; omega, rfl, below_drewN HBR.out _, HD2⟩
          · subst hx
            have HF : Hid (v = false) := by show _ = _; rw [← HD.out, HDR.out, decide_eq_false hy]; simp
            rw [decide_eq_false hy] at u1
            have v1 : (y == y') = false := by rw [beq_eq_false_iff_ne]; exact hy
            clear u0 hy
            go_wp2_with fail
            go_quiet (fail)
            go_wp2_with fail
            go_ret
            exact ⟨ret_bool HF.out.symm, below_drewN HBR.out _⟩
        · have HF : Hid (v = false) := by show _ = _; rw [← HD.out, HDR.out, decide_eq_false hx]; simp
          rw [decide_eq_false hx] at u0
          have v0 : (x == x') = false := by rw [beq_eq_false_iff_ne]; exact hx
          clear u1 hx
          go_wp2_with fail
          go_quiet (fail)
          go_wp2_with fail
          go_ret
          exact ⟨ret_bool HF.out.symm, below_drewN HBR.out _⟩
      · obtain rfl : i = n := by have := HI.out; omega
        have hkl : ¬ (i : Int) < (i : Int) := by omega
        have HF : Hid (v = true) := by
          show _ = _
          rw [← HD.out, List.drop_of_length_le (by have := HN.out; omega), List.drop_of_length_le (by have := HM.out; omega)]
          rfl
        go_wp2_with fail
        go_ret
        exact ⟨ret_bool HF.out.symm, HBR.out⟩
  · have HF : Hid (v = false) := by show _ = _; rw [HV.out, decide_eq_false]; intro h; have h1 := HN.out; have h2 := HM.out; rw [h] at h1; omega
    have e1 : (n == m) = false := by rw [beq_eq_false_iff_ne]; exact hnm
    have e2 : ((n : Int) == (m : Int)) = false := by rw [beq_eq_false_iff_ne]; omega
    go_enter Tryz.func33, Tryz.ntmps33
    go_wp2_with fail
    go_ret
    exact ⟨ret_bool HF.out.symm, Below.refl _ _⟩
theorem pairs_kv {w : World} {A B : Option Addr} {l : List Kv} {n m c d : Nat} (hn : l.length = n) (hm : l.length = m) (hl : n ≤ 1000000) (ha : KvSeen w A l) (hb : KvSeen w B l) :
    Calls Tryz.prog 33 #[.slice A n c, .slice B m d] w fun e w' => e = .returned (.bool true) ∧ Below w.heap.size w w' := by
  have := kvpairs_any w A B l l n m c d hn hm hl (by omega) ha hb
  rw [decide_eq_true rfl] at this
  exact this
end Go.Proofs.YtdaahapbpnjkfaaGreat
namespace Go.Proofs.YtdaahapbpnjkfaaGreat
open Go.RowKit
theorem putsV_len : ∀ (l : List PutV), (∀ p ∈ l, p.1.length ≤ 1000000 ∧ p.2.1.length ≤ 1000000) → (putsV l).length ≤ l.length * 19 + sizeP l
  | [], _ => by simp [putsV]
  | p :: l, h => by
    have h1 := h p (by simp)
    have ih := putsV_len l (fun q hq => h q (by simp [hq]))
    have e : putsV (p :: l) = putV1 p ++ putsV l := rfl
    have k1 := putL_length9 (n := p.1.length) (by omega)
    have k2 := putL_length9 (n := p.2.1.length) (by omega)
    have hp : (putV1 p).length ≤ 19 + (p.1.length + p.2.1.length) := by
      unfold putV1
      split
      · rw [List.length_cons, partP, List.length_append]; omega
      · rw [List.length_cons, List.length_append, partP, partP, List.length_append, List.length_append]; omega
    rw [e, List.length_append, List.length_cons, Nat.succ_mul, sizeP_cons]
    omega
theorem batch_len {l : List PutV} (hl : l.length ≤ 1000000) (h : ∀ p ∈ l, p.1.length ≤ 1000000 ∧ p.2.1.length ≤ 1000000) : (batchL l).length ≤ 9 + (l.length * 19 + sizeP l) := by
  have h1 := putsV_len l h
  have h2 := putL_length9 (n := l.length) (by omega)
  rw [batchL, List.length_append]
  omega
theorem sizeP_allP (L : List Kv) : sizeP (allP L) = sizeT L := by
  induction L with
  | nil => rfl
  | cons x L ih =>
    show sizeP ((x.1, x.2, false) :: allP L) = _
    rw [sizeP_cons, ih, sizeL_cons]
def FewV (l : List PutV) : Prop := l.length ≤ 60 ∧ ∀ p ∈ l, p.1.length ≤ 500 ∧ p.2.1.length ≤ 500
theorem FewV.of {ps : List PPut} (h : pfewB ps = true) : FewV (valsOf ps) := by
  have h1 := pfewB_true h
  refine ⟨by rw [valsOf_length]; exact h1.1, fun p hp => ?_⟩
  obtain ⟨q, hq, rfl⟩ := List.mem_map.1 hp
  exact h1.2 q hq
theorem sizeP_le : ∀ (l : List PutV), (∀ p ∈ l, p.1.length ≤ 500 ∧ p.2.1.length ≤ 500) → sizeP l ≤ l.length * 1000
  | [], _ => Nat.le_refl _
  | p :: l, h => by
    have h1 := h p (by simp)
    have h2 := sizeP_le l (fun q hq => h q (by simp [hq]))
    rw [sizeP_cons, List.length_cons, Nat.succ_mul]
    omega
theorem FewV.size {l : List PutV} (h : FewV l) : sizeP l ≤ 60000 := by have := sizeP_le l h.2; have := h.1; omega
theorem FewV.may {l : List PutV} (h : FewV l) : mayV l = true := by
  unfold mayV
  rw [Bool.and_eq_true, decide_eq_true_eq, List.all_eq_true]
  refine ⟨by have := h.1; omega, fun p hp => ?_⟩
  have := h.2 p hp
  unfold mayOneV
  rw [Bool.and_eq_true, decide_eq_true_eq, decide_eq_true_eq]
  omega
structure Tame (L : List Kv) (l : List PutV) : Prop where
  len : L.length + l.length ≤ 99999
  size : sizeT L + sizeP l ≤ 1000000
  mild : Mild (doAll l L)
  bat : (batchL l).length ≤ 140737488000000
  all : (batchL (allP (doAll l L))).length ≤ 140737488000000
theorem tame {L : List Kv} {l : List PutV} (hs : Srt L) (h1 : L.length ≤ 30000) (h2 : sizeT L ≤ 30000) (hl : FewV l) : Tame L l := by
  have k1 := hl.1
  have k2 := hl.size
  have k3 := doAll_length (l := l) hs
  have k4 := size_doAll (l := l) hs
  have k5 := batch_len (l := l) (by omega) (fun p hp => by have := hl.2 p hp; omega)
  have k6 : (allP (doAll l L)).length = (doAll l L).length := by unfold allP; rw [List.length_map]
  have k7 := batch_len (l := allP (doAll l L)) (by omega) (fun p hp => by
    unfold allP at hp
    obtain ⟨x, hx, rfl⟩ := List.mem_map.1 hp
    have := sizeT_mem hx
    constructor
    · show x.1.length ≤ _; omega
    · show x.2.length ≤ _; omega)
  rw [sizeP_allP, k6] at k7
  exact ⟨by omega, by omega, ⟨by omega, by omega⟩, by omega, by omega⟩
theorem commit_few {h m : Nat} {s : Dsk} {k : KvS} {l : List PutV} (f : k.Fits h s) (ok : s.Ok) (hf : s.Few m) (_hb : (batchL l).length ≤ 140737488000000) : (commitL h s k l).2.1.Few (m + 1100) := by
  unfold commitL
  split
  · exact hf.mono (by omega)
  · split
    · exact hf.mono (by omega)
    · split
      · exact hf.mono (by omega)
      · split
        · exact turn_few f ok hf
        · have hc := k.lg.code_fits (batchL l)
          exact (Lg.few f.log ok hf).mono (by omega)
def KLive (w0 w : World) (g q h : Nat) (s : Dsk) (a : Nat) (gen : Int) (ds : List (List UInt8)) (L : List Kv) (m : Nat) : Prop :=
  ∃ (T : Nat → Prop) (b gt : Nat) (F : Nat → Prop), PSt w T q g b gt F h s (kvAt h a gen ds L) ∧ KvOn s h a gen ds L ∧ s.Quiet ∧ s.Few m ∧ Below w0.heap.size w0 w ∧ ∀ x, T x → w0.heap.size ≤ x
def KDoc (w0 w : World) (g q gm h : Nat) (s : Dsk) (a : Nat) (gen : Int) (ds : List (List UInt8)) (L M : List Kv) (m : Nat) : Prop :=
  ∃ (T : Nat → Prop) (b gt : Nat) (F : Nat → Prop), PSt w T q g b gt F h s (kvAt h a gen ds L) ∧ KvOn s h a gen ds L ∧ s.Quiet ∧ s.Few m ∧ Below w0.heap.size w0 w ∧ (∀ x, T x → w0.heap.size ≤ x) ∧ MapAt w (fun x => T x ∨ x = gm) gm 1000000000 M ∧ w0.heap.size ≤ gm ∧ ¬ T gm
section
variable {w0 w w' : World} {g q gm h : Nat} {s : Dsk} {a : Nat} {gen : Int} {ds : List (List UInt8)} {L M : List Kv} {m : Nat}
theorem KDoc.live (k : KDoc w0 w g q gm h s a gen ds L M m) : KLive w0 w g q h s a gen ds L m := by
  obtain ⟨T, b, gt, F, h1, h2, h3, h4, h5, h6, _⟩ := k
  exact ⟨T, b, gt, F, h1, h2, h3, h4, h5, h6⟩
theorem KLive.still (k : KLive w0 w g q h s a gen ds L m) (hb : Below w.heap.size w w') : KLive w0 w' g q h s a gen ds L m := by
  obtain ⟨T, b, gt, F, h1, h2, h3, h4, h5, h6⟩ := k
  exact ⟨T, b, gt, F, h1.below hb, h2, h3, h4, hop h5 hb, h6⟩
theorem KDoc.still (k : KDoc w0 w g q gm h s a gen ds L M m) (hb : Below w.heap.size w w') : KDoc w0 w' g q gm h s a gen ds L M m := by
  obtain ⟨T, b, gt, F, h1, h2, h3, h4, h5, h6, h7, h8, h9⟩ := k
  exact ⟨T, b, gt, F, h1.below hb, h2, h3, h4, hop h5 hb, h6, h7.below hb, h8, h9⟩
theorem KLive.below (k : KLive w0 w g q h s a gen ds L m) : Below w0.heap.size w0 w := by obtain ⟨T, b, gt, F, _, _, _, _, h5, _⟩ := k; exact h5
theorem KLive.on (k : KLive w0 w g q h s a gen ds L m) : KvOn s h a gen ds L := by obtain ⟨T, b, gt, F, _, h2, _⟩ := k; exact h2
theorem KLive.quiet (k : KLive w0 w g q h s a gen ds L m) : s.Quiet := by obtain ⟨T, b, gt, F, _, _, h2, _⟩ := k; exact h2
theorem KLive.few (k : KLive w0 w g q h s a gen ds L m) : s.Few m := by obtain ⟨T, b, gt, F, _, _, _, h2, _⟩ := k; exact h2
theorem KLive.disk (k : KLive w0 w g q h s a gen ds L m) : ∃ F, DiskAt w g F s := by obtain ⟨T, b, gt, F, h1, _⟩ := k; exact ⟨F, h1.disk⟩
theorem KLive.small (k : KLive w0 w g q h s a gen ds L m) (hK : s.K.length ≤ 400) : L.length ≤ 30000 ∧ sizeT L ≤ 30000 := by
  have h1 := k.on.small
  have h2 := k.on.half.fits
  omega
theorem KLive.turn (k : KLive w0 w g q h s a gen ds L m) : Calls Tryz.prog 31 #[.pointer (some ⟨q, 0, none⟩)] w fun e w' => e = .returned (.int .i64 gen) ∧ w' = w := by
  obtain ⟨T, b, gt, F, h1, _⟩ := k
  exact turn_any h1
theorem KLive.len (k : KLive w0 w g q h s a gen ds L m) : Calls Tryz.prog 38 #[.pointer (some ⟨q, 0, none⟩)] w fun e w' => e = .returned (.int .i64 (L.length : Int)) ∧ w' = w := by
  obtain ⟨T, b, gt, F, h1, _⟩ := k
  exact klen_any h1
theorem KLive.up (k : KLive w0 w g q h s a gen ds L m) : Calls Tryz.prog 34 #[.pointer (some ⟨q, 0, none⟩)] w fun e w' => e = .returned (.bool true) ∧ w' = w := by
  obtain ⟨T, b, gt, F, h1, _⟩ := k
  exact up_any h1
theorem KLive.scan (k : KLive w0 w g q h s a gen ds L m) {R E : Option Addr} {fr tt : Key} {r rc z d : Nat} {mo : Int} (hr : Seen w R fr) (hrl : fr.length = r) (ht : Seen w E tt) (htl : tt.length = z) (hmm : z ≤ 9223372036854775807) :
    Calls Tryz.prog 32 #[.pointer (some ⟨q, 0, none⟩), .slice R r rc, .slice E z d, .int .i64 mo] w (KScan w (scanT fr tt mo L)) := by
  obtain ⟨T, b, gt, F, h1, _⟩ := k
  exact kscan_any h1 hr hrl ht htl hmm
theorem KLive.all (k : KLive w0 w g q h s a gen ds L m) (hl : L.length ≤ 99999) :
    Calls Tryz.prog 32 #[.pointer (some ⟨q, 0, none⟩), .slice none 0 0, .slice none 0 0, .int .i64 100000] w (KScanN w L) := by
  obtain ⟨T, b, gt, F, h1, _⟩ := k
  have h5 := kscan_new h1 (R := none) (E := none) (fr := []) (tt := []) (r := 0) (rc := 0) (m := 0) (d := 0) (mo := 100000) (.inl rfl) rfl (.inl rfl) rfl (by omega)
  have h6 : scanT [] [] 100000 (kvAt h a gen ds L).L = L := scan_all _ L (by omega) (by decide)
  rw [h6] at h5
  exact h5
theorem KLive.get (k : KLive w0 w g q h s a gen ds L m) {B : Option Addr} {y : Key} {z d : Nat} (hk : Seen w B y) (hm : y.length = z) : Calls Tryz.prog 37 #[.pointer (some ⟨q, 0, none⟩), .slice B z d] w (KGet w y L) := by
  obtain ⟨T, b, gt, F, h1, _⟩ := k
  exact kget_any h1 hk hm
def CommitQ (s : Dsk) (a : Nat) (gen : Int) (ds : List (List UInt8)) (L M : List Kv) (E : Int) (s' : Dsk) (a' : Nat) (gen' : Int) (ds' : List (List UInt8)) (L' : List Kv) : Prop :=
  (E = 0 ∧ L' = M ∧ gen ≤ gen' ∧ gen' ≤ gen + 1) ∨ (E = 4 ∧ s' = s ∧ a' = a ∧ gen' = gen ∧ ds' = ds ∧ L' = L)
theorem commit_q (k : KvOn s h a gen ds L) (hq : s.Quiet) {l : List PutV} (hl : FewV l) (t : Tame L l) :
    ∃ E s' a' gen' ds' L', commitL h s (kvAt h a gen ds L) l = (E, s', kvAt h a' gen' ds' L') ∧ KvOn s' h a' gen' ds' L' ∧ s'.Quiet ∧ s'.K.length = s.K.length ∧ CommitQ s a gen ds L (doAll l L) E s' a' gen' ds' L' := by
  have hK : (commitL h s (kvAt h a gen ds L) l).2.1.K.length = s.K.length := by
    have f : (kvAt h a gen ds L).Fits h s := ⟨k.half, k.two, k.has.fits k.half.pos⟩
    unfold commitL
    split
    · rfl
    · split
      · rfl
      · split
        · rfl
        · split
          · exact (turn_fits f).2.2
          · exact (f.log.next (d := batchL l)).2.2
  by_cases h0 : l = []
  · subst h0
    have e := commit_none (h := h) (s := s) (k := kvAt h a gen ds L) rfl
    exact ⟨0, s, a, gen, ds, L, e, k, hq, rfl, .inl ⟨rfl, rfl, Int.le_refl _, by omega⟩⟩
  · have hc := commit_to k hl.may h0 t.mild
    obtain ⟨⟨E, s', k'⟩, hR⟩ : ∃ R, R = commitL h s (kvAt h a gen ds L) l := ⟨_, rfl⟩
    rw [← hR] at hc hK ⊢
    rcases hc with ⟨rfl, a', g', ds', h1, h2, h3, h4, h5⟩ | ⟨rfl, h1, h2⟩ | ⟨_, h1, _⟩
    · exact ⟨0, s', a', g', ds', doAll l L, by rw [← h2], h1, h3 hq, hK, .inl ⟨rfl, rfl, h4, h5⟩⟩
    · refine ⟨4, s, a, gen, ds, L, ?_, k, hq, rfl, .inr ⟨rfl, rfl, rfl, rfl, rfl, rfl⟩⟩
      rw [← h2, ← h1]
    · exact absurd hq h1
theorem KDoc.commit (k : KDoc w0 w g q gm h s a gen ds L M m) (hK : s.K.length ≤ 400) (hm : m ≤ 690000) {A : Option Addr} {ps : List PPut} {n c : Nat} (hp : PutsSeen w0 A ps) (hn : ps.length = n) (hf : FewV (valsOf ps)) :
    Calls Tryz.prog 15 #[.pointer (some ⟨q, 0, none⟩), .slice A n c] w fun e w' => ∃ E s' a' gen' ds' L', e = .returned (.int .i64 E) ∧ KDoc w0 w' g q gm h s' a' gen' ds' L' M (m + 1100) ∧ s'.K.length = s.K.length ∧ CommitQ s a gen ds L (doAll (valsOf ps) L) E s' a' gen' ds' L' := by
  have hsm := k.live.small hK
  obtain ⟨T, b, gt, F, h1, h2, h3, h4, h5, h6, h7, h8, h9⟩ := k
  have t := tame h2.srt hsm.1 hsm.2 hf
  have hn60 := hf.1
  rw [valsOf_length, hn] at hn60
  have tl := t.len
  rw [valsOf_length, hn] at tl
  obtain ⟨E, s', a', gen', ds', L', e1, e2, e3, e4, e5⟩ := commit_q h2 h3 hf t
  have hfew := commit_few h1.fits h1.disk.ok h4 t.bat
  have hFT : ∀ x, (F x ∨ x = b ∨ x = q ∨ x = gt) → T x := fun x hx => h1.ins x hx
  refine (kcommit_any w T q g b gt F h s (kvAt h a gen ds L) A ps n c m h1 (fun W hW => hp.below (hW.below h5 (fun x hx => h6 x (hFT x hx)))) hn (by omega) h4 hm tl (by have := t.size; show sizeT L + _ ≤ _; omega) t.bat t.all).mono ?_
  rintro e w' ⟨rfl, T', b', gt', F', p', m1, m2, m3, m4⟩
  change PSt w' T' q g b' gt' F' h (commitL h s (kvAt h a gen ds L) (valsOf ps)).2.1 (commitL h s (kvAt h a gen ds L) (valsOf ps)).2.2 at p'
  rw [e1] at p' hfew ⊢
  have hsz := h5.size
  have hT' : ∀ x, T' x → w0.heap.size ≤ x := fun x hx => (m3 x hx).elim (h6 x) (fun h => by omega)
  have hbl : Below w0.heap.size w0 w' := m1.below h5 (fun x hx => h6 x (hFT x hx))
  refine ⟨E, s', a', gen', ds', L', rfl, ⟨T', b', gt', F', p', e2, e3, hfew, hbl, hT', ?_, h8, fun hx => (m3 gm hx).elim h9 (fun h => by have := h7.lt; omega)⟩, e4, e5⟩
  exact h7.moved (m1.mono (fun x hx => ⟨.inl (hFT x hx), fun e => h9 (e ▸ hFT x hx)⟩)) (fun x hx => by
    rcases hx with hx | hx
    · exact (m3 x hx).imp .inl id
    · exact .inl (.inr hx)) (.inr rfl)
theorem KDoc.do_ (k : KDoc w0 w g q gm h s a gen ds L M m) {A : Option Addr} {ps : List PPut} {n c : Nat} (hp : PutsSeen w0 A ps) (hn : ps.length = n) (hf : FewV (valsOf ps)) (h1 : M.length ≤ 30000) (h2 : sizeT M ≤ 30000) :
    Calls Tryz.prog 28 #[.pointer (some ⟨gm, 0, none⟩), .slice A n c] w fun e w' => ∃ gc, e = .returned (.pointer (some ⟨gc, 0, none⟩)) ∧ KDoc w0 w' g q gc h s a gen ds L (doAll (valsOf ps) M) m ∧ Below w.heap.size w w' := by
  obtain ⟨T, b, gt, F, k1, k2, k3, k4, k5, k6, k7, k8, k9⟩ := k
  have hn60 := hf.1
  rw [valsOf_length, hn] at hn60
  have hsz := hf.size
  refine (rdo_any w (fun x => T x ∨ x = gm) (fun x hx => by
    rcases hx with hx | hx
    · exact k1.tlt x hx
    · rw [hx]; exact k7.lt) gm 1000000000 M k7 A ps n c (hp.below k5) hn (by omega) (by omega) (by omega)).mono ?_
  rintro e w' ⟨hb, gc, rfl, g1, g2, hm⟩
  have := k5.size
  refine ⟨gc, rfl, ⟨T, b, gt, F, k1.below hb, k2, k3, k4, hop k5 hb, k6, hm.moved (.refl _ _) (fun x hx => ?_) (.inr rfl), by omega, fun hx => by have := k1.tlt gc hx; omega⟩, hb⟩
  rcases hx with hx | hx
  · exact .inl (.inl (.inl hx))
  · exact .inl (.inr hx)
theorem KLive.open_ (k : KLive w0 w g q h s a gen ds L m) (hK : s.K.length ≤ 400) (hm : m ≤ 690000) :
    Calls Tryz.prog 13 #[.pointer (some ⟨g, 0, none⟩)] w fun e w' => ∃ q', e = .returned (.tuple #[.pointer (some ⟨q', 0, none⟩), .int .i64 0]) ∧ KLive w0 w' g q' h s a gen ds L m ∧ Below w.heap.size w w' := by
  obtain ⟨T, b, gt, F, k1, k2, k3, k4, k5, k6⟩ := k
  have ho := k2.open_ k3.1
  refine (kopen_any w T k1.tlt g F (fun x hx => k1.ins x (.inl hx)) s h m k1.disk k1.half (by omega) k4 (by omega)).mono ?_
  rintro e w' (⟨h1, _⟩ | ⟨k', T', q', b', gt', F', h1, rfl, h3, h4, h5, h6, h7, h8, h9, h10, h11⟩)
  · rw [ho] at h1; cases h1
  · rw [ho] at h1 h3 ⊢
    injection h1 with h1
    subst h1
    have hb := h11 (by rw [k2.pick]; exact fun h => nomatch h)
    have := k5.size
    exact ⟨q', rfl, ⟨T', b', gt', F', h3, k2, k3, k4, hop k5 hb, fun x hx => (h7 x hx).elim (k6 x) (fun h => by omega)⟩, hb⟩
theorem KvNo.open_q {n : Nat} (k : KvNo s h) (hq : s.Quiet) :
    (openK h s).1 = 0 ∧ KvOn (openK h s).2.1 h 0 1 [batchL []] [] ∧ (openK h s).2.2 = some (kvAt h 0 1 [batchL []] []) ∧ (openK h s).2.1.Quiet ∧ (s.Few n → (openK h s).2.1.Few (n + 1100)) ∧ (openK h s).2.1.K.length = s.K.length := by
  have hfit : (Lg.new 0 h 1).Fits s := ⟨k.half.pos, by have := k.half.fits; show 0 + h ≤ _; omega, Nat.zero_le _, Nat.le_refl _, Int.le_refl _, by show (1 : Int) ≤ _; decide⟩
  have e : openK h s = ((Lg.new 0 h 1).err s (batchL []), (Lg.new 0 h 1).dsk s (batchL []), if (Lg.new 0 h 1).err s (batchL []) = 0 then some ⟨0, (Lg.new 0 h 1).next s (batchL []), [], false⟩ else none) := by
    unfold openK
    rw [if_neg (by have := k.half.pos; omega), if_neg (by rw [hq.1]; decide), k.pick]
  rw [e]
  have hrec : recsL [batchL []] [] = some [] := recs_batch (l := []) rfl []
  rcases k.begin hrec (first_fits k.half.pos) with ⟨h1, h2, h3, h4⟩ | ⟨_, h2, _⟩
  · refine ⟨h1, h2, ?_, h4 hq, fun hf => ?_, (hfit.next (d := batchL [])).2.2⟩
    · simp only
      rw [if_pos h1, h3]
      rfl
    · have hc := (Lg.new 0 h 1).code_fits (batchL [])
      exact (Lg.few hfit k.ok hf).mono (by omega)
  · exact absurd hq h2
theorem new_no {n : Nat} (h2 : 2 ≤ n) (h4 : n ≤ 4096) : KvNo (Dsk.new n) (n / 2) := by
  have hl : (Dsk.new n).K.length = n := List.length_replicate
  have ok := Dsk.new_ok h4
  have hz : ∀ f, f + n / 2 ≤ n → areaOf (Dsk.new n).K f (n / 2) ≠ [] ∧ ∀ r ∈ areaOf (Dsk.new n).K f (n / 2), r.head? = some 0 := fun f hf => by
    refine ⟨fun e => ?_, fun r hr => ?_⟩
    · have := areaOf_length (K := (Dsk.new n).K) (f := f) (n := n / 2) (by rw [hl]; exact hf)
      rw [e] at this
      simp at this
      omega
    · have h5 : r ∈ (Dsk.new n).K := List.mem_of_mem_drop (List.mem_of_mem_take hr)
      rw [show (Dsk.new n).K = List.replicate n (List.replicate 64 0) from rfl] at h5
      rw [(List.mem_replicate.1 h5).2]
      rfl
  exact ⟨⟨by omega, by rw [hl]; omega⟩, ok, rfl, .fresh (hz 0 (by omega)).1 (hz 0 (by omega)).2, .fresh (hz (n / 2) (by omega)).1 (hz (n / 2) (by omega)).2⟩
theorem kopen_new {F : Nat → Prop} {n : Nat} (hd : DiskAt w g F (Dsk.new n)) (h2 : 2 ≤ n) (h4 : n ≤ 400) (hb : Below w0.heap.size w0 w) (hF : ∀ k, F k → w0.heap.size ≤ k) :
    Calls Tryz.prog 13 #[.pointer (some ⟨g, 0, none⟩)] w fun e w' => ∃ q s', e = .returned (.tuple #[.pointer (some ⟨q, 0, none⟩), .int .i64 0]) ∧ s'.K.length = n ∧ KLive w0 w' g q (n / 2) s' 0 1 [batchL []] [] 1100 := by
  have hl : (Dsk.new n).K.length = n := List.length_replicate
  have hno := new_no h2 (by omega)
  obtain ⟨o1, o2, o3, o4, o5, o6⟩ := hno.open_q (n := 0) ⟨rfl, rfl⟩
  refine (kopen_any w F hd.lt g F (fun x hx => hx) (Dsk.new n) (n / 2) 0 hd (by rw [hl]) (by omega) (Dsk.Few.new n) (by omega)).mono ?_
  rintro e w' (⟨h1, _⟩ | ⟨k', T', q', b', gt', F', h1, rfl, h3, h4, h5, h6, h7, h8, h9, h10, h11⟩)
  · rw [o3] at h1; cases h1
  · rw [o3] at h1
    injection h1 with h1
    subst h1
    have := hb.size
    exact ⟨q', _, by rw [o1], by rw [o6, hl], T', b', gt', F', h3, o2, o4, o5 (Dsk.Few.new n), h4.below hb hF, fun x hx => (h7 x hx).elim (hF x) (fun h => by omega)⟩
theorem KLive.empty (k : KLive w0 w g q h s a gen ds L m) : KDoc w0 (w.alloc (.cells #[.int .i64 1000000000, .slice none 0 0] 119)) g q w.heap.size h s a gen ds L [] m := by
  obtain ⟨T, b, gt, F, k1, k2, k3, k4, k5, k6⟩ := k
  have hb : Below w.heap.size w (w.alloc (.cells #[.int .i64 1000000000, .slice none 0 0] 119)) := (Below.refl _ _).alloc (Nat.le_refl _) _
  exact ⟨T, b, gt, F, k1.below hb, k2, k3, k4, hop k5 hb, k6, empty_map w _ (.inr rfl), k5.size, fun hx => by have := k1.tlt _ hx; omega⟩
end
end Go.Proofs.YtdaahapbpnjkfaaGreat
namespace Go.Proofs.YtdaahapbpnjkfaaGreat
open Go.RowKit
section
variable {w0 w w1 w' : World} {g q gm h : Nat} {s : Dsk} {a : Nat} {gen : Int} {ds : List (List UInt8)} {L M : List Kv} {m : Nat}
theorem KLive.commit_new (k : KLive w0 w1 g q h s a gen ds L m) (hb : Below w1.heap.size w1 w) (hK : s.K.length ≤ 400) (hm : m ≤ 690000) {A : Option Addr} {ps : List PPut} {n c : Nat} (hp : ∀ T : Nat → Prop, (∀ x, T x → w0.heap.size ≤ x ∧ x < w1.heap.size) → ∀ W, Spared w W T → PutsSeen W A ps) (hn : ps.length = n) (hf : FewV (valsOf ps)) :
    Calls Tryz.prog 15 #[.pointer (some ⟨q, 0, none⟩), .slice A n c] w fun e w' => ∃ E s' a' gen' ds' L', e = .returned (.int .i64 E) ∧ KLive w0 w' g q h s' a' gen' ds' L' (m + 1100) ∧ s'.K.length = s.K.length ∧ CommitQ s a gen ds L (doAll (valsOf ps) L) E s' a' gen' ds' L' ∧ commitL h s (kvAt h a gen ds L) (valsOf ps) = (E, s', kvAt h a' gen' ds' L') ∧ Spared w w' (fun x => x < w1.heap.size) := by
  have hsm := k.small hK
  have hlt : ∃ T : Nat → Prop, ∃ b gt F, PSt w1 T q g b gt F h s (kvAt h a gen ds L) ∧ KvOn s h a gen ds L ∧ s.Quiet ∧ s.Few m ∧ Below w0.heap.size w0 w1 ∧ ∀ x, T x → w0.heap.size ≤ x := k
  obtain ⟨T, b, gt, F, p1, h2, h3, h4, h50, h6⟩ := hlt
  have h1 := p1.below hb
  have h5 := hop h50 hb
  have t := tame h2.srt hsm.1 hsm.2 hf
  have hn60 := hf.1
  rw [valsOf_length, hn] at hn60
  have tl := t.len
  rw [valsOf_length, hn] at tl
  obtain ⟨E, s', a', gen', ds', L', e1, e2, e3, e4, e5⟩ := commit_q h2 h3 hf t
  have hfew := commit_few h1.fits h1.disk.ok h4 t.bat
  have hFT : ∀ x, (F x ∨ x = b ∨ x = q ∨ x = gt) → T x := fun x hx => h1.ins x hx
  refine (kcommit_any w T q g b gt F h s (kvAt h a gen ds L) A ps n c m h1 (fun W hW => hp (fun x => F x ∨ x = b ∨ x = q ∨ x = gt) (fun x hx => ⟨h6 x (hFT x hx), p1.tlt x (hFT x hx)⟩) W hW) hn (by omega) h4 hm tl (by have := t.size; show sizeT L + _ ≤ _; omega) t.bat t.all).mono ?_
  rintro e w' ⟨rfl, T', b', gt', F', p', m1, m2, m3, m4⟩
  change PSt w' T' q g b' gt' F' h (commitL h s (kvAt h a gen ds L) (valsOf ps)).2.1 (commitL h s (kvAt h a gen ds L) (valsOf ps)).2.2 at p'
  rw [e1] at p' hfew
  have hsz := h5.size
  have hT' : ∀ x, T' x → w0.heap.size ≤ x := fun x hx => (m3 x hx).elim (h6 x) (fun h => by omega)
  exact ⟨E, s', a', gen', ds', L', by rw [e1], ⟨T', b', gt', F', p', e2, e3, hfew, m1.below h5 (fun x hx => h6 x (hFT x hx)), hT'⟩, e4, e5, e1, m1.mono (fun x hx => p1.tlt x (hFT x hx))⟩
theorem KLive.commit (k : KLive w0 w g q h s a gen ds L m) (hK : s.K.length ≤ 400) (hm : m ≤ 690000) {A : Option Addr} {ps : List PPut} {n c : Nat} (hp : PutsSeen w0 A ps) (hn : ps.length = n) (hf : FewV (valsOf ps)) :
    Calls Tryz.prog 15 #[.pointer (some ⟨q, 0, none⟩), .slice A n c] w fun e w' => ∃ E s' a' gen' ds' L', e = .returned (.int .i64 E) ∧ KLive w0 w' g q h s' a' gen' ds' L' (m + 1100) ∧ s'.K.length = s.K.length ∧ CommitQ s a gen ds L (doAll (valsOf ps) L) E s' a' gen' ds' L' := by
  refine (k.commit_new (Below.refl _ _) hK hm (fun T hT W hW => hp.below (hW.below k.below (fun x hx => (hT x hx).1))) hn hf).mono ?_
  rintro e w' ⟨E, s', a', gen', ds', L', h1, h2, h3, h4, _, _⟩
  exact ⟨E, s', a', gen', ds', L', h1, h2, h3, h4⟩
end
theorem awake_full : (Lg.found (0 * 4) 4 1 [batchL []]).full (batchL [([97], [49], false)]) = false := by decide +kernel
theorem awake_commit {s : Dsk} (k : KvOn s 4 0 1 [batchL []] []) (hq : s.Quiet) : (commitL 4 s (kvAt 4 0 1 [batchL []] []) [([97], [49], false)]).1 = 0 ∧ (commitL 4 s (kvAt 4 0 1 [batchL []] []) [([97], [49], false)]).2.2.lg.gen = 1 := by
  have h1 : (kvLog 4 0 1 [batchL []]).err s (batchL [([97], [49], false)]) = 0 ∧ ((kvLog 4 0 1 [batchL []]).next s (batchL [([97], [49], false)])).gen = 1 := by
    rcases k.has.append k.half.pos (batchL [([97], [49], false)]) with ⟨_, _, _, h⟩ | ⟨h, _, h2, _⟩ | ⟨_, _, h, _⟩
    · rw [awake_full] at h; cases h
    · refine ⟨h, ?_⟩
      show ((Lg.found (0 * 4) 4 1 [batchL []]).next s (batchL [([97], [49], false)])).gen = 1
      rw [h2]; rfl
    · exact absurd hq h
  have c1 : ¬ (kvAt 4 0 1 [batchL []] []).down = true := by show ¬ (false = true); decide
  have c2 : ¬ mayV [([97], [49], false)] = false := by decide
  have c3 : ¬ [([97], [49], false)] = ([] : List PutV) := by simp
  have c4 : ¬ (kvAt 4 0 1 [batchL []] []).lg.err s (batchL [([97], [49], false)]) = 4 := by
    show ¬ (kvLog 4 0 1 [batchL []]).err s (batchL [([97], [49], false)]) = 4
    rw [h1.1]; decide
  unfold commitL
  rw [if_neg c1, if_neg c2, if_neg c3, if_neg c4]
  exact h1
theorem aw_puts (w : World) (mk mv : Nat × Nat) (W : World) (hs : Spared (((w.alloc (.cells #[.int .u8 97] 5 mk)).alloc (.cells #[.int .u8 49] 5 mv)).alloc (.cells #[.slice (some ⟨w.heap.size, 0, none⟩) 1 1, .slice (some ⟨w.heap.size + 1, 0, none⟩) 1 1, .bool false] 72)) W (fun x => x < w.heap.size)) :
    PutsSeen W (some ⟨w.heap.size + 1 + 1, 0, none⟩) [((some ⟨w.heap.size, 0, none⟩, [97], 1), (some ⟨w.heap.size + 1, 0, none⟩, [49], 1), false)] := by
  have S1 := ((seen_mark w 5 [97] mk).alloc (.cells #[.int .u8 49] 5 mv)).alloc (.cells #[.slice (some ⟨w.heap.size, 0, none⟩) 1 1, .slice (some ⟨w.heap.size + 1, 0, none⟩) 1 1, .bool false] 72)
  have S2 := (seen_mark (w.alloc (.cells #[.int .u8 97] 5 mk)) 5 [49] mv).alloc (.cells #[.slice (some ⟨w.heap.size, 0, none⟩) 1 1, .slice (some ⟨w.heap.size + 1, 0, none⟩) 1 1, .bool false] 72)
  have B3 := Blk.new ((w.alloc (.cells #[.int .u8 97] 5 mk)).alloc (.cells #[.int .u8 49] 5 mv)) [.slice (some ⟨w.heap.size, 0, none⟩) 1 1, .slice (some ⟨w.heap.size + 1, 0, none⟩) 1 1, .bool false] 72
  simp only [World.size_alloc] at S2 B3
  have A1 := ((Away.of_seen (F := fun x => x < w.heap.size) S1 (fun b off h _ hb => by injection h with h; injection h with h; subst h; exact Nat.lt_irrefl _ hb)).moved hs (fun i h => .inl h)).seen
  have A2 := ((Away.of_seen (F := fun x => x < w.heap.size) S2 (fun b off h _ (hb : b < w.heap.size) => by injection h with h; injection h with h; omega)).moved hs (fun i h => .inl h)).seen
  have B := hs.blk B3 (fun (h : w.heap.size + 1 + 1 < w.heap.size) => by omega)
  refine .inr ⟨_, 0, rfl, B.lt, fun j hj => ?_⟩
  obtain rfl : j = 0 := by simpa using hj
  exact ⟨B.cell (i := 0) (by simp), B.cell (i := 1) (by simp), B.cell (i := 2) (by simp), ⟨A1, by simp⟩, ⟨A2, by simp⟩⟩
set_option maxRecDepth 100000 in
set_option maxHeartbeats 2000000 in
theorem awake_any (w : World) : Calls Tryz.prog 9 #[] w fun e w' => e = .returned (.bool true) ∧ Below w.heap.size w w' := by
  have hcc := fun (w : World) (C : Array Value) (n c : Nat) => Lib.run_convert_bytes_const (P := Tryz.prog) w 22 5 C n c Tryz.underlying22 Tryz.underlying5
  have hc2 : ∀ (W : World) (O : Obj) (C : Array Value) (n c : Nat), (convert 22 22 (.slice (some ⟨W.heap.size + 1, 0, none⟩) n c)).run Tryz.prog ((W.alloc O).alloc (.cells C 5)) = .ok (.slice (some ⟨W.heap.size + 1, 0, none⟩) n c) ((W.alloc O).alloc (.cells C 5 (C.size, C.size + 1))) := by
    intro W O C n c
    have := hcc (W.alloc O) C n c
    simpa using this
  have HNEW : Hid (Calls Tryz.prog 26 #[.int .i64 8] w (Fresh w (Dsk.new 8))) := new_any w 8 (by decide) (by decide)
  go_enter Tryz.func9, Tryz.ntmps9
  go_wp2_with fail
  with_reducible refine HNEW.out.mono ?_
  rintro e w1 ⟨g, F, rfl, hd, hF, hb1⟩
  have HOP := Lib.hid (kopen_new (w0 := w) hd (by decide) (by decide) hb1 hF)
  clear hd hF hb1 HNEW
  go_wp2_with fail
  with_reducible refine HOP.out.mono ?_
  rintro e w2 ⟨q, s, rfl, hsK, hk⟩
  have K2 := Lib.hid hk
  have HSK := Lib.hid hsK
  clear hk hsK HOP
  go_wp2_with fail
  have HCM := Lib.hid (K2.out.commit_new (w := ((w2.alloc (.cells #[.int .u8 97] 5 (1, 2))).alloc (.cells #[.int .u8 49] 5 (1, 2))).alloc (.cells #[.slice (some ⟨w2.heap.size, 0, none⟩) 1 1, .slice (some ⟨w2.heap.size + 1, 0, none⟩) 1 1, .bool false] 72)) ((((Below.refl _ _).alloc (Nat.le_refl _) _).alloc (by simp) _).alloc (by simp; omega) _) (by rw [HSK.out]; decide) (by decide) (A := some ⟨w2.heap.size + 1 + 1, 0, none⟩) (ps := [((some ⟨w2.heap.size, 0, none⟩, [97], 1), (some ⟨w2.heap.size + 1, 0, none⟩, [49], 1), false)]) (n := 1) (c := 1) (fun T hT W hW => aw_puts w2 _ _ W (hW.mono (fun x hx => (hT x hx).2))) rfl ⟨by simp [valsOf], fun p hp => by
    rw [List.mem_singleton.1 (show p ∈ [valOf _] from hp)]
    simp [valOf]⟩)
  with_reducible refine HCM.out.mono ?_
  rintro e w3 ⟨E, s3, a3, gen3, ds3, L3, rfl, hk3, hsK3, hcq, hcm, _⟩
  have haw := awake_commit K2.out.on K2.out.quiet
  rw [show valsOf [((some ⟨w2.heap.size, 0, none⟩, [97], 1), (some ⟨w2.heap.size + 1, 0, none⟩, [49], 1), false)] = [([97], [49], false)] from rfl] at hcm hcq
  have hE : E = 0 := by
    have := haw.1
    rw [show (8 : Nat) / 2 = 4 from rfl] at hcm
    rw [hcm] at this
    exact this
  have hgen : gen3 = 1 := by
    have := haw.2
    rw [show (8 : Nat) / 2 = 4 from rfl] at hcm
    rw [hcm] at this
    exact this
  have hL : L3 = [([97], [49])] := by
    rcases hcq with ⟨_, h, _⟩ | ⟨h, _⟩
    · exact h
    · rw [hE] at h; cases h
  subst hE hgen hL
  have K3 := Lib.hid hk3
  have HO3 := Lib.hid (hk3.open_ (by rw [hsK3, HSK.out]; decide) (by decide))
  clear hk3 hsK3 hcq hcm haw HCM
  go_wp2_with fail
  with_reducible refine HO3.out.mono ?_
  rintro e w4 ⟨q4, rfl, hk4, hb4⟩
  have K4 := Lib.hid hk4
  clear hk4 hb4 HO3
  have SA := Lib.hid (seen_mark w4 5 [97] (1, 2))
  have KA := Lib.hid (K4.out.still ((Below.refl w4.heap.size w4).alloc (Nat.le_refl _) (.cells #[.int .u8 97] 5 (1, 2))))
  have HG := Lib.hid (KA.out.get (B := some ⟨w4.heap.size, 0, none⟩) (z := 1) (d := 1) SA.out rfl)
  go_wp2_with fail
  with_reducible refine HG.out.mono ?_
  rintro e w5 ⟨hb5, X, n, c, rfl, hx5, hn5⟩
  have K5 := Lib.hid (KA.out.still hb5)
  have hn : n = 1 := hn5.symm
  subst hn
  have hcv : (convert 22 9 (.slice X 1 c)).run Tryz.prog w5 = .ok (.string ⟨#[49]⟩) w5 := hx5.seen.text (P := Tryz.prog) 22 9 5 Tryz.underlying22 Tryz.underlying5 Tryz.underlying9 c
  have hhas : hasL [97] [([97], [49])] = true := by decide
  rw [hhas]
  have HT5 := Lib.hid K5.out.turn
  have HL5 : Hid (Calls Tryz.prog 38 #[.pointer (some ⟨q4, 0, none⟩)] w5 fun e w' => e = .returned (.int .i64 1) ∧ w' = w5) := K5.out.len
  have HU5 := Lib.hid K5.out.up
  have B5 := Lib.hid K5.out.below
  clear hb5 hx5 hn5 hhas HG
  go_wp2_with fail
  with_reducible refine HT5.out.mono ?_
  rintro e w6 ⟨rfl, hw6⟩
  obtain rfl := hw6.symm
  go_wp2_with fail
  with_reducible refine HL5.out.mono ?_
  rintro e w6 ⟨rfl, hw6⟩
  obtain rfl := hw6.symm
  go_wp2_with fail
  with_reducible refine HU5.out.mono ?_
  rintro e w6 ⟨rfl, hw6⟩
  obtain rfl := hw6.symm
  go_wp2_with fail
  go_ret
  exact ⟨rfl, B5.out⟩
end Go.Proofs.YtdaahapbpnjkfaaGreat
