/-
  The document's May: at most 1,000 puts, of at most 512 bytes a key and 8,192 a value. No conditions but that lengths are ints.
  The program's test of puts: is one too long? (isLong; slices.IndexFunc and slices.ContainsFunc over it.) No conditions but that lengths are ints.
  The document's store as it lies; a log of all pairs in the other area (turned). Conditions: as each says.
  The document's Commit. Conditions: at most 99,999 pairs and puts together, of at most 1,000,000,000 bytes together; the disk has taken at most 690,000 calls.
  The program's Commit. Conditions: at most 99,999 pairs and puts together, of at most 1,000,000,000 bytes together; the disk has taken at most 690,000 calls.
-/
import Derived.Test.YtdaahapbpnjkfaaGreatCLgLog
import Derived.Test.YtdaahapbpnjkfaaGreatCKpS
import Derived.Deep.LoopGhost
import Derived.Test.YtdaahapbpnjkfaaGreatCTrRf
import Derived.Test.YtdaahapbpnjkfaaGreatCKpBegin
import Derived.Deep.RegionHeldLaw
import Derived.Test.YtdaahapbpnjkfaaGreatCKpTurn
namespace Go.Proofs.YtdaahapbpnjkfaaGreat
open Go.RowKit
def mayOne (q : PPut) : Bool := decide (q.1.2.1.length ≤ 512) && decide (q.2.1.2.1.length ≤ 8192)
def mayPs (ps : List PPut) : Bool := decide (ps.length ≤ 1000) && ps.all mayOne
end Go.Proofs.YtdaahapbpnjkfaaGreat
namespace Go.Proofs.YtdaahapbpnjkfaaGreat
open Go.RowKit
set_option maxHeartbeats 1000000 in
theorem isLong_any (KA : Option Addr) (m kc : Nat) (VA : Option Addr) (z vc : Nat) (gone : Bool) (w : World) :
    Calls Tryz.prog 50 #[.agg #[.slice KA m kc, .slice VA z vc, .bool gone]] w fun e w' => e = .returned (.bool (!(decide (m ≤ 512) && decide (z ≤ 8192)))) ∧ Below w.heap.size w w' := by
  have hb := (Below.refl w.heap.size w).alloc (Nat.le_refl _) (.cells #[.slice KA m kc, .slice VA z vc, .bool gone] 72)
  obtain ⟨v, hv⟩ : ∃ v, v = !(decide (m ≤ 512) && decide (z ≤ 8192)) := ⟨_, rfl⟩
  rw [← hv]
  have HV := Lib.hid hv
  by_cases h1 : 512 < m
  · have d1 : decide ((512 : Int) < (m : Int)) = true := decide_eq_true (by omega)
    have HE : Hid (true = v) := by show _ = _; rw [HV.out, decide_eq_false (by omega)]; rfl
    clear h1 hv
    go_enter Tryz.func50, Tryz.ntmps50
    go_wp2
    go_ret
    exact ⟨ret_bool HE.out, hb⟩
  · have d1 : decide ((512 : Int) < (m : Int)) = false := decide_eq_false (by omega)
    by_cases h2 : 8192 < z
    · have d2 : decide ((8192 : Int) < (z : Int)) = true := decide_eq_true (by omega)
      have HE : Hid (true = v) := by show _ = _; rw [HV.out, decide_eq_false (p := z ≤ 8192) (by omega), Bool.and_false]; rfl
      clear h1 h2 hv
      go_enter Tryz.func50, Tryz.ntmps50
      go_wp2
      go_ret
      exact ⟨ret_bool HE.out, hb⟩
    · have d2 : decide ((8192 : Int) < (z : Int)) = false := decide_eq_false (by omega)
      have HE : Hid (false = v) := by show _ = _; rw [HV.out, decide_eq_true (p := z ≤ 8192) (by omega), decide_eq_true (p := m ≤ 512) (by omega)]; rfl
      clear h1 h2 hv
      go_enter Tryz.func50, Tryz.ntmps50
      go_wp2
      go_ret
      exact ⟨ret_bool HE.out, hb⟩
set_option maxRecDepth 100000 in
set_option maxHeartbeats 1000000 in
theorem indexLong_any (A : Option Addr) (ps : List PPut) (n c : Nat) (w : World) (hL : ps.length = n) (hn : n ≤ 1000000) (hs : PutsSeen w A ps) :
    Calls Tryz.prog 83 #[.slice A n c, .func (.func 50) #[] #[]] w fun e w' => ∃ r : Int, e = .returned (.int .i64 r) ∧ (0 ≤ r) = (ps.all mayOne = false) ∧ Below w.heap.size w w' := by
  have HS := Lib.hid hs
  have HL := Lib.hid hL
  obtain ⟨v, hv⟩ : ∃ v, v = ps.all mayOne := ⟨_, rfl⟩
  rw [← hv]
  have HV := Lib.hid hv
  clear hs hL hv
  go_enter Tryz.func83, Tryz.ntmps83
  go_wp2_with fail
  go_loopg [8] n (fun kx s wr => ∃ i : Nat, i + kx = n ∧ s = .int .i64 (i : Int) ∧ Below w.heap.size w wr ∧ Hid ((ps.drop i).all mayOne = v))
  case atStart => exact ⟨0, by omega, rfl, Below.refl _ _, HV.out.symm⟩
  case round =>
    obtain ⟨i, hi, rfl, hbr, HA⟩ := hrel
    have HI := Lib.hid hi
    have BR := Lib.hid hbr
    clear hi hbr
    by_cases hlt : i < n
    · have hkl : (i : Int) < (n : Int) := by omega
      have hin : i < ps.length := by have := HL.out; omega
      obtain ⟨b, off, rfl, hok, hat⟩ := (HS.out.below BR.out).at_ i hin
      obtain ⟨o0, o1, o2⟩ := hat wr (Below.refl _ _)
      have hdr : (ps.drop i).all mayOne = (mayOne ps[i] && (ps.drop (i + 1)).all mayOne) := by rw [List.drop_eq_getElem_cons hin, List.all_cons]
      obtain ⟨⟨⟨KA, y, kc⟩, ⟨VA, x, vc⟩, gone⟩, hq⟩ : ∃ q, q = ps[i] := ⟨_, rfl⟩
      rw [← hq] at o0 o1 o2 hdr
      change wr.cell? ⟨b, off + i * 3, none⟩ = some (.slice KA y.length kc) at o0
      change wr.cell? ⟨b, off + i * 3 + 1, none⟩ = some (.slice VA x.length vc) at o1
      change wr.cell? ⟨b, off + i * 3 + 2, none⟩ = some (.bool gone) at o2
      change (ps.drop i).all mayOne = ((decide (y.length ≤ 512) && decide (x.length ≤ 8192)) && (ps.drop (i + 1)).all mayOne) at hdr
      obtain ⟨m, hm⟩ : ∃ m, m = y.length := ⟨_, rfl⟩
      obtain ⟨z, hz⟩ : ∃ z, z = x.length := ⟨_, rfl⟩
      rw [← hm] at o0 hdr
      rw [← hz] at o1 hdr
      obtain ⟨u, hu⟩ : ∃ u, u = (decide (m ≤ 512) && decide (z ≤ 8192)) := ⟨_, rfl⟩
      have HLO := Lib.hid (isLong_any KA m kc VA z vc gone wr)
      rw [← hu] at HLO hdr
      have HDR := Lib.hid hdr
      have hwi : IntKind.i64.wrap ((i : Int) + 1) = ((i + 1 : Nat) : Int) := by rw [IntKind.wrap_i64]; omega
      clear hok hat hq hm hz hin hdr hu
      cases u
      · have HF : Hid (v = false) := by show _ = _; rw [← HA.out, HDR.out, Bool.false_and]
        rw [Bool.not_false] at HLO
        go_wp2_with fail
        with_reducible refine HLO.out.mono ?_
        rintro e w7 ⟨rfl, hb7⟩
        go_wp2_with fail
        go_ret
        exact ⟨(i : Int), rfl, by rw [HF.out]; simp, hop BR.out hb7⟩
      · have HF : Hid ((ps.drop (i + 1)).all mayOne = v) := by show _ = _; rw [← HA.out, HDR.out, Bool.true_and]
        rw [Bool.not_true] at HLO
        go_wp2_with fail
        with_reducible refine HLO.out.mono ?_
        rintro e w7 ⟨rfl, hb7⟩
        go_wp2_with fail
        go_roundg (n - (i + 1))
        case measure => have := HI.out; omega
        case rel => exact ⟨i + 1, by have := HI.out; omega, rfl, hop BR.out hb7, HF⟩
    · obtain rfl : i = n := by have := HI.out; omega
      have hkl : ¬ (i : Int) < (i : Int) := by omega
      have HF : Hid (v = true) := by
        show _ = _
        rw [← HA.out, List.drop_of_length_le (by rw [HL.out]; exact Nat.le_refl _)]; rfl
      go_wp2_with fail
      go_ret
      exact ⟨-1, rfl, by rw [HF.out]; simp, BR.out⟩
set_option maxHeartbeats 1000000 in
theorem anyLong_any (A : Option Addr) (ps : List PPut) (n c : Nat) (w : World) (hL : ps.length = n) (hn : n ≤ 1000000) (hs : PutsSeen w A ps) :
    Calls Tryz.prog 49 #[.slice A n c, .func (.func 50) #[] #[]] w fun e w' => e = .returned (.bool (!(ps.all mayOne))) ∧ Below w.heap.size w w' := by
  have HX := Lib.hid (indexLong_any A ps n c w hL hn hs)
  obtain ⟨v, hv⟩ : ∃ v, v = ps.all mayOne := ⟨_, rfl⟩
  rw [← hv] at HX ⊢
  clear hL hn hs hv
  go_enter Tryz.func49, Tryz.ntmps49
  go_wp2_with fail
  with_reducible refine HX.out.mono ?_
  rintro e w7 ⟨r, rfl, hr, hb7⟩
  have B7 := Lib.hid hb7
  clear hb7 HX
  cases v
  · have h0 : 0 ≤ r := by rw [hr]
    clear hr
    go_wp2_with fail
    go_ret
    exact ⟨rfl, B7.out⟩
  · have h0 : ¬ 0 ≤ r := by rw [hr]; decide
    have d0 : decide (0 ≤ r) = false := decide_eq_false h0
    clear hr
    go_wp2_with fail
    go_ret
    exact ⟨rfl, B7.out⟩
end Go.Proofs.YtdaahapbpnjkfaaGreat
namespace Go.Proofs.YtdaahapbpnjkfaaGreat
open Go.RowKit
def rsCells (r b gm : Nat) (a : Nat) (down : Bool) : List Value := [.pointer (some ⟨r, 0, none⟩), .pointer (some ⟨b, 0, none⟩), .int .i64 (a : Int), .pointer (some ⟨gm, 0, none⟩), .bool down]
structure RSt (w : World) (T : Nat → Prop) (q r b gm : Nat) (G : Nat → Prop) (h : Nat) (t : Dsk) (k : KvS) : Prop where
  disk : RefAt w r G t
  log : Blk w b (lgCells r k.lg) 102
  box : Blk w q (rsCells r b gm k.a k.down) 98
  map : MapAt w T gm 1000000000 k.L
  ins : ∀ x, (G x ∨ x = b ∨ x = q ∨ x = gm) → T x
  tlt : ∀ x, T x → x < w.heap.size
  nb : ¬ G b
  nq : ¬ G q
  nm : ¬ G gm
  bq : b ≠ q
  bm : b ≠ gm
  qm : q ≠ gm
  fits : k.Fits h t
  half : h = t.K.length / 2
def RTo (w : World) (T : Nat → Prop) (q r b gm : Nat) (G : Nat → Prop) (h : Nat) (t' : Dsk) (k' : KvS) (w' : World) : Prop :=
  ∃ (T' : Nat → Prop) (b' gm' : Nat) (G' : Nat → Prop), RSt w' T' q r b' gm' G' h t' k' ∧ Spared w w' (fun x => G x ∨ x = b ∨ x = q) ∧ (∀ x, T x → T' x) ∧ (∀ x, T' x → T x ∨ w.heap.size ≤ x) ∧ ∀ x, (G' x ∨ x = b' ∨ x = gm') → (G x ∨ x = b ∨ x = gm) ∨ w.heap.size ≤ x
section
variable {w w' : World} {T : Nat → Prop} {q r b gm : Nat} {G : Nat → Prop} {h : Nat} {t : Dsk} {k : KvS}
theorem RSt.below (s : RSt w T q r b gm G h t k) (hb : Below w.heap.size w w') : RSt w' T q r b gm G h t k :=
  ⟨s.disk.still hb, s.log.below hb s.log.lt, s.box.below hb s.box.lt, s.map.below hb, s.ins, fun x hx => Nat.lt_of_lt_of_le (s.tlt x hx) hb.size, s.nb, s.nq, s.nm, s.bq, s.bm, s.qm, s.fits, s.half⟩
theorem RSt.cells (s : RSt w T q r b gm G h t k) : ∀ W, Below w.heap.size w W → W.cell? ⟨q, 0, none⟩ = some (.pointer (some ⟨r, 0, none⟩)) ∧ W.cell? ⟨q, 1, none⟩ = some (.pointer (some ⟨b, 0, none⟩)) ∧ W.cell? ⟨q, 2, none⟩ = some (.int .i64 (k.a : Int)) ∧ W.cell? ⟨q, 3, none⟩ = some (.pointer (some ⟨gm, 0, none⟩)) ∧ W.cell? ⟨q, 4, none⟩ = some (.bool k.down) ∧ W.cell? ⟨b, 3, none⟩ = some (.int .i64 k.lg.gen) := fun W hW => by
  have h1 := s.box.below hW s.box.lt
  have h2 := s.log.below hW s.log.lt
  exact ⟨h1.cell (i := 0) (by simp [rsCells]), h1.cell (i := 1) (by simp [rsCells]), h1.cell (i := 2) (by simp [rsCells]), h1.cell (i := 3) (by simp [rsCells]), h1.cell (i := 4) (by simp [rsCells]), h2.cell (i := 3) (by simp [lgCells])⟩
end
def RTurned (w : World) (T : Nat → Prop) (q r b gm gn : Nat) (G : Nat → Prop) (h : Nat) (M : List Kv) (t' : Dsk) (k' : KvS) (w' : World) : Prop :=
  ∃ (T' : Nat → Prop) (b' : Nat) (G' : Nat → Prop), RSt w' T' q r b' gm G' h t' k' ∧ Spared w w' (fun x => G x ∨ x = q) ∧ (∀ x, T x → T' x) ∧ (∀ x, T' x → T x ∨ w.heap.size ≤ x) ∧ (∀ x, (G' x ∨ x = b') → (G x ∨ x = b) ∨ w.heap.size ≤ x) ∧ MapAt w' T' gn 1000000000 M
theorem RTurned.still {w w' : World} {T : Nat → Prop} {q r b gm gn : Nat} {G : Nat → Prop} {h : Nat} {t : Dsk} {k : KvS} {M : List Kv} (s : RSt w T q r b gm G h t k) (m : MapAt w T gn 1000000000 M) (hb : Below w.heap.size w w') : RTurned w T q r b gm gn G h M t k w' :=
  ⟨T, b, G, s.below hb, .of_below hb _, fun _ h => h, fun _ h => .inl h, fun _ h => .inl h, m.below hb⟩
theorem RTurned.make {w W : World} {T : Nat → Prop} {q r b gm gn b' : Nat} {G G' : Nat → Prop} {h : Nat} {t t' : Dsk} {k k' : KvS} {M : List Kv} (s : RSt w T q r b gm G h t k) (m : MapAt w T gn 1000000000 M) (hsp : Spared w W (fun x => G x ∨ x = q)) (hd : RefAt W r G' t') (hl : Blk W b' (lgCells r k'.lg) 102) (hb : b' = b ∨ w.heap.size ≤ b') (hx : Blk W q (rsCells r b' gm k'.a k'.down) 98) (hG : ∀ x, G' x → G x ∨ w.heap.size ≤ x) (hnb : ¬ G' b') (hf : k'.Fits h t') (hK : t'.K.length = t.K.length) (hL : k'.L = k.L) (hng : ¬ G gn) (hnq : gn ≠ q) : RTurned w T q r b gm gn G h M t' k' W := by
  have lq := s.box.lt
  have lg := s.map.lt
  have ln := m.lt
  have hT : ∀ x, (T x ∨ G' x ∨ x = b') → T x ∨ w.heap.size ≤ x := fun x hx => by
    rcases hx with hx | hx | hx
    · exact .inl hx
    · exact (hG x hx).imp (fun h => s.ins x (.inl h)) id
    · rcases hb with h1 | h1
      · exact .inl (s.ins x (.inr (.inl (hx.trans h1))))
      · exact .inr (by omega)
  have hTg : ∀ g, ¬ G g → g ≠ q → ∀ x, (G x ∨ x = q) → T x ∧ x ≠ g := fun g h1 h2 x hx => by
    rcases hx with hx | hx
    · exact ⟨s.ins x (.inl hx), fun e => h1 (e ▸ hx)⟩
    · exact ⟨s.ins x (.inr (.inr (.inl hx))), fun e => h2 (e.symm.trans hx)⟩
  have old : ∀ x, x < w.heap.size → ¬ G x → ¬ G' x := fun x h1 h2 h3 => (hG x h3).elim h2 (fun h => by omega)
  have hbq : b' ≠ q := by
    rcases hb with h1 | h1
    · rw [h1]; exact s.bq
    · omega
  have hbm : b' ≠ gm := by
    rcases hb with h1 | h1
    · rw [h1]; exact s.bm
    · omega
  refine ⟨fun x => T x ∨ G' x ∨ x = b', b', G', ⟨hd, hl, hx, ?_, fun x hx => ?_, fun x hx => ?_, hnb, old q lq s.nq, old gm lg s.nm, hbq, hbm, s.qm, hf, ?_⟩, hsp, fun _ h => .inl h, hT, fun x hx => ?_, ?_⟩
  · rw [hL]
    exact s.map.moved (hsp.mono (hTg gm s.nm (fun e => s.qm e.symm))) hT (.inl (s.ins gm (.inr (.inr (.inr rfl)))))
  · rcases hx with hx | hx | hx | hx
    · exact .inr (.inl hx)
    · exact .inr (.inr hx)
    · exact .inl (s.ins x (.inr (.inr (.inl hx))))
    · exact .inl (s.ins x (.inr (.inr (.inr hx))))
  · rcases hx with hx | hx | hx
    · exact Nat.lt_of_lt_of_le (s.tlt x hx) hsp.size
    · exact hd.lt x hx
    · rw [hx]; exact hl.lt
  · rw [hK]; exact s.half
  · rcases hx with hx | hx
    · exact (hG x hx).imp .inl id
    · rcases hb with h1 | h1
      · exact .inl (.inr (hx.trans h1))
      · exact .inr (by omega)
  · exact m.moved (hsp.mono (hTg gn hng hnq)) hT (.inl m.1)
end Go.Proofs.YtdaahapbpnjkfaaGreat
namespace Go.Proofs.YtdaahapbpnjkfaaGreat
open Go.RowKit
theorem mayPs_vals (ps : List PPut) : mayPs ps = mayV (valsOf ps) := by
  unfold mayPs mayV valsOf
  rw [List.length_map, List.all_map]
  rfl
theorem err_full {l : Lg} {s : Dsk} {d : List UInt8} (h : l.err s d = 4) : l.dsk s d = s ∧ l.next s d = l := by
  by_cases hd : l.down = true
  · exact (next_down hd).2
  · have hd : l.down = false := by simpa using hd
    by_cases hf : l.full d = true
    · exact (next_full hd hf).2
    · have hf : l.full d = false := by simpa using hf
      unfold Lg.err at h
      rw [hd, hf] at h
      have : s.layErr (l.laid s d) (l.f + l.fin / 64) = 4 := h
      unfold Dsk.layErr Dsk.putErr at this
      split at this
      · cases this
      · split at this <;> cases this
def RMid (w : World) (T : Nat → Prop) (q r b gm gc : Nat) (G : Nat → Prop) (h : Nat) (M : List Kv) (t' : Dsk) (k' : KvS) (w' : World) : Prop :=
  ∃ (T' : Nat → Prop) (b' : Nat) (G' : Nat → Prop), RSt w' T' q r b' gm G' h t' k' ∧ Spared w w' (fun x => G x ∨ x = b ∨ x = q) ∧ (∀ x, T x → T' x) ∧ (∀ x, T' x → T x ∨ w.heap.size ≤ x) ∧ (∀ x, (G' x ∨ x = b') → (G x ∨ x = b) ∨ w.heap.size ≤ x) ∧ MapAt w' T' gc 1000000000 M ∧ w.heap.size ≤ gc ∧ ¬ G' gc ∧ gc ≠ b'
section
variable {w w' W : World} {T : Nat → Prop} {q r b gm gc : Nat} {G : Nat → Prop} {h : Nat} {t t' : Dsk} {k k' : KvS} {M : List Kv}
theorem RMid.ends (s : RSt w T q r b gm G h t k) (m : RMid w T q r b gm gc G h M t' k' w') {E : Int} {gm' : Nat} (hsp : Spared w' W (fun x => x = q)) (hx : ∀ b', Blk w' q (rsCells r b' gm k'.a k'.down) 98 → Blk W q (rsCells r b' gm' k'.a (decide (E = 5))) 98) (hg : (E = 0 ∧ gm' = gc) ∨ (E ≠ 0 ∧ gm' = gm)) : RTo w T q r b gm G h t' (k'.ends E M) W := by
  obtain ⟨T', b', G', hs, h1, h2, h3, h4, h5, h6, h7, h8⟩ := m
  have lq := s.box.lt
  have hT : ∀ g, T' g → g ≠ q → ∀ x, x = q → T' x ∧ x ≠ g := fun g _ hne x hx => ⟨hs.ins x (.inr (.inr (.inl hx))), fun e => hne (e.symm.trans hx)⟩
  have hq : T' q := hs.ins q (.inr (.inr (.inl rfl)))
  have hG : ∀ x, (G' x ∨ x = b' ∨ x = gm') → (G x ∨ x = b ∨ x = gm) ∨ w.heap.size ≤ x := fun x hy => by
    rcases hy with hy | hy | hy
    · exact (h4 x (.inl hy)).imp (fun h => h.elim .inl (fun h => .inr (.inl h))) id
    · exact (h4 x (.inr hy)).imp (fun h => h.elim .inl (fun h => .inr (.inl h))) id
    · rcases hg with ⟨_, h9⟩ | ⟨_, h9⟩
      · exact .inr (by omega)
      · exact .inl (.inr (.inr (hy.trans h9)))
  have htot : Spared w W (fun x => G x ∨ x = b ∨ x = q) := h1.trans (hsp.mono (fun _ h => .inr (.inr h))) (fun _ h => .inl h)
  have hmap : ∀ {g : Nat} {N : List Kv}, MapAt w' T' g 1000000000 N → g ≠ q → MapAt W T' g 1000000000 N := fun {g N} hm hne => hm.moved (hsp.mono (hT g hm.1 hne)) (fun _ h => .inl h) hm.1
  have hfit : (k'.ends E M).Fits h t' := ⟨hs.fits.half, hs.fits.two, hs.fits.log⟩
  have hdisk : RefAt W r G' t' := hs.disk.apart hsp (fun x h1 h2 => hs.nq (h2 ▸ h1))
  have hlog := hsp.blk hs.log hs.bq
  rcases hg with ⟨rfl, rfl⟩ | ⟨hE, rfl⟩
  · have hgq : gm' ≠ q := by omega
    exact ⟨T', b', gm', G', ⟨hdisk, hlog, hx b' hs.box, hmap h5 hgq, fun x hx => hx.elim (fun h => hs.ins x (.inl h)) (fun h => h.elim (fun h => hs.ins x (.inr (.inl h))) (fun h => h.elim (fun h => hs.ins x (.inr (.inr (.inl h)))) (fun h => h ▸ h5.1))), fun x hx => Nat.lt_of_lt_of_le (hs.tlt x hx) hsp.size, hs.nb, hs.nq, h7, hs.bq, fun e => h8 e.symm, fun e => hgq e.symm, hfit, hs.half⟩, htot, h2, h3, hG⟩
  · have e : (k'.ends E M).L = k'.L := if_neg hE
    exact ⟨T', b', gm', G', ⟨hdisk, hlog, hx b' hs.box, by rw [e]; exact hmap hs.map (fun e => hs.qm e.symm), hs.ins, fun x hx => Nat.lt_of_lt_of_le (hs.tlt x hx) hsp.size, hs.nb, hs.nq, hs.nm, hs.bq, hs.bm, hs.qm, hfit, hs.half⟩, htot, h2, h3, hG⟩
theorem RMid.turn {T' : Nat → Prop} {b' : Nat} {G' : Nat → Prop} {t2 : Dsk} {k2 : KvS} (h1 : Spared w w' (fun x => G x ∨ x = b ∨ x = q)) (h2 : ∀ x, T x → T' x) (h3 : ∀ x, T' x → T x ∨ w.heap.size ≤ x) (h4 : ∀ x, (G' x ∨ x = b') → (G x ∨ x = b) ∨ w.heap.size ≤ x) (hc : w.heap.size ≤ gc) (hcl : gc < w'.heap.size) (hcn : ¬ G' gc) (hcb : gc ≠ b') (m : RTurned w' T' q r b' gm gc G' h M t2 k2 W) : RMid w T q r b gm gc G h M t2 k2 W := by
  obtain ⟨T2, b2, G2, hs2, m1, m2, m3, m4, m5⟩ := m
  have hsz := h1.size
  refine ⟨T2, b2, G2, hs2, h1.trans m1 (fun x hx => ?_), fun x hx => m2 x (h2 x hx), fun x hx => ?_, fun x hx => ?_, m5, hc, fun h => ?_, fun e => ?_⟩
  · rcases hx with hx | hx
    · exact (h4 x (.inl hx)).imp (fun h => h.elim .inl (fun h => .inr (.inl h))) id
    · exact .inl (.inr (.inr hx))
  · exact (m3 x hx).elim (h3 x) (fun h => .inr (by omega))
  · exact (m4 x hx).elim (h4 x) (fun h => .inr (by omega))
  · exact (m4 gc (.inl h)).elim (fun h => h.elim hcn hcb) (fun h => by omega)
  · exact (m4 gc (.inr e)).elim (fun h => h.elim hcn hcb) (fun h => by omega)
theorem RTo.still (s : RSt w T q r b gm G h t k) (hb : Below w.heap.size w w') : RTo w T q r b gm G h t k w' :=
  ⟨T, b, gm, G, s.below hb, .of_below hb _, fun _ h => h, fun _ h => .inl h, fun _ h => .inl h⟩
end
end Go.Proofs.YtdaahapbpnjkfaaGreat
namespace Go.Proofs.YtdaahapbpnjkfaaGreat
open Go.RowKit
section
variable {w W : World} {T : Nat → Prop} {q g b gt : Nat} {F : Nat → Prop} {h : Nat} {s : Dsk} {k : KvS} {M : List Kv}
theorem PSt.applied (p : PSt w T q g b gt F h s k) (hs : Spared w W (fun x => x = gt)) (ht : TreeAt W T gt anyRoom M) : PSt W T q g b gt F h s { k with L := M } :=
  ⟨p.disk.apart hs (fun _ h1 h2 => p.nt (h2 ▸ h1)), hs.blk p.log p.bt, hs.blk p.box p.qt, ht, p.ins, fun x hx => Nat.lt_of_lt_of_le (p.tlt x hx) hs.size, p.nb, p.nq, p.nt, p.bq, p.bt, p.qt, ⟨p.fits.half, p.fits.two, p.fits.log⟩, p.half⟩
theorem PSt.upped (p : PSt w T q g b gt F h s k) {d u : Bool} (hu : u = !d) : PSt (w.setCell ⟨q, 4, none⟩ (.bool u)) T q g b gt F h s { k with down := d } := by
  subst hu
  have hs : Spared w (w.setCell ⟨q, 4, none⟩ (.bool (!d))) (fun x => x = q) := (Spared.refl w (fun x => x = q)).setCell rfl _ _
  refine ⟨p.disk.apart hs (fun x h1 h2 => p.nq (h2 ▸ h1)), hs.blk p.log p.bq, ?_, p.tree.moved (hs.mono (fun x hx => by subst hx; exact ⟨p.ins _ (.inr (.inr (.inl rfl))), p.qt⟩)) (fun x hx => .inl hx) p.tree.1, p.ins, fun x hx => Nat.lt_of_lt_of_le (p.tlt x hx) hs.size, p.nb, p.nq, p.nt, p.bq, p.bt, p.qt, ⟨p.fits.half, p.fits.two, p.fits.log⟩, p.half⟩
  exact p.box.set 4 _
theorem up_spared (w : World) (q : Nat) (v : Value) : Spared w (w.setCell ⟨q, 4, none⟩ v) (fun x => x = q) := (Spared.refl w (fun x => x = q)).setCell rfl _ _
theorem PTo.on {w1 w2 : World} {T1 : Nat → Prop} {b1 gt1 : Nat} {F1 : Nat → Prop} {s2 : Dsk} {k2 : KvS} (hsp : Spared w w1 (fun x => F x ∨ x = b ∨ x = q ∨ x = gt)) (hT : ∀ x, T x → T1 x) (hT1 : ∀ x, T1 x → T x ∨ w.heap.size ≤ x) (h4 : ∀ x, (F1 x ∨ x = b1 ∨ x = gt1) → (F x ∨ x = b ∨ x = gt) ∨ w.heap.size ≤ x) (t : PTo w1 T1 q g b1 gt1 F1 h s2 k2 w2) : PTo w T q g b gt F h s2 k2 w2 := by
  obtain ⟨T2, b2, gt2, F2, p2, h1, h2, h3, h5⟩ := t
  have hz := hsp.size
  have key : ∀ x, (F1 x ∨ x = b1 ∨ x = gt1) → (F x ∨ x = b ∨ x = q ∨ x = gt) ∨ w.heap.size ≤ x := fun x hx => (h4 x hx).imp (fun h => h.elim .inl (fun h => h.elim (fun h => .inr (.inl h)) (fun h => .inr (.inr (.inr h))))) id
  refine ⟨T2, b2, gt2, F2, p2, hsp.trans h1 (fun x hy => ?_), fun x hy => h2 x (hT x hy), fun x hy => (h3 x hy).elim (hT1 x) (fun h => .inr (by omega)), fun x hy => (h5 x hy).elim (h4 x) (fun h => .inr (by omega))⟩
  rcases hy with hy | hy | hy | hy
  · exact key x (.inl hy)
  · exact key x (.inr (.inl hy))
  · exact .inl (.inr (.inr (.inl hy)))
  · exact key x (.inr (.inr hy))
theorem PTo.upped {w2 : World} {s2 : Dsk} {k2 : KvS} (t : PTo w T q g b gt F h s2 k2 w2) {d u : Bool} (hu : u = !d) : PTo w T q g b gt F h s2 { k2 with down := d } (w2.setCell ⟨q, 4, none⟩ (.bool u)) := by
  obtain ⟨T2, b2, gt2, F2, p2, h1, h2, h3, h5⟩ := t
  exact ⟨T2, b2, gt2, F2, p2.upped hu, h1.trans (up_spared w2 q _) (fun x hx => .inl (.inr (.inr (.inl hx)))), h2, h3, h5⟩
theorem PTo.cell4 {w2 : World} {s2 : Dsk} {k2 : KvS} (t : PTo w T q g b gt F h s2 k2 w2) : w2.cell? ⟨q, 4, none⟩ = some (.bool (!k2.down)) ∧ w2.frozen? ⟨q, 4, none⟩ = false := by
  obtain ⟨T2, b2, gt2, F2, p2, _⟩ := t
  exact ⟨(p2.cells w2 (Below.refl _ _)).2.2.2.2, p2.box.free 4⟩
end
theorem turned_ends (h : Nat) (s : Dsk) (k : KvS) (M : List Kv) : { turnedK h s k M with down := decide ((turnL h s k M).1 = 5) } = (turnL h s k M).2.2.ends (turnL h s k M).1 M := by
  unfold turnedK KvS.ends
  split <;> rfl
theorem mayPs_all {ps : List PPut} (h : ps.length ≤ 1000) : mayPs ps = ps.all mayOne := by
  unfold mayPs
  rw [decide_eq_true h, Bool.true_and]
set_option maxRecDepth 100000 in
set_option maxHeartbeats 4000000 in
theorem kcommit_any (w : World) (T : Nat → Prop) (q g b gt : Nat) (F : Nat → Prop) (h : Nat) (s : Dsk) (k : KvS) (A : Option Addr) (ps : List PPut) (n c m : Nat) (hs : PSt w T q g b gt F h s k) (hp : ∀ W, Spared w W (fun x => F x ∨ x = b ∨ x = q ∨ x = gt) → PutsSeen W A ps) (hn : ps.length = n) (hn9 : n ≤ 9223372036854775807) (hf : s.Few m) (hmf : m ≤ 690000) (hl : k.L.length + n ≤ 99999) (hb : sizeT k.L + sizeP (valsOf ps) ≤ 1000000000) (hbt : (batchL (valsOf ps)).length ≤ 140737488000000) (hba : (batchL (allP (doAll (valsOf ps) k.L))).length ≤ 140737488000000) :
    Calls Tryz.prog 15 #[.pointer (some ⟨q, 0, none⟩), .slice A n c] w fun e w' => e = .returned (.int .i64 (commitL h s k (valsOf ps)).1) ∧ PTo w T q g b gt F h (commitL h s k (valsOf ps)).2.1 (commitL h s k (valsOf ps)).2.2 w' := by
  have HS := Lib.hid hs
  have HP := Lib.hid hp
  have HN := Lib.hid hn
  have HUP := Lib.hid (up_any hs)
  obtain ⟨D, hD⟩ : ∃ D, D = k.down := ⟨_, rfl⟩
  rw [← hD] at HUP
  have HD := Lib.hid hD
  obtain ⟨Y, hY⟩ : ∃ Y, Y = ps.all mayOne := ⟨_, rfl⟩
  have HANY : Hid (n ≤ 1000 → Calls Tryz.prog 49 #[.slice A n c, .func (.func 50) #[] #[]] w fun e w' => e = .returned (.bool (!Y)) ∧ Below w.heap.size w w') := fun h1 => by
    rw [hY]
    exact anyLong_any A ps n c w hn (by omega) (hp w (.refl _ _))
  have HY : Hid (n ≤ 1000 → mayV (valsOf ps) = Y) := fun h1 => by rw [hY, ← mayPs_vals, mayPs_all (by omega)]
  have HYN : Hid (¬ n ≤ 1000 → mayV (valsOf ps) = false) := fun h1 => by
    rw [← mayPs_vals]
    unfold mayPs
    rw [decide_eq_false (by omega), Bool.false_and]
  have HSRT : Hid (Srt k.L) := hs.tree.srt
  clear hs hp hn hD hY
  by_cases hD : D = true
  · subst hD
    have HC : Hid (commitL h s k (valsOf ps) = (5, s, k)) := by show _ = _; unfold commitL; rw [if_pos HD.out.symm]
    rw [HC.out]
    go_enter Tryz.func15, Tryz.ntmps15
    go_wp2_with fail
    with_reducible refine HUP.out.mono ?_
    rintro e w1 ⟨rfl, hw1⟩
    obtain rfl := hw1.symm
    go_wp2_with fail
    go_ret
    exact ⟨rfl, .still HS.out (Below.refl _ _)⟩
  obtain rfl : D = false := by simpa using hD
  clear hD
  have hdn : ¬ k.down = true := by rw [← HD.out]; decide
  have HDN := Lib.hid hdn
  clear hdn
  by_cases h1000 : ¬ n ≤ 1000
  · have HC : Hid (commitL h s k (valsOf ps) = (2, s, k)) := by show _ = _; unfold commitL; rw [if_neg HDN.out, if_pos (HYN.out h1000)]
    rw [HC.out]
    have d1 : decide ((1000 : Int) < (n : Int)) = true := decide_eq_true (by omega)
    go_enter Tryz.func15, Tryz.ntmps15
    go_wp2_with fail
    with_reducible refine HUP.out.mono ?_
    rintro e w1 ⟨rfl, hw1⟩
    obtain rfl := hw1.symm
    go_wp2_with fail
    go_ret
    exact ⟨rfl, .still HS.out (Below.refl _ _)⟩
  have h1000 : n ≤ 1000 := by omega
  have d1 : decide ((1000 : Int) < (n : Int)) = false := decide_eq_false (by omega)
  have HYY := Lib.hid (HY.out h1000)
  have HANY2 := Lib.hid (HANY.out h1000)
  clear HANY HY HYN
  by_cases hY : Y = false
  · subst hY
    have HC : Hid (commitL h s k (valsOf ps) = (2, s, k)) := by show _ = _; unfold commitL; rw [if_neg HDN.out, if_pos HYY.out]
    rw [HC.out]
    rw [Bool.not_false] at HANY2
    go_enter Tryz.func15, Tryz.ntmps15
    go_wp2_with fail
    with_reducible refine HUP.out.mono ?_
    rintro e w1 ⟨rfl, hw1⟩
    obtain rfl := hw1.symm
    go_wp2_with fail
    with_reducible refine HANY2.out.mono ?_
    rintro e w1 ⟨rfl, hb1⟩
    have B1 := Lib.hid hb1
    clear hb1
    go_wp2_with fail
    go_ret
    exact ⟨rfl, .still HS.out B1.out⟩
  obtain rfl : Y = true := by simpa using hY
  clear hY
  rw [Bool.not_true] at HANY2
  by_cases hn0 : n = 0
  · subst hn0
    have HC : Hid (commitL h s k (valsOf ps) = (0, s, k)) := by
      show _ = _
      have h0 : valsOf ps = [] := List.eq_nil_of_length_eq_zero (by rw [valsOf_length]; exact HN.out)
      unfold commitL
      rw [if_neg HDN.out, if_neg (by rw [HYY.out]; decide), if_pos h0]
    rw [HC.out]
    go_enter Tryz.func15, Tryz.ntmps15
    go_wp2_with fail
    with_reducible refine HUP.out.mono ?_
    rintro e w1 ⟨rfl, hw1⟩
    obtain rfl := hw1.symm
    go_wp2_with fail
    with_reducible refine HANY2.out.mono ?_
    rintro e w1 ⟨rfl, hb1⟩
    have B1 := Lib.hid hb1
    clear hb1
    go_wp2_with fail
    go_ret
    exact ⟨rfl, .still HS.out B1.out⟩
  have n1 : (n == 0) = false := by rw [beq_eq_false_iff_ne]; exact hn0
  have n2 : ((n : Int) == 0) = false := by rw [beq_eq_false_iff_ne]; omega
  obtain ⟨M, hM⟩ : ∃ M, M = doAll (valsOf ps) k.L := ⟨_, rfl⟩
  obtain ⟨d, hd⟩ : ∃ d, d = batchL (valsOf ps) := ⟨_, rfl⟩
  obtain ⟨E, hE⟩ : ∃ E, E = k.lg.err s d := ⟨_, rfl⟩
  obtain ⟨s3, hs3⟩ : ∃ s3, s3 = k.lg.dsk s d := ⟨_, rfl⟩
  obtain ⟨lg3, hlg3⟩ : ∃ lg3, lg3 = k.lg.next s d := ⟨_, rfl⟩
  have HC : Hid (commitL h s k (valsOf ps) = if E = 4 then ((turnL h s k M).1, (turnL h s k M).2.1, (turnL h s k M).2.2.ends (turnL h s k M).1 M) else (E, s3, ({ k with lg := lg3 } : KvS).ends E M)) := by
    show _ = _
    have h0 : valsOf ps ≠ [] := fun h => hn0 (by have := congrArg List.length h; rw [valsOf_length] at this; rw [← HN.out]; exact this)
    unfold commitL
    rw [if_neg HDN.out, if_neg (by rw [HYY.out]; decide), if_neg h0, hE, hs3, hlg3, hd, hM]
  obtain ⟨R, hR⟩ : ∃ R, R = commitL h s k (valsOf ps) := ⟨_, rfl⟩
  rw [← hR]
  have HR : Hid (R = if E = 4 then ((turnL h s k M).1, (turnL h s k M).2.1, (turnL h s k M).2.2.ends (turnL h s k M).1 M) else (E, s3, ({ k with lg := lg3 } : KvS).ends E M)) := hR.trans HC.out
  clear hR HC
  have HFULL : Hid (E = 4 → s3 = s ∧ lg3 = k.lg) := fun h => by rw [hs3, hlg3]; exact err_full (hE ▸ h)
  have hnx := HS.out.fits.log.next (d := d)
  rw [← hs3, ← hlg3] at hnx
  have HNX := Lib.hid hnx
  rw [← hM] at hba
  rw [← hd] at hbt
  have HBAT : Hid (∀ W, Below w.heap.size w W → Calls Tryz.prog 52 #[.slice A n c] W fun e w' => ∃ A' n' c', e = .returned (.slice A' n' c') ∧ MadeN 5 W d A' n' c' w') := fun W hW => by
    have h5 := batch_any A ps n c W HN.out (HP.out W (.of_below hW _)) hn9 (by rw [← hd]; exact hbt)
    rw [← hd] at h5
    exact h5
  have HAPP : Hid (∀ W, Below w.heap.size w W → ∀ A6 n6 c6, MadeN 5 w d A6 n6 c6 W → Calls Tryz.prog 51 #[.pointer (some ⟨b, 0, none⟩), .slice A6 n6 c6] W fun e w' => e = .returned (.int .i64 E) ∧ LMoved W g b F s3 lg3 w') := fun W hW A6 n6 c6 hm => by
    obtain ⟨hn, hm⟩ := hm
    obtain ⟨A2, c2, hv, hsn⟩ := hm.form
    injection hv with e1 e2 e3
    subst e1
    rw [hE, hs3, hlg3]
    exact append_any W g b F s k.lg A6 d n6 c6 m ⟨HS.out.disk.still hW, HS.out.log.below hW HS.out.log.lt, HS.out.nb, HS.out.fits.log⟩ hsn hn (by omega) hf (by omega)
  have HM := Lib.hid hM
  have HF := Lib.hid hf
  have HL := Lib.hid hl
  have HZ := Lib.hid hb
  have HBA := Lib.hid hba
  clear hM hd hE hs3 hlg3 hnx hf hl hb hba hbt
  go_enter Tryz.func15, Tryz.ntmps15
  go_wp2_with fail
  with_reducible refine HUP.out.mono ?_
  rintro e w0 ⟨rfl, hw1⟩
  obtain rfl := hw1.symm
  go_wp2_with fail
  with_reducible refine HANY2.out.mono ?_
  rintro e w1 ⟨rfl, hb1⟩
  have B1 := Lib.hid hb1
  have bd : Below w1.heap.size w1 w1.drew := (Below.refl _ _).drew
  have BD : Below w.heap.size w w1.drew := hop hb1 bd
  have HC1 : Hid (∀ W, Spared w1 W (fun x => F x ∨ x = b) → W.cell? ⟨q, 2, none⟩ = some (.pointer (some ⟨b, 0, none⟩))) := fun W hW => by
    have h5 := ((Spared.of_below B1.out (fun x => F x ∨ x = b)).trans hW (fun _ h => .inl h)).blk HS.out.box (fun h => h.elim HS.out.nq (fun e => HS.out.bq e.symm))
    exact h5.cell (i := 2) (by simp [psCells])
  have SD : Spared w1 w1.drew (fun x => F x ∨ x = b) := .of_below bd _
  clear hb1 HUP HANY2
  go_wp2_with fail
  go_region_held_law (fun W => W.cell? ⟨q, 2, none⟩ = some (.pointer (some ⟨b, 0, none⟩)))
    (first | exact HC1.out _ SD | exact HC1.out _ S6 | exact HC1.out _ S7)
    (first
      | (go_at_call 52; (with_reducible refine (HBAT.out _ BD).mono ?_); rintro e w6 ⟨A6, n6, c6, rfl, hm6⟩; have B16 := hop bd hm6.2.2; have B6 := hop BD hm6.2.2; have S6 : Spared w1 w6 (fun x => F x ∨ x = b) := .of_below B16 _; have M6 : Hid (MadeN 5 w d A6 n6 c6 w6) := ⟨hm6.1, hm6.2.since BD⟩; clear hm6)
      | (go_at_call 51; (with_reducible refine (HAPP.out _ B6 _ _ _ M6.out).mono ?_); rintro e w7 ⟨rfl, F7, hr7, hl7, hn7, hs7, hg7⟩; have S7 : Spared w1 w7 (fun x => F x ∨ x = b) := S6.trans hs7 (fun _ h => .inl h); have R7 := Lib.hid hr7; have L7 := Lib.hid hl7; have N7 := Lib.hid hn7; have HG7 : Hid (∀ x, F7 x → F x ∨ w6.heap.size ≤ x) := hg7; clear hr7 hl7 hn7 hs7 hg7))
  all_goals
    have hsp : Spared w w7 (fun x => F x ∨ x = b) := (Spared.of_below B1.out (fun x => F x ∨ x = b)).trans S7 (fun _ h => .inl h)
    have hG7 : ∀ x, F7 x → F x ∨ w.heap.size ≤ x := fun x hx => (HG7.out x hx).imp id (fun h => by have := B6.size; omega)
    have hT : ∀ x, (F x ∨ x = b) → T x := fun x hx => hx.elim (fun h => HS.out.ins x (.inl h)) (fun h => HS.out.ins x (.inr (.inl h)))
    have P7 : Hid (PTo w T q g b gt F h s3 { k with lg := lg3 } w7) := by
      refine PTo.make HS.out (hsp.mono (fun x hx => hx.elim .inl (fun h => .inr (.inl h)))) R7.out L7.out (hsp.blk HS.out.box (fun h => h.elim HS.out.nq (fun e => HS.out.bq e.symm))) ?_ (.inl rfl) (.inl rfl) hG7 N7.out (fun h => (hG7 _ h).elim HS.out.nt (fun h => by have := HS.out.tree.lt; omega)) HS.out.bt ⟨⟨HS.out.fits.half.pos, by rw [HNX.out.2.2]; exact HS.out.fits.half.fits⟩, HS.out.fits.two, HNX.out.1⟩ HNX.out.2.2
      refine HS.out.tree.moved (hsp.mono (fun x hx => ⟨hT x hx, fun e => ?_⟩)) (fun x hx => ?_) (.inr (.inr (.inr rfl)))
      · subst e
        exact hx.elim HS.out.nt (fun e => HS.out.bt e.symm)
      · rcases hx with hx | hx | hx | hx
        · exact .inl hx
        · exact (hG7 x hx).imp (fun h => hT x (.inl h)) id
        · exact .inl (HS.out.ins x (.inr (.inl hx)))
        · exact .inl (HS.out.ins x (.inr (.inr (.inr hx))))
    obtain ⟨T2, b2, gt2, F2, p2, m1, m2, m3, m4⟩ := P7.out
    have P2 := Lib.hid p2
    have M1 := Lib.hid m1
    have M2 := Lib.hid m2
    have M3 := Lib.hid m3
    have M4 := Lib.hid m4
    have HP7 : Hid (∀ W, Spared w7 W (fun x => F2 x ∨ x = b2 ∨ x = q ∨ x = gt2) → PutsSeen W A ps) := fun W hW => HP.out W (m1.trans hW (fun x hx => by
      rcases hx with hx | hx | hx | hx
      · exact (m4 x (.inl hx)).imp (fun h => h.elim .inl (fun h => h.elim (fun h => .inr (.inl h)) (fun h => .inr (.inr (.inr h))))) id
      · exact (m4 x (.inr (.inl hx))).imp (fun h => h.elim .inl (fun h => h.elim (fun h => .inr (.inl h)) (fun h => .inr (.inr (.inr h))))) id
      · exact .inl (.inr (.inr (.inl hx)))
      · exact (m4 x (.inr (.inr hx))).imp (fun h => h.elim .inl (fun h => h.elim (fun h => .inr (.inl h)) (fun h => .inr (.inr (.inr h))))) id))
    obtain ⟨x0, x1, x2, x3, x4⟩ := p2.cells w7 (Below.refl _ _)
    have z4 := p2.box.free 4
    clear hsp hG7 hT p2 m1 m2 m3 m4 P7 x0 x1 x2
    by_cases hE0 : E = 0
    · subst hE0
      have HRE : Hid (R = (0, s3, ({ k with lg := lg3 } : KvS).ends 0 M)) := by show _ = _; rw [HR.out]; exact if_neg (by decide)
      have HAP : Hid (Calls Tryz.prog 53 #[.pointer (some ⟨gt2, 0, none⟩), .slice A n c] w7 fun e w' => e = .returned (.tuple #[]) ∧ TreeAt w' T2 gt2 anyRoom (doAll (valsOf ps) k.L) ∧ Spared w7 w' (fun b => b = gt2)) :=
        apply_any w7 T2 P2.out.tlt gt2 k.L P2.out.tree A ps n c (fun W hW => HP7.out W (hW.mono (fun x hx => .inr (.inr (.inr hx))))) HN.out HL.out HZ.out
      rw [← HM.out] at HAP
      go_wp2_with fail
      with_reducible refine HAP.out.mono ?_
      rintro e w8 ⟨rfl, ht8, hs8⟩
      have P8 := Lib.hid (P2.out.applied hs8 ht8)
      have M8 : Hid (Spared w w8 (fun x => F x ∨ x = b ∨ x = q ∨ x = gt)) := M1.out.trans hs8 (fun x hx => (M4.out x (.inr (.inr hx))).imp (fun h => h.elim .inl (fun h => h.elim (fun h => .inr (.inl h)) (fun h => .inr (.inr (.inr h))))) id)
      have f4 := P8.out.box.free 4
      have g4 := (P8.out.cells w8 (Below.refl _ _)).2.2.2.2
      clear ht8 hs8 HAP x3 x4 z4
      go_wp2_with fail
      go_ret
      rw [HRE.out]
      exact ⟨rfl, T2, b2, gt2, F2, P8.out.upped (d := false) rfl, M8.out.trans (up_spared w8 q _) (fun x hx => .inl (.inr (.inr (.inl hx)))), M2.out, M3.out, M4.out⟩
    have e0 : (E == 0) = false := by rw [beq_eq_false_iff_ne]; exact hE0
    by_cases hE4 : E = 4
    · subst hE4
      obtain ⟨hs3, hlg3⟩ := HFULL.out rfl
      subst hs3 hlg3
      have HRE : Hid (R = ((turnL h s3 k M).1, (turnL h s3 k M).2.1, (turnL h s3 k M).2.2.ends (turnL h s3 k M).1 M)) := by show _ = _; rw [HR.out]; exact if_pos rfl
      have HTU : Hid (Calls Tryz.prog 54 #[.pointer (some ⟨q, 0, none⟩), .slice A n c] w7 fun e w' => e = .returned (.int .i64 (turnL h s3 k (doAll (valsOf ps) k.L)).1) ∧ PTo w7 T2 q g b2 gt2 F2 h (turnL h s3 k (doAll (valsOf ps) k.L)).2.1 (turnedK h s3 k (doAll (valsOf ps) k.L)) w') :=
        kturn_any w7 T2 q g b2 gt2 F2 h s3 k A ps n c m P2.out (fun W hW => HP7.out W (.of_below hW _)) HN.out HL.out HZ.out (by rw [← HM.out]; exact HBA.out) HF.out (by omega)
      rw [← HM.out] at HTU
      obtain ⟨E2, hE2⟩ : ∃ E2, E2 = (turnL h s3 k M).1 := ⟨_, rfl⟩
      rw [← hE2] at HTU HRE
      have HE2 := Lib.hid hE2
      obtain ⟨u, hu⟩ : ∃ u, u = decide (E2 = 5) := ⟨_, rfl⟩
      have hb5 : (E2 == 5) = u := by rw [hu]; rfl
      have HU := Lib.hid hu
      clear hE2 hu
      go_wp2_with fail
      with_reducible refine HTU.out.mono ?_
      rintro e w8 ⟨rfl, hp8⟩
      have P8 := Lib.hid (PTo.on M1.out M2.out M3.out M4.out hp8)
      obtain ⟨g4, f4⟩ := P8.out.cell4
      clear hp8 HTU x3 x4 z4
      go_wp2_with fail
      go_ret
      have P9 := P8.out.upped (d := u) (u := (E2 != 5)) (by show (!(E2 == 5)) = _; rw [hb5])
      rw [HU.out, HE2.out, turned_ends, ← HE2.out] at P9
      rw [HRE.out]
      exact ⟨rfl, P9⟩
    have e4 : (E == 4) = false := by rw [beq_eq_false_iff_ne]; exact hE4
    obtain ⟨u, hu⟩ : ∃ u, u = decide (E = 5) := ⟨_, rfl⟩
    have hb5 : (E == 5) = u := by rw [hu]; rfl
    have HU := Lib.hid hu
    have HRE : Hid (R = (E, s3, ({ k with lg := lg3 } : KvS).ends E M)) := by show _ = _; rw [HR.out]; exact if_neg hE4
    have HKE : Hid (({ k with lg := lg3 } : KvS).ends E M = { ({ k with lg := lg3 } : KvS) with down := u }) := by
      show _ = _
      rw [HU.out]
      unfold KvS.ends
      rw [if_neg hE0]
    have HP9 : Hid (PTo w T q g b gt F h s3 { k with lg := lg3 } w7) := ⟨T2, b2, gt2, F2, P2.out, M1.out, M2.out, M3.out, M4.out⟩
    clear hu hE0 hE4
    go_wp2_with fail
    go_ret
    rw [HRE.out]
    refine ⟨rfl, ?_⟩
    show PTo _ _ _ _ _ _ _ _ s3 (KvS.ends _ E M) _
    rw [HKE.out]
    exact HP9.out.upped (d := u) (by show (!(E == 5)) = _; rw [hb5])
end Go.Proofs.YtdaahapbpnjkfaaGreat
