/-
  A store on a disk that may lose its power at any call: what Open and Commit come to, with the document's pairs beside it. Conditions: at most 400 blocks; batches of at most 60 puts of at most 500 bytes a key and a value.
-/
import Derived.Test.YtdaahapbpnjkfaaGreatCKvDisk
import Derived.Test.YtdaahapbpnjkfaaGreatCKvAwake
namespace Go.Proofs.YtdaahapbpnjkfaaGreat
open Go.RowKit
def KUp (w0 w : World) (g q h : Nat) (s : Dsk) (k : KvS) (m : Nat) : Prop :=
  ∃ (T : Nat → Prop) (b gt : Nat) (F : Nat → Prop), PSt w T q g b gt F h s k ∧ s.Few m ∧ Below w0.heap.size w0 w ∧ ∀ x, T x → w0.heap.size ≤ x
def KDown (w0 w : World) (g q gm h : Nat) (s : Dsk) (k : KvS) (M : List Kv) (m : Nat) : Prop :=
  ∃ (T : Nat → Prop) (b gt : Nat) (F : Nat → Prop), PSt w T q g b gt F h s k ∧ s.Few m ∧ Below w0.heap.size w0 w ∧ (∀ x, T x → w0.heap.size ≤ x) ∧ MapAt w (fun x => T x ∨ x = gm) gm 1000000000 M ∧ w0.heap.size ≤ gm ∧ ¬ T gm
def CommitR (h : Nat) (L M : List Kv) (E : Int) (s' : Dsk) (k' : KvS) : Prop :=
  (E = 0 ∧ ∃ a gen ds, KvOn s' h a gen ds M ∧ k' = kvAt h a gen ds M) ∨ (E = 4 ∧ ∃ a gen ds, KvOn s' h a gen ds L ∧ k' = kvAt h a gen ds L) ∨ (E = 5 ∧ ∀ p, ∃ N, KHas (s'.crash p) h N ∧ (N = L ∨ N = M))
section
variable {w0 w w' : World} {g q gm h : Nat} {s : Dsk} {a : Nat} {gen : Int} {ds : List (List UInt8)} {L M : List Kv} {m : Nat} {k : KvS}
theorem KDown.below (d : KDown w0 w g q gm h s k M m) : Below w0.heap.size w0 w := by obtain ⟨T, b, gt, F, _, _, h3, _⟩ := d; exact h3
theorem KDown.disk (d : KDown w0 w g q gm h s k M m) : KDisk w0 w g gm gm s M M m := by
  obtain ⟨T, b, gt, F, h1, h2, h3, h4, h5, h6, h7⟩ := d
  refine ⟨F, fun x => T x ∨ x = gm, h1.disk, fun x hx => .inl (h1.ins x (.inl hx)), fun x hx => ?_, h5, h5, fun hx => h7 (h1.ins _ (.inl hx)), fun hx => h7 (h1.ins _ (.inl hx)), h2, h3⟩
  rcases hx with hx | rfl
  · exact ⟨h1.tlt x hx, h4 x hx⟩
  · exact ⟨h5.lt, h6⟩
theorem KDown.still (d : KDown w0 w g q gm h s k M m) (hb : Below w.heap.size w w') : KDown w0 w' g q gm h s k M m := by
  obtain ⟨T, b, gt, F, h1, h2, h3, h4, h5, h6, h7⟩ := d
  exact ⟨T, b, gt, F, h1.below hb, h2, hop h3 hb, h4, h5.below hb, h6, h7⟩
theorem KUp.empty (k' : KUp w0 w g q h s k m) : KDown w0 (w.alloc (.cells #[.int .i64 1000000000, .slice none 0 0] 119)) g q w.heap.size h s k [] m := by
  obtain ⟨T, b, gt, F, k1, k4, k5, k6⟩ := k'
  have hb : Below w.heap.size w (w.alloc (.cells #[.int .i64 1000000000, .slice none 0 0] 119)) := (Below.refl _ _).alloc (Nat.le_refl _) _
  exact ⟨T, b, gt, F, k1.below hb, k4, hop k5 hb, k6, empty_map w _ (.inr rfl), k5.size, fun hx => by have := k1.tlt _ hx; omega⟩
theorem KDown.do_ (d : KDown w0 w g q gm h s k M m) {A : Option Addr} {ps : List PPut} {n c : Nat} (hp : PutsSeen w0 A ps) (hn : ps.length = n) (hf : FewV (valsOf ps)) (h1 : M.length ≤ 30000) (h2 : sizeT M ≤ 30000) :
    Calls Tryz.prog 28 #[.pointer (some ⟨gm, 0, none⟩), .slice A n c] w fun e w' => ∃ gc, e = .returned (.pointer (some ⟨gc, 0, none⟩)) ∧ KDown w0 w' g q gc h s k (doAll (valsOf ps) M) m ∧ KDisk w0 w' g gm gc s M (doAll (valsOf ps) M) m ∧ Below w.heap.size w w' := by
  obtain ⟨T, b, gt, F, k1, k4, k5, k6, k7, k8, k9⟩ := d
  have hn60 := hf.1
  rw [valsOf_length, hn] at hn60
  have hsz := hf.size
  refine (rdo_any w (fun x => T x ∨ x = gm) (fun x hx => by
    rcases hx with hx | hx
    · exact k1.tlt x hx
    · rw [hx]; exact k7.lt) gm 1000000000 M k7 A ps n c (hp.below k5) hn (by omega) (by omega) (by omega)).mono ?_
  rintro e w' ⟨hb, gc, rfl, g1, g2, hm⟩
  have h5 := k5.size
  have hz := hb.size
  have hT : ¬ T gc := fun hx => by have := k1.tlt gc hx; omega
  refine ⟨gc, rfl, ⟨T, b, gt, F, k1.below hb, k4, hop k5 hb, k6, hm.moved (.refl _ _) (fun x hx => ?_) (.inr rfl), by omega, hT⟩, ⟨F, fun x => (T x ∨ x = gm) ∨ x = gc, (k1.below hb).disk, fun x hx => .inl (.inl (k1.ins x (.inl hx))), fun x hx => ?_, ?_, ?_, fun hx => k9 (k1.ins _ (.inl hx)), fun hx => hT (k1.ins _ (.inl hx)), k4, hop k5 hb⟩, hb⟩
  · rcases hx with hx | hx
    · exact .inl (.inl (.inl hx))
    · exact .inl (.inr hx)
  · have hl := hm.lt
    have hl2 := k7.lt
    rcases hx with (hx | rfl) | rfl
    · have := k1.tlt x hx; have := k6 x hx; omega
    · omega
    · omega
  · exact k7.moved (.of_below hb _) (fun x hx => hx.imp id (fun e => by omega)) (.inl (.inr rfl))
  · exact hm.moved (.refl _ _) (fun x hx => .inl hx) (.inr rfl)
theorem commit_len (k : KvOn s h a gen ds L) (l : List PutV) : (commitL h s (kvAt h a gen ds L) l).2.1.K.length = s.K.length := by
  have f : (kvAt h a gen ds L).Fits h s := ⟨k.half, k.two, k.has.fits k.half.pos⟩
  unfold commitL
  split
  · rfl
  · split
    · rfl
    · split
      · rfl
      · split
        · exact (turn_fits f).2.2
        · exact (f.log.next (d := batchL l)).2.2
theorem commit_r (k : KvOn s h a gen ds L) {l : List PutV} (hl : FewV l) (t : Tame L l) :
    CommitR h L (doAll l L) (commitL h s (kvAt h a gen ds L) l).1 (commitL h s (kvAt h a gen ds L) l).2.1 (commitL h s (kvAt h a gen ds L) l).2.2 := by
  by_cases h0 : l = []
  · subst h0
    rw [commit_none (h := h) (s := s) (k := kvAt h a gen ds L) rfl]
    exact .inl ⟨rfl, a, gen, ds, k, rfl⟩
  · rcases commit_to k hl.may h0 t.mild with ⟨e, a', g', ds', h1, h2, _⟩ | ⟨e, h1, h2⟩ | ⟨e, _, _, h1⟩
    · exact .inl ⟨e, a', g', ds', h1, h2⟩
    · exact .inr (.inl ⟨e, a, gen, ds, by rw [h1]; exact k, h2⟩)
    · refine .inr (.inr ⟨e, fun p => ?_⟩)
      obtain ⟨a', g', ds', N, h2, h3⟩ := h1 p
      exact ⟨N, .inr ⟨a', g', ds', h2⟩, h3⟩
theorem on_small (k : KvOn s h a gen ds L) (hK : s.K.length ≤ 400) : L.length ≤ 30000 ∧ sizeT L ≤ 30000 := by
  have h1 := k.small
  have h2 := k.half.fits
  omega
theorem KDown.commit (d : KDown w0 w g q gm h s (kvAt h a gen ds L) L m) (on : KvOn s h a gen ds L) (hK : s.K.length ≤ 400) (hm : m ≤ 690000) {A : Option Addr} {ps : List PPut} {n c : Nat} (hp : PutsSeen w0 A ps) (hn : ps.length = n) (hf : FewV (valsOf ps)) :
    Calls Tryz.prog 15 #[.pointer (some ⟨q, 0, none⟩), .slice A n c] w fun e w' => ∃ E s' k', e = .returned (.int .i64 E) ∧ KDown w0 w' g q gm h s' k' L (m + 1100) ∧ s'.K.length = s.K.length ∧ CommitR h L (doAll (valsOf ps) L) E s' k' := by
  have hsm := on_small on hK
  obtain ⟨T, b, gt, F, h1, h4, h5, h6, h7, h8, h9⟩ := d
  have t := tame on.srt hsm.1 hsm.2 hf
  have hn60 := hf.1
  rw [valsOf_length, hn] at hn60
  have tl := t.len
  rw [valsOf_length, hn] at tl
  have hcr := commit_r on hf t
  have hcl := commit_len on (valsOf ps)
  have hfew := commit_few h1.fits h1.disk.ok h4 t.bat
  have hFT : ∀ x, (F x ∨ x = b ∨ x = q ∨ x = gt) → T x := fun x hx => h1.ins x hx
  refine (kcommit_any w T q g b gt F h s (kvAt h a gen ds L) A ps n c m h1 (fun W hW => hp.below (hW.below h5 (fun x hx => h6 x (hFT x hx)))) hn (by omega) h4 hm tl (by have := t.size; show sizeT L + _ ≤ _; omega) t.bat t.all).mono ?_
  rintro e w' ⟨rfl, T', b', gt', F', p', m1, m2, m3, m4⟩
  change PSt w' T' q g b' gt' F' h (commitL h s (kvAt h a gen ds L) (valsOf ps)).2.1 (commitL h s (kvAt h a gen ds L) (valsOf ps)).2.2 at p'
  have hsz := h5.size
  have hT' : ∀ x, T' x → w0.heap.size ≤ x := fun x hx => (m3 x hx).elim (h6 x) (fun h => by omega)
  have hbl : Below w0.heap.size w0 w' := m1.below h5 (fun x hx => h6 x (hFT x hx))
  refine ⟨_, _, _, rfl, ⟨T', b', gt', F', p', hfew, hbl, hT', ?_, h8, fun hx => (m3 gm hx).elim h9 (fun h => by have := h7.lt; omega)⟩, hcl, hcr⟩
  exact h7.moved (m1.mono (fun x hx => ⟨.inl (hFT x hx), fun e => h9 (e ▸ hFT x hx)⟩)) (fun x hx => by
    rcases hx with hx | hx
    · exact (m3 x hx).imp .inl id
    · exact .inl (.inr hx)) (.inr rfl)
theorem kopen_arm {F : Nat → Prop} {n : Nat} {z : Int} (hd : DiskAt w g F ((Dsk.new n).arm z)) (hz : z ≤ 9223372036854775807) (h2 : 2 ≤ n) (h4 : n ≤ 400) (hb : Below w0.heap.size w0 w) (hF : ∀ k, F k → w0.heap.size ≤ k) :
    Calls Tryz.prog 13 #[.pointer (some ⟨g, 0, none⟩)] w fun e w' => ∃ s', s'.K.length = n ∧
      ((∃ q a gen ds, e = .returned (.tuple #[.pointer (some ⟨q, 0, none⟩), .int .i64 0]) ∧ KUp w0 w' g q (n / 2) s' (kvAt (n / 2) a gen ds []) 1100 ∧ KvOn s' (n / 2) a gen ds []) ∨
       (e = .returned (.tuple #[.pointer none, .int .i64 5]) ∧ KDisk w0 (w'.alloc (.cells #[.int .i64 1000000000, .slice none 0 0] 119)) g w'.heap.size w'.heap.size s' [] [] 1100 ∧ ∀ p, KHas (s'.crash p) (n / 2) [])) := by
  have hl : ((Dsk.new n).arm z).K.length = n := by rw [(arm_same _ z).1]; exact List.length_replicate
  have hno := (new_no h2 (by omega)).arm z
  have hfw := (Dsk.Few.new n).arm z hz
  obtain ⟨o1, o2, o3, o4⟩ := KHas.open_ (L := []) (.inl ⟨hno, rfl⟩) hd.ok hfw
  refine (kopen_any w F hd.lt g F (fun x hx => hx) ((Dsk.new n).arm z) (n / 2) 0 hd (by rw [hl]) (by omega) hfw (by omega)).mono ?_
  have hsz := hb.size
  rintro e w' (⟨n1, rfl, F', n3, n4, n5⟩ | ⟨k', T', q', b', gt', F', n1, rfl, n3, n4, n5, n6, n7, n8, n9, n10, n11⟩)
  · rcases o1 with ⟨_, a, gen, ds, e2, _⟩ | ⟨e1, _⟩
    · rw [n1] at e2; cases e2
    · refine ⟨_, by rw [o4, hl], .inr ⟨by rw [e1], ?_, o2⟩⟩
      have hb' := n4.below hb hF
      have hba : Below w'.heap.size w' (w'.alloc (.cells #[.int .i64 1000000000, .slice none 0 0] 119)) := (Below.refl _ _).alloc (Nat.le_refl _) _
      have hem := empty_map w' (fun x => F' x ∨ x = w'.heap.size) (.inr rfl)
      have hlt := hem.lt
      have hbs := hb'.size
      have hnF : ¬ F' w'.heap.size := fun hx => by have := n3.lt _ hx; omega
      refine ⟨F', fun x => F' x ∨ x = w'.heap.size, n3.still hba, fun x hx => .inl hx, fun x hx => ?_, hem, hem, hnF, hnF, o3, hop hb' hba⟩
      rcases hx with hx | rfl
      · have h1 := n3.lt x hx
        have h2 := hba.size
        refine ⟨by omega, (n5 x hx).elim (hF x) (fun h => by omega)⟩
      · exact ⟨hlt, hbs⟩
  · rcases o1 with ⟨e1, a, gen, ds, e2, e3⟩ | ⟨_, e2⟩
    · rw [n1] at e2
      injection e2 with e2
      subst e2
      exact ⟨_, by rw [o4, hl], .inl ⟨q', a, gen, ds, by rw [e1], ⟨T', b', gt', F', n3, o3, n4.below hb hF, fun x hx => (n7 x hx).elim (hF x) (fun h => by omega)⟩, e3⟩⟩
    · rw [n1] at e2; cases e2
end
end Go.Proofs.YtdaahapbpnjkfaaGreat
