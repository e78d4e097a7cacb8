/-
  A disk that may lose its power, with two of the document's maps beside it: what Arm, Crash and Open of a store make of it. Conditions: at most 400 blocks; at most 690,000 calls.
-/
import Derived.Test.YtdaahapbpnjkfaaGreatCKvAwake
import Derived.Test.YtdaahapbpnjkfaaGreatCDkCrash
import Derived.Test.YtdaahapbpnjkfaaGreatCRefF
namespace Go.Proofs.YtdaahapbpnjkfaaGreat
open Go.RowKit
def KDisk (w0 w : World) (g gm gn : Nat) (s : Dsk) (M N : List Kv) (m : Nat) : Prop :=
  ∃ F U : Nat → Prop, DiskAt w g F s ∧ (∀ x, F x → U x) ∧ (∀ x, U x → x < w.heap.size ∧ w0.heap.size ≤ x) ∧ MapAt w U gm 1000000000 M ∧ MapAt w U gn 1000000000 N ∧ ¬ F gm ∧ ¬ F gn ∧ s.Few m ∧ Below w0.heap.size w0 w
def KHas (s : Dsk) (h : Nat) (L : List Kv) : Prop := (KvNo s h ∧ L = []) ∨ ∃ a gen ds, KvOn s h a gen ds L
structure KIdle (s : Dsk) (h : Nat) (L : List Kv) : Prop where
  has : KHas s h L
  half : h = s.K.length / 2
  len : s.K.length ≤ 400
theorem KHas.crash {s : Dsk} {h : Nat} {L : List Kv} (k : KHas s h L) (p : Nat → Bool) : KHas (s.crash p) h L := by
  rcases k with ⟨k, e⟩ | ⟨a, gen, ds, k⟩
  · exact .inl ⟨k.crash p, e⟩
  · exact .inr ⟨a, gen, ds, k.crash p⟩
theorem KHas.arm {s : Dsk} {h : Nat} {L : List Kv} (k : KHas s h L) (z : Int) : KHas (s.arm z) h L := by
  rcases k with ⟨k, e⟩ | ⟨a, gen, ds, k⟩
  · exact .inl ⟨k.arm z, e⟩
  · exact .inr ⟨a, gen, ds, k.arm z⟩
theorem KHas.small {s : Dsk} {h : Nat} {L : List Kv} (k : KHas s h L) : L.length ≤ h * 64 := by
  rcases k with ⟨_, e⟩ | ⟨a, gen, ds, k⟩
  · rw [e]; exact Nat.zero_le _
  · exact k.small.1
theorem KHas.half_ {s : Dsk} {h : Nat} {L : List Kv} (k : KHas s h L) : Halves s h := by
  rcases k with ⟨k, _⟩ | ⟨a, gen, ds, k⟩
  · exact k.half
  · exact k.half
theorem KHas.open_ {s : Dsk} {h m : Nat} {L : List Kv} (k : KHas s h L) (ok : s.Ok) (hf : s.Few m) :
    ((openK h s).1 = 0 ∧ (∃ a gen ds, (openK h s).2.2 = some (kvAt h a gen ds L) ∧ KvOn (openK h s).2.1 h a gen ds L) ∨ (openK h s).1 = 5 ∧ (openK h s).2.2 = none) ∧ (∀ p, KHas ((openK h s).2.1.crash p) h L) ∧ (openK h s).2.1.Few (m + 1100) ∧ (openK h s).2.1.K.length = s.K.length := by
  have hpos := k.half_.pos
  by_cases ho : s.off = true
  · rw [open_off hpos ho]
    exact ⟨.inr ⟨rfl, rfl⟩, fun p => k.crash p, hf.mono (by omega), rfl⟩
  have ho : s.off = false := by simpa using ho
  rcases k with ⟨k, rfl⟩ | ⟨a, gen, ds, k⟩
  · have hfit : (Lg.new 0 h 1).Fits s := ⟨k.half.pos, by have := k.half.fits; show 0 + h ≤ _; omega, Nat.zero_le _, Nat.le_refl _, Int.le_refl _, by show (1 : Int) ≤ _; decide⟩
    have e : openK h s = ((Lg.new 0 h 1).err s (batchL []), (Lg.new 0 h 1).dsk s (batchL []), if (Lg.new 0 h 1).err s (batchL []) = 0 then some ⟨0, (Lg.new 0 h 1).next s (batchL []), [], false⟩ else none) := by
      unfold openK
      rw [if_neg (by omega), if_neg (by rw [ho]; decide), k.pick]
    have hc := (Lg.new 0 h 1).code_fits (batchL [])
    have hfew : (openK h s).2.1.Few (m + 1100) := by rw [e]; exact (Lg.few hfit ok hf).mono (by omega)
    have hlen : (openK h s).2.1.K.length = s.K.length := by rw [e]; exact (hfit.next (d := batchL [])).2.2
    rcases k.open_ ho with ⟨h1, ds, h2, h3, _⟩ | ⟨h1, h2, _, h3⟩
    · exact ⟨.inl ⟨h1, 0, 1, ds, h3, h2⟩, fun p => .inr ⟨_, _, _, h2.crash p⟩, hfew, hlen⟩
    · refine ⟨.inr ⟨h1, h2⟩, fun p => ?_, hfew, hlen⟩
      rcases h3 p with h | ⟨ds, h⟩
      · exact .inl ⟨h, rfl⟩
      · exact .inr ⟨_, _, _, h⟩
  · rw [k.open_ ho]
    exact ⟨.inl ⟨rfl, a, gen, ds, rfl, k⟩, fun p => .inr ⟨a, gen, ds, k.crash p⟩, hf.mono (by omega), rfl⟩
section
variable {w0 w w' : World} {g gm gn : Nat} {s s' : Dsk} {M N : List Kv} {m : Nat}
theorem KDisk.below (k : KDisk w0 w g gm gn s M N m) : Below w0.heap.size w0 w := by obtain ⟨_, _, _, _, _, _, _, _, _, _, h⟩ := k; exact h
theorem KDisk.few (k : KDisk w0 w g gm gn s M N m) : s.Few m := by obtain ⟨_, _, _, _, _, _, _, _, _, h, _⟩ := k; exact h
theorem KDisk.ok (k : KDisk w0 w g gm gn s M N m) : s.Ok := by obtain ⟨_, _, h, _⟩ := k; exact h.ok
theorem KDisk.mono {n : Nat} (k : KDisk w0 w g gm gn s M N m) (hn : m ≤ n) : KDisk w0 w g gm gn s M N n := by
  obtain ⟨F, U, h1, h2, h3, h4, h5, h6, h7, h8, h9⟩ := k
  exact ⟨F, U, h1, h2, h3, h4, h5, h6, h7, h8.mono hn, h9⟩
theorem kdisk_moved {F F' U : Nat → Prop} {n : Nat} (h2 : ∀ x, F x → U x) (h3 : ∀ x, U x → x < w.heap.size ∧ w0.heap.size ≤ x) (h4 : MapAt w U gm 1000000000 M) (h5 : MapAt w U gn 1000000000 N) (h6 : ¬ F gm) (h7 : ¬ F gn) (h9 : Below w0.heap.size w0 w)
    (hd : DiskAt w' g F' s') (hs : Spared w w' F) (hF : ∀ x, F' x → F x ∨ w.heap.size ≤ x) (hf : s'.Few n) : KDisk w0 w' g gm gn s' M N n := by
  have hz := hs.size
  have hz0 := h9.size
  have lm := h4.lt
  have ln := h5.lt
  refine ⟨F', fun x => U x ∨ F' x, hd, fun x hx => .inr hx, fun x hx => ?_, ?_, ?_, fun hx => (hF gm hx).elim h6 (fun h => by omega), fun hx => (hF gn hx).elim h7 (fun h => by omega), hf, hs.below h9 (fun x hx => (h3 x (h2 x hx)).2)⟩
  · rcases hx with hx | hx
    · have := h3 x hx; omega
    · refine ⟨hd.lt x hx, ?_⟩
      rcases hF x hx with h | h
      · exact (h3 x (h2 x h)).2
      · omega
  · exact h4.moved (hs.mono (fun x hx => ⟨h2 x hx, fun e => h6 (e ▸ hx)⟩)) (fun x hx => hx.elim .inl (fun h => (hF x h).imp (h2 x) id)) (.inl h4.1)
  · exact h5.moved (hs.mono (fun x hx => ⟨h2 x hx, fun e => h7 (e ▸ hx)⟩)) (fun x hx => hx.elim .inl (fun h => (hF x h).imp (h2 x) id)) (.inl h5.1)
theorem KDisk.arm (k : KDisk w0 w g gm gn s M N m) {z : Int} (hz : z ≤ 9223372036854775807) :
    Calls Tryz.prog 17 #[.pointer (some ⟨g, 0, none⟩), .int .i64 z] w fun e w' => e = .returned (.tuple #[]) ∧ KDisk w0 w' g gm gn (s.arm z) M N m := by
  obtain ⟨F, U, h1, h2, h3, h4, h5, h6, h7, h8, h9⟩ := k
  refine (arm_any w g F s z h1).mono ?_
  rintro e w' ⟨he, F', m1, m2, m3⟩
  exact ⟨he, kdisk_moved h2 h3 h4 h5 h6 h7 h9 m1 m2 m3 (h8.arm z hz)⟩
theorem KDisk.crash (k : KDisk w0 w g gm gn s M N m) {A : Option Addr} {p : List Int} {n c : Nat} (hp : Ints w0 A p) (hn : p.length = n) (hl : n ≤ 9223372036854775807) (hb : ∀ x ∈ p, -9223372036854775808 ≤ x ∧ x ≤ 9223372036854775807) :
    Calls Tryz.prog 19 #[.pointer (some ⟨g, 0, none⟩), .slice A n c] w fun e w' => e = .returned (.tuple #[]) ∧ KDisk w0 w' g gm gn (s.crash (pickOf p)) M N m := by
  subst hn
  obtain ⟨F, U, h1, h2, h3, h4, h5, h6, h7, h8, h9⟩ := k
  refine (crash_any w g F s h1 A p c (hp.away h9 (fun x hx => (h3 x (h2 x hx)).2)) hb hl).mono ?_
  rintro e w' ⟨he, F', m1, m2, m3⟩
  exact ⟨he, kdisk_moved h2 h3 h4 h5 h6 h7 h9 m1 m2 m3 (h8.crash (pickOf p))⟩
def KOut (w0 : World) (g gm gn h : Nat) (s : Dsk) (M N L : List Kv) (m : Nat) (e : Ending) (w' : World) : Prop :=
  ∃ s', KDisk w0 w' g gm gn s' M N (m + 1100) ∧ (∀ p, KHas (s'.crash p) h L) ∧ s'.K.length = s.K.length ∧
    ((∃ q T b gt F k, e = .returned (.tuple #[.pointer (some ⟨q, 0, none⟩), .int .i64 0]) ∧ PSt w' T q g b gt F h s' k ∧ k.L = L ∧ ∃ U V, MapAt w' U gm 1000000000 M ∧ MapAt w' V gn 1000000000 N) ∨ (e = .returned (.tuple #[.pointer none, .int .i64 5]) ∧ s.off = true ∨ e = .returned (.tuple #[.pointer none, .int .i64 5]) ∧ ¬ s.Quiet))
theorem KDisk.open_ {h : Nat} {L : List Kv} (k : KDisk w0 w g gm gn s M N m) (hk : KHas s h L) (hh : h = s.K.length / 2) (hK : s.K.length ≤ 400) (hm : m ≤ 690000) :
    Calls Tryz.prog 13 #[.pointer (some ⟨g, 0, none⟩)] w (KOut w0 g gm gn h s M N L m) := by
  obtain ⟨F, U, h1, h2, h3, h4, h5, h6, h7, h8, h9⟩ := k
  obtain ⟨o1, o2, o3, o4⟩ := hk.open_ h1.ok h8
  refine (kopen_any w U (fun x hx => (h3 x hx).1) g F h2 s h m h1 hh (by omega) h8 (by omega)).mono ?_
  rintro e w' (⟨n1, rfl, F', n3, n4, n5⟩ | ⟨k', T', q', b', gt', F', n1, rfl, n3, n4, n5, n6, n7, n8, n9, n10, n11⟩)
  · have hkd := kdisk_moved (n := m + 1100) h2 h3 h4 h5 h6 h7 h9 n3 n4 n5 o3
    rcases o1 with ⟨_, a, gen, ds, e2, _⟩ | ⟨e1, _⟩
    · rw [n1] at e2; cases e2
    · refine ⟨_, hkd, o2, o4, .inr ?_⟩
      rw [e1]
      by_cases ho : s.off = true
      · exact .inl ⟨rfl, ho⟩
      · refine .inr ⟨rfl, fun hq => ?_⟩
        rcases hk with ⟨k1, rfl⟩ | ⟨a, gen, ds, k1⟩
        · have := (k1.open_q (n := m) hq).1
          rw [e1] at this
          cases this
        · rw [k1.open_ hq.1] at e1
          cases e1
  · have hkd := kdisk_moved (n := m + 1100) h2 h3 h4 h5 h6 h7 h9 n3.disk n4 n5 o3
    have hmm := hkd
    obtain ⟨_, U', _, _, _, v4, v5, _⟩ := hmm
    rcases o1 with ⟨e1, a, gen, ds, e2, _⟩ | ⟨_, e2⟩
    · rw [n1] at e2
      injection e2 with e2
      refine ⟨_, hkd, o2, o4, .inl ⟨q', T', b', gt', F', k', by rw [e1], n3, by rw [e2]; rfl, U', U', v4, v5⟩⟩
    · rw [n1] at e2; cases e2
end
end Go.Proofs.YtdaahapbpnjkfaaGreat
