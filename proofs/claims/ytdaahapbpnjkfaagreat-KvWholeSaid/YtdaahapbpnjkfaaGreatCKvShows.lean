/-
  Are the pairs of a store the document's? (shows) Condition: at most 99,999 pairs.
-/
import Derived.Test.YtdaahapbpnjkfaaGreatCKpS
import Derived.Test.YtdaahapbpnjkfaaGreatCKvAwake
import Derived.Test.YtdaahapbpnjkfaaGreatCRefF
import Derived.Deep.RegionHeldLaw
import Derived.Deep.RegionWith
namespace Go.Proofs.YtdaahapbpnjkfaaGreat
open Go.RowKit
set_option maxRecDepth 100000 in
set_option maxHeartbeats 2000000 in
theorem shows_any {w : World} {T U : Nat → Prop} {q g b gt gm : Nat} {F : Nat → Prop} {h : Nat} {s : Dsk} {k : KvS} {room : Int} {M : List Kv} (p : PSt w T q g b gt F h s k) (hm : MapAt w U gm room M) (hl : k.L.length ≤ 99999) :
    Calls Tryz.prog 30 #[.pointer (some ⟨q, 0, none⟩), .pointer (some ⟨gm, 0, none⟩)] w fun e w' => e = .returned (.bool (decide (k.L = M))) ∧ Below w.heap.size w w' := by
  obtain ⟨A, c, els, he, hel, hbl, hcl, hlc, hao, hn9⟩ := map_els hm
  have hkv := kv_of hcl hao
  rw [he] at hkv
  have bd : Below w.heap.size w w.drew := (Below.refl _ _).drew
  have hscan : scanT [] [] 100000 k.L = k.L := scan_all _ k.L (by omega) (by decide)
  have HSC := Lib.hid (kscan_any (p.below bd) (R := none) (E := none) (fr := []) (tt := []) (r := 0) (rc := 0) (m := 0) (d := 0) (mo := 100000) (.inl rfl) rfl (.inl rfl) rfl (by omega))
  rw [hscan] at HSC
  obtain ⟨n, hn⟩ : ∃ n, n = M.length := ⟨_, rfl⟩
  rw [← hn] at hbl
  have HLN : Hid (∀ W, Below w.heap.size w W → Calls Tryz.prog 38 #[.pointer (some ⟨q, 0, none⟩)] W fun e w' => e = .returned (.int .i64 (k.L.length : Int)) ∧ w' = W) := fun W hW => klen_any (p.below hW)
  have HC : Hid (∀ W, Below w.heap.size w W → W.cell? ⟨gm, 1, none⟩ = some (.slice A n c)) := fun W hW => (hbl.below hW hbl.lt).cell (i := 1) (by simp)
  obtain ⟨v, hv⟩ : ∃ v, v = decide (k.L = M) := ⟨_, rfl⟩
  rw [← hv]
  have HV := Lib.hid hv
  have hML : M.length ≤ 1000000 := by rw [← he, List.length_map, hel]; omega
  have HPA : Hid (∀ W, Below w.heap.size w W → ∀ X m d, KvSeen W X k.L → k.L.length = m → Calls Tryz.prog 33 #[.slice X m d, .slice A n c] W fun e w' => e = .returned (.bool v) ∧ Below W.heap.size W w') := fun W hW X m d hx hxl => by
    rw [hv]
    exact kvpairs_any W X A k.L M m n d c hxl hn.symm (by omega) (by omega) hx (hkv.below hW)
  have HN := Lib.hid hn
  obtain ⟨z, hz⟩ : ∃ z, z = k.L.length := ⟨_, rfl⟩
  rw [← hz] at HLN
  have HZ := Lib.hid hz
  clear he hel hbl hcl hlc hao hn9 hkv hscan hn hv hm p hl hML hz
  have y1 := HC.out _ bd
  go_enter Tryz.func30, Tryz.ntmps30
  cases v
  · go_wp2_with fail
    first
    | go_region_with (first
        | (go_at_call 32; (with_reducible refine HSC.out.mono ?_); rintro e w6 ⟨hb6, X, m, d, rfl, hx6, hl6⟩; have B6 := hop bd hb6; have X6 := Lib.hid hx6; have L6 := Lib.hid hl6; have y6 := HC.out _ B6; clear hb6 hx6 hl6)
        | (go_at_call 33; (with_reducible refine (HPA.out _ B6 _ _ _ X6.out L6.out).mono ?_); rintro e w7 ⟨rfl, hb7⟩; have B7 := hop B6 hb7; have y7 := HC.out _ B7; clear hb7))
    | fail
    all_goals
      go_wp2_with fail
      go_ret
      exact ⟨rfl, B7⟩
  · have hzn : z = n := by
      have : k.L = M := of_decide_eq_true HV.out.symm
      rw [HZ.out, HN.out, this]
    subst hzn
    go_wp2_with fail
    go_region_held_law (fun W => W.cell? ⟨gm, 1, none⟩ = some (.slice A z c))
      (first | exact y1 | exact HC.out _ B6 | exact HC.out _ B7)
      (first
        | (go_at_call 32; (with_reducible refine HSC.out.mono ?_); rintro e w6 ⟨hb6, X, m, d, rfl, hx6, hl6⟩; have B6 := hop bd hb6; have X6 := Lib.hid hx6; have L6 := Lib.hid hl6; clear hb6 hx6 hl6)
        | (go_at_call 33; (with_reducible refine (HPA.out _ B6 _ _ _ X6.out L6.out).mono ?_); rintro e w7 ⟨rfl, hb7⟩; have B7 := hop B6 hb7; clear hb7)
        | (go_at_call 38; (with_reducible refine (HLN.out _ B7).mono ?_); rintro e w8 ⟨rfl, hw8⟩; obtain rfl := hw8.symm))
    all_goals
      go_wp2_with fail
      go_ret
      exact ⟨rfl, B7⟩
end Go.Proofs.YtdaahapbpnjkfaaGreat
