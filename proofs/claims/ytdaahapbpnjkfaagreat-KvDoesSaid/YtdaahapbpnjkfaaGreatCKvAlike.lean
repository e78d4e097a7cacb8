/-
What alike tells of a store and the document's: the same. Conditions: at most 100,000 pairs; keys of at most 1,000 bytes asked for.
-/
import Derived.Test.YtdaahapbpnjkfaaGreatCRefBegins
import Derived.Test.YtdaahapbpnjkfaaGreatCBehind
import Derived.Deep.QuietTactic
import Derived.BigQuiet
namespace Go.Proofs.YtdaahapbpnjkfaaGreat
open Go.RowKit
theorem pre_scan (p:Key) (mo:Int) (L:List Kv) (hs:Srt L):preL p mo L=scanT p (behindL p) mo L:=by
 rw [scan_doc p (behindL p) mo L hs]
 unfold preL
 congr 1
 refine List.filter_congr fun x _=> ?_
 show decide (p <+: x.1)=(upTo (behindL p) x&& !ltK x.1 p)
 rw [Bool.eq_iff_iff,decide_eq_true_eq,between p x.1,Bool.and_eq_true]
 unfold upTo ltK
 constructor
 · rintro ⟨h1,h2⟩
   refine ⟨?_,by rw [h1];rfl⟩
   rcases h2 with h2 | h2<;>simp [h2]
 · rintro ⟨h1,h2⟩
   refine ⟨by simpa using h2,?_⟩
   simpa [or_comm] using h1
theorem kprefix_any {w:World} {T:Nat->Prop} {q g b gt:Nat} {F:Nat->Prop} {h:Nat} {s:Dsk} {k:KvS} (P:PSt w T q g b gt F h s k) {B:Option Addr} {p:Key} {z d:Nat} {mo:Int} (hp:Seen w B p) (hz:p.length=z) (hd:z<=d) (h47:z<=140737488355328):
 Calls Tryz.prog 35 #[.pointer (some ⟨q,0,none⟩),.slice B z d,.int .i64 mo] w (KScan w (scanT p (behindL p) mo k.L)):=by
 have K:=Lib.hid P
 have HP:=Lib.hid hp
 have HZ:=Lib.hid hz
 have HB:Hid (Calls Tryz.prog 36 #[.slice B z d] w fun e w'=>BehindOut w p e w'):=by
  subst hz
  exact behind_any B p d w hp hd h47
 clear P hp hz
 go_enter Tryz.func35,Tryz.ntmps35
 go_wp2_with fail
 with_reducible refine HB.out.mono ?_
 rintro e w1 ⟨A1,n1,c1,rfl,hn1,hs1,hb1⟩
 have hbl:(behindL p).length<=z:=by
  rw [<-HZ.out]
  rcases behind_form p with ⟨_,_,h⟩ | ⟨q,c,m,_,h2,h3⟩
  · rw [h];exact Nat.zero_le _
  · rw [h3,h2];simp
 have B1:=Lib.hid hb1
 have HSC:=Lib.hid (kscan_any (K.out.below hb1) (rc:=d) (d:=c1) (mo:=mo) (HP.out.below hb1) HZ.out hs1 hn1 (by omega))
 generalize k.L=L at *
 clear hn1 hs1 hb1 hbl HB
 go_wp2_with fail
 with_reducible refine HSC.out.mono ?_
 rintro e w2 ⟨hb2,X,n,c,rfl,hx,hn⟩
 have HX:Hid (Below w.heap.size w w2/\KvSeen w2 X (scanT p (behindL p) mo L)/\(scanT p (behindL p) mo L).length=n):=⟨hop B1.out hb2,hx,hn⟩
 clear hb2 hx hn HSC
 go_wp2_with fail
 go_ret
 exact ⟨HX.out.1,X,n,c,rfl,HX.out.2⟩
set_option maxRecDepth 100000 in
theorem alike_none (w:World) (v0 v1 v2 v3 v4 v5:Value):Calls Tryz.prog 21 #[.pointer none,.pointer none,.agg #[v0,v1,v2,v3,v4,v5]] w fun e w'=>e= .returned (.bool true)/\Below w.heap.size w w':=by
 go_enter Tryz.func21,Tryz.ntmps21
 go_wp2_with fail
 go_ret
 exact ⟨rfl,(Below.refl _ _).alloc (Nat.le_refl _) _⟩
theorem scan_le (fr tt:Key) (mo:Int) (L:List Kv) (hs:Srt L):(scanT fr tt mo L).length<=L.length:=by
 rw [scan_doc fr tt mo L hs,List.length_take]
 have:=List.length_filter_le (pick fr tt) L
 omega
set_option maxRecDepth 100000 in
set_option maxHeartbeats 4000000 in
theorem alike_any {w:World} {T U:Nat->Prop} {q g b gt:Nat} {F:Nat->Prop} {h:Nat} {s t:Dsk} {k:KvS} {q2 r b2 gm:Nat} {G:Nat->Prop} (p:PSt w T q g b gt F h s k) (p2:RSt w U q2 r b2 gm G h t k) (hl9:k.L.length<=99999)
 {v0 v1 v5:Value} {B C:Option Addr} {y x:Key} {ny cy nx cx:Nat} {mo:Int} (hy:Seen w B y) (hny:y.length=ny) (hyc:ny<=cy) (hy1:ny<=1000) (hx:Seen w C x) (hnx:x.length=nx) (hx1:nx<=1000):
 Calls Tryz.prog 21 #[.pointer (some ⟨q,0,none⟩),.pointer (some ⟨q2,0,none⟩),.agg #[v0,v1,.slice B ny cy,.slice C nx cx,.int .i64 mo,v5]] w fun e w'=>e= .returned (.bool true)/\Below w.heap.size w w':=by
 obtain ⟨w1,hw1⟩:∃ w1,w1=w.alloc (.cells #[v0,v1,.slice B ny cy,.slice C nx cx,.int .i64 mo,v5] 41):=⟨_,rfl⟩
 have hb1:Below w.heap.size w w1:=by rw [hw1];exact (Below.refl _ _).alloc (Nat.le_refl _) _
 have hx1':Blk w1 w.heap.size [v0,v1,.slice B ny cy,.slice C nx cx,.int .i64 mo,v5] 41:=by rw [hw1];exact Blk.new _ _ _
 have HW1:Hid (w.alloc (.cells #[v0,v1,.slice B ny cy,.slice C nx cx,.int .i64 mo,v5] 41)=w1):=hw1.symm
 have P:=Lib.hid (p.below hb1)
 have P2:=Lib.hid (p2.below hb1)
 have HY:=Lib.hid (hy.below hb1)
 have HX:=Lib.hid (hx.below hb1)
 have HNY:=Lib.hid hny
 have HNX:=Lib.hid hnx
 have B1:=Lib.hid hb1
 have HL9:=Lib.hid hl9
 have HBX:=Lib.hid hx1'
 have HC:Hid (∀ W,Below w1.heap.size w1 W->W.cell? ⟨w.heap.size,2,none⟩=some (.slice B ny cy)/\W.cell? ⟨w.heap.size,3,none⟩=some (.slice C nx cx)/\W.cell? ⟨w.heap.size,4,none⟩=some (.int .i64 mo)/\W.cell? ⟨q2,3,none⟩=some (.pointer (some ⟨gm,0,none⟩))):=fun W hW=>by
  have h1:=HBX.out.below hW HBX.out.lt
  exact ⟨h1.cell (i:=2) (by simp),h1.cell (i:=3) (by simp),h1.cell (i:=4) (by simp),(P2.out.cells W hW).2.2.2.1⟩
 have HGET:=Lib.hid (kget_any (d:=cy) P.out HY.out HNY.out)
 obtain ⟨L,hL⟩:∃ L,L=k.L:=⟨_,rfl⟩
 obtain ⟨bo,hbo⟩:∃ bo,bo=w.heap.size:=⟨_,rfl⟩
 rw [<-hbo] at HC
 rw [<-hL] at HGET
 have HLL:=Lib.hid hL
 obtain ⟨y2,y3,y4,y6⟩:=HC.out w1 (Below.refl _ _)
 clear p p2 hy hx hny hnx hb1 hx1' hw1 hl9 HBX hL
 go_enter Tryz.func21,Tryz.ntmps21
 go_wp2_with fail
 rw [HW1.out,<-hbo]
 clear hbo HW1
 have HSRT:Hid (Srt L):=by show Srt L;rw [HLL.out];exact P2.out.map.2.1
 have HSC:Hid (∀ W,Below w1.heap.size w1 W->Calls Tryz.prog 32 #[.pointer (some ⟨q,0,none⟩),.slice B ny cy,.slice C nx cx,.int .i64 mo] W (KScan W (scanT y x mo L))):=fun W hW=>by
  rw [HLL.out]
  exact kscan_any (P.out.below hW) (HY.out.below hW) HNY.out (HX.out.below hW) HNX.out (by omega)
 have HRS:Hid (∀ W,Below w1.heap.size w1 W->Calls Tryz.prog 61 #[.pointer (some ⟨gm,0,none⟩),.slice B ny cy,.slice C nx cx,.int .i64 mo] W (RScanOut W (scanT y x mo L))):=fun W hW=>by
  rw [HLL.out]
  exact rscan_any W U (P2.out.below hW).tlt gm 1000000000 k.L B C y x ny cy nx cx mo (P2.out.below hW).map (HY.out.below hW) HNY.out (HX.out.below hW) HNX.out (by omega)
 have HPR:Hid (∀ W,Below w1.heap.size w1 W->Calls Tryz.prog 35 #[.pointer (some ⟨q,0,none⟩),.slice B ny cy,.int .i64 mo] W (KScan W (scanT y (behindL y) mo L))):=fun W hW=>by
  rw [HLL.out]
  exact kprefix_any (P.out.below hW) (HY.out.below hW) HNY.out hyc (by omega)
 have HRP:Hid (∀ W,Below w1.heap.size w1 W->Calls Tryz.prog 62 #[.pointer (some ⟨q2,0,none⟩),.slice B ny cy,.int .i64 mo] W (RScanOut W (scanT y (behindL y) mo L))):=fun W hW=>by
  rw [<-pre_scan y mo L HSRT.out,HLL.out]
  exact rprefix_any W U q2 r b2 gm G h t k B y ny cy mo (P2.out.below hW) (HY.out.below hW) HNY.out (by omega)
 have HPA:Hid (∀ W (A:Option Addr) (n c:Nat) (A':Option Addr) (n' c':Nat) (l:List Kv),l.length<=99999->KvSeen W A l->l.length=n->KvSeen W A' l->l.length=n'->Calls Tryz.prog 33 #[.slice A n c,.slice A' n' c'] W fun e w'=>e= .returned (.bool true)/\Below W.heap.size W w'):=fun W A n c A' n' c' l h9 h1 h2 h3 h4=>pairs_kv h2 h4 (by omega) h1 h3
 have HLE:Hid ((scanT y x mo L).length<=99999/\(scanT y (behindL y) mo L).length<=99999):=by
  have h9:L.length<=99999:=by rw [HLL.out];exact HL9.out
  exact ⟨Nat.le_trans (scan_le y x mo L HSRT.out) h9,Nat.le_trans (scan_le y (behindL y) mo L HSRT.out) h9⟩
 obtain ⟨AM,cm,els,he,hel,hbl,hcl,hlc,hao,hn9⟩:=map_els P2.out.map
 have hkv:=kv_of hcl hao
 rw [he] at hkv
 obtain ⟨zl,hzl⟩:∃ z,z=L.length:=⟨_,rfl⟩
 have HZL:Hid (L.length=zl):=hzl.symm
 have HCM:Hid (∀ W,Below w1.heap.size w1 W->W.cell? ⟨gm,1,none⟩=some (.slice AM zl cm)):=fun W hW=>by
  have h1:=(hbl.below hW hbl.lt).cell (i:=1) (by simp)
  rw [hzl,HLL.out]
  exact h1
 have HKM:Hid (KvSeen w1 AM L):=by show KvSeen w1 AM L;rw [HLL.out];exact hkv
 have HSA:Hid (∀ W,Below w1.heap.size w1 W->Calls Tryz.prog 32 #[.pointer (some ⟨q,0,none⟩),.slice none 0 0,.slice none 0 0,.int .i64 100000] W (KScan W L)):=fun W hW=>by
  have h5:=kscan_any (P.out.below hW) (R:=none) (E:=none) (fr:=[]) (tt:=[]) (r:=0) (rc:=0) (m:=0) (d:=0) (mo:=100000) (.inl rfl) rfl (.inl rfl) rfl (by omega)
  have h6:scanT [] [] 100000 k.L=k.L:=scan_all _ k.L (by have:=HL9.out;omega) (by decide)
  rw [h6,<-HLL.out] at h5
  exact h5
 have HL99:Hid (L.length<=99999):=by show L.length<=_;rw [HLL.out];exact HL9.out
 obtain ⟨gen,hgen⟩:∃ gen,gen=k.lg.gen:=⟨_,rfl⟩
 obtain ⟨dn,hdn⟩:∃ dn,dn=k.down:=⟨_,rfl⟩
 have HCE:Hid (∀ W,Below w1.heap.size w1 W->W.cell? ⟨q2,1,none⟩=some (.pointer (some ⟨b2,0,none⟩))/\W.cell? ⟨q2,4,none⟩=some (.bool dn)/\W.cell? ⟨b2,3,none⟩=some (.int .i64 gen)):=fun W hW=>by
  have h1:=P2.out.cells W hW
  rw [hgen,hdn]
  exact ⟨h1.2.1,h1.2.2.2.2.1,h1.2.2.2.2.2⟩
 have HLN:Hid (∀ W,Below w1.heap.size w1 W->Calls Tryz.prog 38 #[.pointer (some ⟨q,0,none⟩)] W fun e w'=>e= .returned (.int .i64 (zl:Int))/\w'=W):=fun W hW=>by rw [hzl,HLL.out];exact klen_any (P.out.below hW)
 have HTN:Hid (∀ W,Below w1.heap.size w1 W->Calls Tryz.prog 31 #[.pointer (some ⟨q,0,none⟩)] W fun e w'=>e= .returned (.int .i64 gen)/\w'=W):=fun W hW=>by rw [hgen];exact turn_any (P.out.below hW)
 have HUP:Hid (∀ W,Below w1.heap.size w1 W->Calls Tryz.prog 34 #[.pointer (some ⟨q,0,none⟩)] W fun e w'=>e= .returned (.bool (!dn))/\w'=W):=fun W hW=>by rw [hdn];exact up_any (P.out.below hW)
 clear he hel hbl hcl hlc hao hn9 hkv hzl hgen hdn
 with_reducible refine HGET.out.mono ?_
 rintro e w2 ⟨hb2,X2,n2,c2,rfl,hx2,hn2⟩
 have B2:=Lib.hid hb2
 have HS2:Hid (Seen w2 X2 (gv y L)):=hx2.seen
 have HN2:=Lib.hid hn2
 have HRG:Hid (∀ W,Below w1.heap.size w1 W->Calls Tryz.prog 60 #[.pointer (some ⟨gm,0,none⟩),.slice B ny cy] W fun e w'=>Below W.heap.size W w'/\∃ (X:Option Addr) (n c:Nat),e= .returned (.tuple #[.slice X n c,.bool (hasL y L)])/\Seen w' X (gv y L)/\(gv y L).length=n):=fun W hW=>by
  rw [HLL.out]
  exact rget_any W U gm 1000000000 k.L B y ny cy (P2.out.below hW).map (HY.out.below hW) HNY.out
 have BD2:Below w1.heap.size w1 w2.drew:=hb2.drew
 have HS2d:Hid (Seen w2.drew X2 (gv y L)):=HS2.out.below ((Below.refl _ _).drew)
 clear hb2 hx2 hn2 y2 y3 y4 y6 HGET
 generalize hasL y L=hv at *
 go_wp2_with fail
 go_region_held_law (fun W=>W.cell? ⟨bo,2,none⟩=some (.slice B ny cy)/\W.cell? ⟨bo,3,none⟩=some (.slice C nx cx)/\W.cell? ⟨bo,4,none⟩=some (.int .i64 mo)/\W.cell? ⟨q2,3,none⟩=some (.pointer (some ⟨gm,0,none⟩)))
  (first | exact HC.out _ BD2 | exact HC.out _ B3)
  (first
   | (go_at_call 60;(with_reducible refine (HRG.out _ BD2).mono ?_);rintro e w3 ⟨hb3,X3,n3,c3,rfl,hs3,hn3⟩;have B3:=hop BD2 hb3;have HS2':=Lib.hid (HS2d.out.below hb3);have HS3:=Lib.hid hs3;have HN3:=Lib.hid hn3;have BD3:Below w1.heap.size w1 w3.drew:=B3.drew;clear hb3 hs3 hn3))
 clear HRG HS2
 go_wp2_with fail
 go_region_held_law (fun W=>W.cell? ⟨bo,2,none⟩=some (.slice B ny cy)/\W.cell? ⟨bo,3,none⟩=some (.slice C nx cx)/\W.cell? ⟨bo,4,none⟩=some (.int .i64 mo)/\W.cell? ⟨q2,3,none⟩=some (.pointer (some ⟨gm,0,none⟩)))
  (first | exact HC.out _ BD3 | exact HC.out _ B4 | exact HC.out _ B5 | exact HC.out _ B6)
  (first
   | (go_at_call 32;(with_reducible refine (HSC.out _ BD3).mono ?_);rintro e w4 ⟨hb4,X4,n4,c4,rfl,hx4,hl4⟩;have B4:=hop BD3 hb4;have E4:Below w3.heap.size w3 w4:=hop ((Below.refl _ _).drew) hb4;have V4:=Lib.hid hx4;have L4:=Lib.hid hl4;clear hb4 hx4 hl4)
   | (go_at_call 61;(with_reducible refine (HRS.out _ B4).mono ?_);rintro e w5 ⟨hb5,X5,n5,c5,rfl,hl5,hx5⟩;have B5:=hop B4 hb5;have E5:=hop E4 hb5;have V4':=Lib.hid (V4.out.below hb5);have V5:=Lib.hid hx5;have L5:=Lib.hid hl5;clear hb5 hx5 hl5)
   | (go_at_call 33;(with_reducible refine (HPA.out _ _ _ _ _ _ _ _ HLE.out.1 V4'.out L4.out V5.out L5.out).mono ?_);rintro e w6 ⟨rfl,hb6⟩;have B6:=hop B5 hb6;have E6:=hop E5 hb6;clear hb6))
 have BD6:Below w1.heap.size w1 w6.drew:=B6.drew
 have Z2:=Lib.hid (HS2'.out.below E6)
 have Z3:=Lib.hid (HS3.out.below E6)
 clear V4 V4' V5 L4 L5 B4 B5 E4 E5 E6 HS2' HS3
 go_wp2_with fail
 go_region_held_law (fun W=>W.cell? ⟨bo,2,none⟩=some (.slice B ny cy)/\W.cell? ⟨bo,3,none⟩=some (.slice C nx cx)/\W.cell? ⟨bo,4,none⟩=some (.int .i64 mo)/\W.cell? ⟨q2,3,none⟩=some (.pointer (some ⟨gm,0,none⟩)))
  (first | exact HC.out _ BD6 | exact HC.out _ B7 | exact HC.out _ B8 | exact HC.out _ B9)
  (first
   | (go_at_call 35;(with_reducible refine (HPR.out _ BD6).mono ?_);rintro e w7 ⟨hb7,X7,n7,c7,rfl,hx7,hl7⟩;have B7:=hop BD6 hb7;have E7:Below w6.heap.size w6 w7:=hop ((Below.refl _ _).drew) hb7;have V7:=Lib.hid hx7;have L7:=Lib.hid hl7;clear hb7 hx7 hl7)
   | (go_at_call 62;(with_reducible refine (HRP.out _ B7).mono ?_);rintro e w8 ⟨hb8,X8,n8,c8,rfl,hl8,hx8⟩;have B8:=hop B7 hb8;have E8:=hop E7 hb8;have V7':=Lib.hid (V7.out.below hb8);have V8:=Lib.hid hx8;have L8:=Lib.hid hl8;clear hb8 hx8 hl8)
   | (go_at_call 33;(with_reducible refine (HPA.out _ _ _ _ _ _ _ _ HLE.out.2 V7'.out L7.out V8.out L8.out).mono ?_);rintro e w9 ⟨rfl,hb9⟩;have B9:=hop B8 hb9;have E9:=hop E8 hb9;clear hb9))
 have BD9:Below w1.heap.size w1 w9.drew:=B9.drew
 have Y2:=Lib.hid (Z2.out.below E9)
 have Y3:=Lib.hid (Z3.out.below E9)
 clear V7 V7' V8 L7 L8 B7 B8 E7 E8 E9 Z2 Z3
 go_wp2_with fail
 go_region_held_law (fun W=>W.cell? ⟨q2,3,none⟩=some (.pointer (some ⟨gm,0,none⟩))/\W.cell? ⟨gm,1,none⟩=some (.slice AM zl cm))
  (first | exact ⟨(HC.out _ BD9).2.2.2,HCM.out _ BD9⟩ | exact ⟨(HC.out _ BA).2.2.2,HCM.out _ BA⟩ | exact ⟨(HC.out _ BB).2.2.2,HCM.out _ BB⟩)
  (first
   | (go_at_call 32;(with_reducible refine (HSA.out _ BD9).mono ?_);rintro e wa ⟨hba,Xa,na,ca,rfl,hxa,hla⟩;have BA:=hop BD9 hba;have EA:Below w9.heap.size w9 wa:=hop ((Below.refl _ _).drew) hba;have VA:=Lib.hid hxa;have LA:=Lib.hid hla;have VM:=Lib.hid (HKM.out.below BA);clear hba hxa hla)
   | (go_at_call 33;(with_reducible refine (HPA.out _ _ _ _ _ _ _ _ HL99.out VA.out LA.out VM.out HZL.out).mono ?_);rintro e wb ⟨rfl,hbb⟩;have BB:=hop BA hbb;have EB:=hop EA hbb;clear hbb))
 have BDB:Below w1.heap.size w1 wb.drew:=BB.drew
 have U1:=text_on (Y2.out.below EB) n2 c2 HN2.out
 have U2:=text_on (Y3.out.below EB) n3 c3 HN3.out
 clear VA LA VM BA EA EB Y2 Y3
 go_wp2_with fail
 generalize (⟨(gv y L).toArray⟩:ByteArray)=tx at U1 U2
 have HSS:Hid (∀ W,Below wb.heap.size wb W->(W.cell? ⟨q2,3,none⟩=some (.pointer (some ⟨gm,0,none⟩))/\W.cell? ⟨gm,1,none⟩=some (.slice AM zl cm)/\W.cell? ⟨q2,1,none⟩=some (.pointer (some ⟨b2,0,none⟩))/\W.cell? ⟨b2,3,none⟩=some (.int .i64 gen)/\W.cell? ⟨q2,4,none⟩=some (.bool dn)/\Below wb.heap.size wb W)):=fun W hW=>by
  have h1:=hop BB hW
  obtain ⟨h2,h3,h4⟩:=HCE.out W h1
  exact ⟨(HC.out W h1).2.2.2,HCM.out W h1,h2,h4,h3,hW⟩
 have BQ:Below wb.heap.size wb wb.drew:=(Below.refl _ _).drew
 have HL1:=Lib.hid (HLN.out _ BDB)
 have HT1:=Lib.hid (HTN.out _ BDB)
 have HU1:=Lib.hid (HUP.out _ BDB)
 go_region_held_law (fun W=>W.cell? ⟨q2,3,none⟩=some (.pointer (some ⟨gm,0,none⟩))/\W.cell? ⟨gm,1,none⟩=some (.slice AM zl cm)/\W.cell? ⟨q2,1,none⟩=some (.pointer (some ⟨b2,0,none⟩))/\W.cell? ⟨b2,3,none⟩=some (.int .i64 gen)/\W.cell? ⟨q2,4,none⟩=some (.bool dn)/\Below wb.heap.size wb W)
  (first | exact HSS.out _ BQ)
  (first
   | (go_at_call 38;(with_reducible refine HL1.out.mono ?_);rintro e wc ⟨rfl,rfl⟩)
   | (go_at_call 31;(with_reducible refine HT1.out.mono ?_);rintro e wc ⟨rfl,rfl⟩)
   | (go_at_call 34;(with_reducible refine HU1.out.mono ?_);rintro e wc ⟨rfl,rfl⟩))
 all_goals
  go_wp2_with fail
  go_ret
  exact ⟨rfl,hop B1.out BDB⟩
end Go.Proofs.YtdaahapbpnjkfaaGreat
