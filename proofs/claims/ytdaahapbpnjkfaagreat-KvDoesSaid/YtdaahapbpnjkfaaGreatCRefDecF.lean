/-
What the document's Decode comes to: the frame that the bytes begin with, or none. Condition: the bytes are at most 2^46.
-/
import Derived.Test.YtdaahapbpnjkfaaGreatCLgRead
import Derived.Test.YtdaahapbpnjkfaaGreatCFDec
import Derived.Test.YtdaahapbpnjkfaaGreatCGet
import Derived.Deep.RegionHeldLaw
import Derived.Deep.RegionWith
namespace Go.Proofs.YtdaahapbpnjkfaaGreat
open Go.RowKit
theorem refNarrow_made (A:Option Addr) (l:List UInt8) (c:Nat) (w:World) (hl:l.length=8) (hs:Seen w A l):
 Calls Tryz.prog 109 #[.slice A 8 c] w fun e w'=>e= .returned (.tuple #[.int .i64 (narI l),.int .i64 0])/\w=w':=by
 have:=refNarrow_any A l c w hl hs
 rw [hl] at this
 exact this
theorem refGet_made (A:Option Addr) (l:List UInt8) (n c:Nat) (w:World) (hl:l.length=n) (hs:Seen w A l):
 Calls Tryz.prog 81 #[.slice A n c] w fun e w'=>e= .returned (.tuple #[.int .i64 ((getL l 0 0).1:Nat),.int .i64 ((getL l 0 0).2:Nat)])/\w=w':=by
 subst hl
 exact refGet_any A l c w hs
theorem block_of_cell' {w:World} {b o:Nat} {v:Value} (h:w.cell? ⟨b,o,none⟩=some v):b<w.heap.size:=World.block_lt_of_cell? w _ h
theorem frame_facts {w w':World} {g h:Nat} {a b c x y z:Value} {t:TypeId} (hg:Blk w g [a,b,c] t) (hh:Blk w h [x,y,z] t) (hb:Below w.heap.size w w'):
 w'.cell? ⟨g,0,none⟩=some a/\w'.cell? ⟨g,1,none⟩=some b/\w'.cell? ⟨g,2,none⟩=some c/\w'.frozen? ⟨g,0,none⟩=false/\w'.frozen? ⟨g,1,none⟩=false/\w'.frozen? ⟨g,2,none⟩=false/\
 w'.cell? ⟨h,0,none⟩=some x/\w'.cell? ⟨h,1,none⟩=some y/\w'.cell? ⟨h,2,none⟩=some z:=by
 have B:=hg.below hb hg.lt
 have C:=hh.below hb hh.lt
 exact ⟨B.cell (i:=0) (by simp),B.cell (i:=1) (by simp),B.cell (i:=2) (by simp),B.free 0,B.free 1,B.free 2,C.cell (i:=0) (by simp),C.cell (i:=1) (by simp),C.cell (i:=2) (by simp)⟩
theorem none_at (w W:World) (hb:Below w.heap.size w W):DecodeOut w none (.returned (.tuple #[.agg #[.int .i64 0,.int .i64 0,.slice none 0 0],.int .i64 0])) W:=
 ⟨none,0,0,rfl,madeN_none hb⟩
set_option maxRecDepth 100000 in
set_option maxHeartbeats 2000000 in
theorem refDecode_any (A:Option Addr) (b0:UInt8) (r:List UInt8) (L c:Nat) (w:World) (hL:r.length+1=L) (hc:L<=c) (hb:L<=140737488351232) (hs:Seen w A (b0::r)):
 Calls Tryz.prog 79 #[.slice A L c] w (DecodeOut w (decF (b0::r))):=by
 have hzf:=zeroFrame
 obtain ⟨i0,hi,hz0,hz1,hz2⟩:=info_parts info8p
 have HS:=Lib.hid hs
 have HL:=Lib.hid hL
 -- the two new blocks
 have B1:=(Blk.new w [.int .i64 0,.int .i64 0,.slice none 0 0] 134).alloc (.cells #[.int .i64 0,.int .i64 0,.slice none 0 0] 134)
 have B2:=Blk.new (w.alloc (.cells #[.int .i64 0,.int .i64 0,.slice none 0 0] 134)) [.int .i64 0,.int .i64 0,.slice none 0 0] 134
 have HBW:Below w.heap.size w ((w.alloc (.cells #[.int .i64 0,.int .i64 0,.slice none 0 0] 134)).alloc (.cells #[.int .i64 0,.int .i64 0,.slice none 0 0] 134)):=
  ((Below.refl _ _).alloc (Nat.le_refl _) _).alloc (by simp) _
 obtain ⟨W,hW⟩:∃ W,W=((w.alloc (.cells #[.int .i64 0,.int .i64 0,.slice none 0 0] 134)).alloc (.cells #[.int .i64 0,.int .i64 0,.slice none 0 0] 134)):=⟨_,rfl⟩
 have hz2:W.heap.size=w.heap.size+2:=by rw [hW];simp
 have B1':Blk W w.heap.size [.int .i64 0,.int .i64 0,.slice none 0 0] 134:=by rw [hW];exact B1
 have B2':Blk W (w.heap.size+1) [.int .i64 0,.int .i64 0,.slice none 0 0] 134:=by rw [hW];have:=B2;simp only [World.size_alloc] at this;exact this
 rw [<-hW] at HBW
 have H1:=Lib.hid B1'
 have H2:=Lib.hid B2'
 have HBW':=Lib.hid HBW
 have HZ:=Lib.hid hz2
 have HW:=Lib.hid hW
 obtain ⟨bb,off,hA,hb0⟩:=hs.byte 0 (by simp)
 subst hA
 simp only [List.getElem_cons_zero,Nat.add_zero] at hb0
 have hblt:bb<w.heap.size:=block_of_cell' hb0
 have hb0W:=(HBW.cell (p:=⟨bb,off,none⟩) hblt).trans hb0
 have HDS:=dec_short (b:=b0::r)
 have HDM:=dec_mark (b0:=b0) (r:=r)
 have HDN:=dec_none (b0:=b0) (r:=r)
 have HDD:=fun f (hf:readR r=some f) (h0:b0=245)=>doc_dec hf h0
 have HRF:=fun (hk:(getL r 0 0).2≠0) (h:(putL (getL r 0 0).1).length+(getL r 0 0).1+21<=(b0::r).length)=>read_fits (b0:=b0) hk h
 rw [List.length_cons,hL] at HDS HDN
 simp only [List.length_cons,hL] at HRF
 obtain ⟨D,hD⟩:∃ D,D=decF (b0::r):=⟨_,rfl⟩
 rw [<-hD] at HDS HDM HDN HDD ⊢
 clear hs hL B1 B2 hW B1' B2' HBW hz2 hD hb0
 by_cases h22:L<22
 · have HE:=Lib.hid (HDS h22)
   clear HDS HDM HDN HDD HRF
   go_enter Tryz.func79,Tryz.ntmps79
   go_wp2_with fail
   rw [HE.out]
   refine bodyPost_ret (v:= .tuple #[.agg #[.int .i64 0,.int .i64 0,.slice none 0 0],.int .i64 0]) (by simp [results,Tryz.results79,go_sem]) rfl (none_at _ _ ?_)
   rw [<-HW.out];exact HBW'.out
 · by_cases h245:b0=245
   · subst h245
     have hcell:((w.alloc (.cells #[.int .i64 0,.int .i64 0,.slice none 0 0] 134)).alloc (.cells #[.int .i64 0,.int .i64 0,.slice none 0 0] 134)).cell? ⟨bb,off,none⟩=some (.int .u8 245):=by rw [<-HW.out];exact hb0W
     obtain ⟨A1,HTAIL,hsr⟩:=(HS.out.below HBW'.out).tail_cut L c 1 1 rfl (by rw [List.length_cons];exact HL.out) (by omega) hc
     have HSR:Hid (Seen W A1 r):=hsr
     clear hsr
     have HLR:Hid (r.length=L-1):=by show _=_;have:=HL.out;omega
     have HGET:=Lib.hid (refGet_made A1 r (L-1) (c-1) W HLR.out HSR.out)
     have HDD':Hid (∀ f,readR r=some f->D=if mayB f.1 f.2.1 f.2.2.length=true/\sumOf ((245::r).take (1+(getL r 0 0).2+16+(getL r 0 0).1))=((245::r).drop (1+(getL r 0 0).2+16+(getL r 0 0).1)).take 4 then some f else none):=fun f hf=>HDD f hf rfl
     have HFIT:=get_fits (l:=r)
     have HRS:Hid (∀ f,readR r=some f->f.2.2.length=(getL r 0 0).1/\f.2.2=(((r.drop (getL r 0 0).2).drop 8).drop 8).take (getL r 0 0).1/\f.1=narI ((r.drop (getL r 0 0).2).take 8)/\f.2.1=narI (((r.drop (getL r 0 0).2).drop 8).take 8)):=fun f hf=>by
      obtain ⟨_,_,h1,h2,h3,h4⟩:=readR_some hf;exact ⟨h1,h2,h3,h4⟩
     have HKP:(getL r 0 0).2≠0->(getL r 0 0).2=(putL (getL r 0 0).1).length:=fun h=>by
      obtain ⟨_,_,h2,_⟩:=put_of_get0 h;exact h2
     clear HDS HDM HDD hb0W
     generalize (getL r 0 0).2=k at *
     generalize (getL r 0 0).1=n at *
     obtain ⟨hk1,hk9,hn63⟩:=HFIT
     by_cases hk:k=0
     · have HE:=Lib.hid (HDN (.inl hk))
       subst hk
       clear HDN HRF HKP
       go_enter Tryz.func79,Tryz.ntmps79
       go_wp2_with fail
       rw [<-HW.out]
       refine HGET.out.mono ?_
       rintro e w' ⟨rfl,rfl⟩
       have r0:=H1.out.cell (i:=0) (by simp)
       have r1:=H1.out.cell (i:=1) (by simp)
       have r2:=H1.out.cell (i:=2) (by simp)
       have f0:=H1.out.free 0
       have f1:=H1.out.free 1
       have f2:=H1.out.free 2
       have q0:=H2.out.cell (i:=0) (by simp)
       have q1:=H2.out.cell (i:=1) (by simp)
       have q2:=H2.out.cell (i:=2) (by simp)
       simp only [List.getElem_cons_zero,List.getElem_cons_succ] at r0 r1 r2 q0 q1 q2
       go_wp2_with fail
       rw [HE.out]
       refine bodyPost_ret (v:= .tuple #[.agg #[.int .i64 0,.int .i64 0,.slice none 0 0],.int .i64 0]) (by simp [results,Tryz.results79,go_sem,r0,r1,r2]) rfl (none_at _ _ ?_)
       exact ((HBW'.out.setCell (Nat.le_refl _) _).setCell (Nat.le_refl _) _).setCell (Nat.le_refl _) _
     · have tk:((k:Int)==0)=false:=by rw [beq_eq_false_iff_ne];omega
       have r0:=H1.out.cell (i:=0) (by simp)
       have r1:=H1.out.cell (i:=1) (by simp)
       have r2:=H1.out.cell (i:=2) (by simp)
       have f0:=H1.out.free 0
       have f1:=H1.out.free 1
       have f2:=H1.out.free 2
       have q0:=H2.out.cell (i:=0) (by simp)
       have q1:=H2.out.cell (i:=1) (by simp)
       have q2:=H2.out.cell (i:=2) (by simp)
       simp only [List.getElem_cons_zero,List.getElem_cons_succ] at r0 r1 r2 q0 q1 q2
       by_cases hn:65536<n
       · have HE:=Lib.hid (HDN (.inr (.inl hn)))
         clear HDN HRF HKP hk
         go_enter Tryz.func79,Tryz.ntmps79
         go_wp2_with fail
         rw [<-HW.out]
         refine HGET.out.mono ?_
         rintro e w' ⟨rfl,rfl⟩
         go_wp2_with fail
         rw [HE.out]
         refine bodyPost_ret (v:= .tuple #[.agg #[.int .i64 0,.int .i64 0,.slice none 0 0],.int .i64 0]) (by simp [results,Tryz.results79,go_sem,r0,r1,r2]) rfl (none_at _ _ ?_)
         exact ((HBW'.out.setCell (Nat.le_refl _) _).setCell (Nat.le_refl _) _).setCell (Nat.le_refl _) _
       · obtain ⟨S,hS⟩:∃ S:Nat,S=k+n+21:=⟨_,rfl⟩
         have hkp:=HKP hk
         have hsz:sizeL (n:Int)=(S:Int):=by
          rw [sizeL,if_neg (by omega),hS,hkp]
          simp only [Int.toNat_natCast]
          omega
         have HSIZE:=Lib.hid (fun W=>refSize_any (n:Int) W (by omega) (by omega))
         rw [hsz] at HSIZE
         rw [<-hkp] at HDN HRF
         have HKP':=Lib.hid hkp
         clear hsz hkp HKP
         by_cases hSL:L<S
         · have HE:=Lib.hid (HDN (.inr (.inr (by omega))))
           have hS':(S:Int)<=70000:=by omega
           clear HDN HRF hk hS
           go_enter Tryz.func79,Tryz.ntmps79
           go_wp2_with fail
           rw [<-HW.out]
           refine HGET.out.mono ?_
           rintro e w' ⟨rfl,rfl⟩
           go_wp2_with fail
           refine (HSIZE.out W).mono ?_
           rintro e w1 ⟨rfl,hb1⟩
           have HB1:Hid (Below w.heap.size w w1):=HBW'.out.trans (hb1.mono HBW'.out.size)
           have C1:=H1.out.below hb1 H1.out.lt
           have C2:=H2.out.below hb1 H2.out.lt
           clear r0 r1 r2 f0 f1 f2 q0 q1 q2 hb1
           have r0:=C1.cell (i:=0) (by simp)
           have r1:=C1.cell (i:=1) (by simp)
           have r2:=C1.cell (i:=2) (by simp)
           have f0:=C1.free 0
           have f1:=C1.free 1
           have f2:=C1.free 2
           have q0:=C2.cell (i:=0) (by simp)
           have q1:=C2.cell (i:=1) (by simp)
           have q2:=C2.cell (i:=2) (by simp)
           simp only [List.getElem_cons_zero,List.getElem_cons_succ] at r0 r1 r2 q0 q1 q2
           clear C1 C2
           go_wp2_with fail
           rw [HE.out]
           refine bodyPost_ret (v:= .tuple #[.agg #[.int .i64 0,.int .i64 0,.slice none 0 0],.int .i64 0]) (by simp [results,Tryz.results79,go_sem,r0,r1,r2]) rfl (none_at _ _ ?_)
           exact ((HB1.out.setCell (Nat.le_refl _) _).setCell (Nat.le_refl _) _).setCell (Nat.le_refl _) _
         · obtain ⟨f,hf⟩:=HRF hk (by omega)
           have hD:=HDD'.out f hf
           obtain ⟨hd1,hd2,hd3,hd4⟩:=HRS.out f hf
           obtain ⟨fg,fs,fd⟩:=f
           simp only at hD hd1 hd2 hd3 hd4
           have g0: -9223372036854775808<=fg/\fg<=9223372036854775807:=by rw [hd3];exact narI_range _
           have s0: -9223372036854775808<=fs/\fs<=9223372036854775807:=by rw [hd4];exact narI_range _
           have HD:=Lib.hid hD
           have HD1:=Lib.hid hd1
           have HLb:Hid ((245::r:List UInt8).length=L):=by show _=_;rw [List.length_cons];exact HL.out
           obtain ⟨A8,c8,hcut8,hs8,hl8⟩:=(HS.out.below HBW'.out).mid_cut L c (1+k) (1+k+8) 8 (1+(k:Int)) (1+(k:Int)+8) (by omega) (by omega) (by omega) HLb.out (by omega) (by omega) hc
           obtain ⟨A9,c9,hcut9,hs9,hl9⟩:=(HS.out.below HBW'.out).mid_cut L c (1+k+8) (1+k+16) 8 (1+(k:Int)+8) (1+(k:Int)+16) (by omega) (by omega) (by omega) HLb.out (by omega) (by omega) hc
           obtain ⟨A10,c10,hcut10,hs10,hl10⟩:=(HS.out.below HBW'.out).mid_cut L c (1+k+16) (1+k+16+n) n (1+(k:Int)+16) (1+(k:Int)+16+(n:Int)) (by omega) (by omega) (by omega) HLb.out (by omega) (by omega) hc
           obtain ⟨M,hM⟩:∃ M:Nat,M=1+k+16+n:=⟨_,rfl⟩
           obtain ⟨hcutM,hsM,hlM⟩:=(HS.out.below HBW'.out).head_cut L c M (1+(k:Int)+16+(n:Int)) (by omega) HLb.out (by omega) hc
           obtain ⟨A4,c4,hcut4,hs4,hl4⟩:=(HS.out.below HBW'.out).mid_cut L c M (M+4) 4 (1+(k:Int)+16+(n:Int)) (1+(k:Int)+20+(n:Int)) (by omega) (by omega) (by omega) HLb.out (by omega) (by omega) hc
           rw [<-hM] at HD
           have HSM:=Lib.hid hsM
           have HLM:=Lib.hid hlM
           have HS4:=Lib.hid hs4
           have HL4:=Lib.hid hl4
           have hM1:M<=70000:=by omega
           clear hsM hlM hs4 hl4 hM
           have e8:(List.drop (1+k) (245::r)).take 8=(r.drop k).take 8:=by rw [Nat.add_comm 1 k,List.drop_succ_cons]
           have e9:(List.drop (1+k+8) (245::r)).take 8=((r.drop k).drop 8).take 8:=by rw [show 1+k+8=(k+8)+1 by omega,List.drop_succ_cons,List.drop_drop]
           have e10:(List.drop (1+k+16) (245::r)).take n=(((r.drop k).drop 8).drop 8).take n:=by rw [show 1+k+16=(k+8+8)+1 by omega,List.drop_succ_cons,List.drop_drop,List.drop_drop]
           rw [e8] at hs8 hl8
           rw [e9] at hs9 hl9
           rw [e10,<-hd2] at hs10 hl10
           have HS8:=Lib.hid hs8
           have HL8:=Lib.hid hl8
           have HS9:=Lib.hid hs9
           have HL9:=Lib.hid hl9
           have HS10:=Lib.hid hs10
           have HF3:=Lib.hid hd3
           have HF4:=Lib.hid hd4
           have hS2:(S:Int)<=70000:=by omega
           have HSF:Hid (sizeF (some (fg,fs,fd))=S):=by show (frameL fg fs fd).length=S;rw [frameL_length,hd1,<-HKP'.out];exact hS.symm
           clear HKP' hD hd1 hd2 hd3 hd4 hs8 hl8 hs9 hl9 hs10 hl10 e8 e9 e10 HDN HRF HRS HDD' hf hS
           go_enter Tryz.func79,Tryz.ntmps79
           go_wp2_with fail
           rw [<-HW.out]
           refine HGET.out.mono ?_
           rintro e w' ⟨rfl,rfl⟩
           go_wp2_with fail
           refine (HSIZE.out W).mono ?_
           rintro e w1 ⟨rfl,hb1⟩
           have HBW1:=Lib.hid hb1
           have HB1:Hid (Below w.heap.size w w1):=HBW'.out.trans (hb1.mono HBW'.out.size)
           clear r0 r1 r2 f0 f1 f2 q0 q1 q2 hb1
           go_wp2_with fail
           refine (refNarrow_made A8 _ c8 w1 HL8.out (HS8.out.below HBW1.out)).mono ?_
           rintro e w' ⟨rfl,rfl⟩
           rw [<-HF3.out]
           go_wp2_with fail
           refine (refNarrow_made A9 _ c9 w1 HL9.out (HS9.out.below HBW1.out)).mono ?_
           rintro e w' ⟨rfl,rfl⟩
           rw [<-HF4.out]
           have HM0:Hid (MadeN 5 w1 [] none 0 0 w1):=⟨rfl,Made.nil _ _⟩
           have HS10':Hid (Seen w1 A10 fd):=HS10.out.below HBW1.out
           have E0:Hid (fd=[]++fd):=by show _=_;simp
           have E1:Hid (n=0+n):=by show _=_;omega
           go_wp2_with (at_builtin;refine wpList_append_to w1 rfl _ (.tmp 76) 22 rfl 5 i0 (.int .u8 0) Tryz.underlying22 hi hz0 hz1 hz2 rfl w1 none 0 0 [] A10 n c10 fd fd n rfl rfl HM0 HS10' HD1 E0 E1 (by omega) ?_)
           intro A11 c11 w2 HM2 _
           have HB2:Hid (Below w1.heap.size w1 (w2.alloc (.cells #[.int .i64 fg,.int .i64 fs,.slice A11 n c11] 134))):=HM2.out.2.2.alloc HM2.out.2.2.size _
           have C3:=Blk.new w2 [.int .i64 fg,.int .i64 fs,.slice A11 n c11] 134
           have HM2':Hid (MadeN 5 w1 fd A11 n c11 (w2.alloc (.cells #[.int .i64 fg,.int .i64 fs,.slice A11 n c11] 134))):=HM2.out.below ((Below.refl _ _).alloc (Nat.le_refl _) _)
           have hsz2:w1.heap.size<=w2.heap.size:=HM2.out.2.2.size
           obtain ⟨W2,hW2⟩:∃ W2,W2=w2.alloc (.cells #[.int .i64 fg,.int .i64 fs,.slice A11 n c11] 134):=⟨_,rfl⟩
           rw [<-hW2] at HB2 HM2'
           have HC3:Hid (Blk W2 w2.heap.size [.int .i64 fg,.int .i64 fs,.slice A11 n c11] 134):=by show Blk _ _ _ _;rw [hW2];exact C3
           have HW2:=Lib.hid hW2
           clear C3 HM2 hW2
           go_wp2_with fail
           rw [<-HW2.out]
           refine (refSum_any (some ⟨bb,off,none⟩) _ M c W2 HLM.out (by omega) (HSM.out.below (HBW1.out.trans (HB2.out.mono HBW1.out.size)))).mono ?_
           rintro e w3 ⟨A12,rfl,hs12,hb3⟩
           have HS12:=Lib.hid hs12
           have HB3:=Lib.hid hb3
           have c0:=(HC3.out.below hb3 HC3.out.lt).cell (i:=0) (by simp)
           have c1:=(HC3.out.below hb3 HC3.out.lt).cell (i:=1) (by simp)
           have c2:=(HC3.out.below hb3 HC3.out.lt).cell (i:=2) (by simp)
           simp only [List.getElem_cons_zero,List.getElem_cons_succ] at c0 c1 c2
           clear hs12 hb3
           go_wp2_with fail
           refine (refMay_any fg fs A11 n c11 w3 (by omega) g0.1 g0.2 s0.1 s0.2).mono ?_
           rintro e w4 ⟨rfl,hb4⟩
           have HB4:=Lib.hid hb4
           have hB24:Below W2.heap.size W2 w4:=hop HB3.out hb4
           have hB14:Below w1.heap.size w1 w4:=hop HB2.out hB24
           have hBW4:Below W.heap.size W w4:=hop HBW1.out hB14
           have C1:=H1.out.below hBW4 H1.out.lt
           have C2:=H2.out.below hBW4 H2.out.lt
           have C3:=HC3.out.below hB24 HC3.out.lt
           have HBW4:Hid (Below w.heap.size w w4):=HBW'.out.trans (hBW4.mono HBW'.out.size)
           have HM4:=Lib.hid (HM2'.out.below hB24)
           have U1:∀ w',Below w4.heap.size w4 w'->(convert 22 9 (.slice A12 4 4)).run Tryz.prog w'= .ok (.string ⟨(sumOf (List.take M (245::r))).toArray⟩) w':=fun w' hb'=>text_on HS12.out 4 4 rfl w' (hop hb4 hb')
           have U2:∀ w',Below w4.heap.size w4 w'->(convert 22 9 (.slice A4 4 c4)).run Tryz.prog w'= .ok (.string ⟨((List.drop M (245::r)).take 4).toArray⟩) w':=fun w' hb'=>text_on HS4.out 4 c4 HL4.out w' (hop hBW4 hb')
           have HD':Hid (D=if mayB fg fs n=true/\sumOf (List.take M (245::r))=(List.drop M (245::r)).take 4 then some (fg,fs,fd) else none):=by
            show _=_;rw [HD.out,HD1.out]
           clear hb4 hB24 hB14 hBW4 c0 c1 c2 HD
           have HK:Hid (DecodeOut w D (.returned (.tuple #[.agg #[.int .i64 fg,.int .i64 fs,.slice A11 n c11],.int .i64 (S:Int)])) w4\/True):= .inr trivial
           have r0:=C1.cell (i:=0) (by simp)
           have r1:=C1.cell (i:=1) (by simp)
           have r2:=C1.cell (i:=2) (by simp)
           have f0:=C1.free 0
           have f1:=C1.free 1
           have f2:=C1.free 2
           have q0:=C2.cell (i:=0) (by simp)
           have q1:=C2.cell (i:=1) (by simp)
           have q2:=C2.cell (i:=2) (by simp)
           have c0:=C3.cell (i:=0) (by simp)
           have c1:=C3.cell (i:=1) (by simp)
           have c2:=C3.cell (i:=2) (by simp)
           simp only [List.getElem_cons_zero,List.getElem_cons_succ] at r0 r1 r2 q0 q1 q2 c0 c1 c2
           have K1:=Lib.hid C1
           have K3:=Lib.hid C3
           clear C1 C2 C3 HK
           by_cases hm:mayB fg fs n=true
           · rw [hm]
             obtain ⟨x,hx⟩:∃ x,x=sumOf (List.take M (245::r)):=⟨_,rfl⟩
             obtain ⟨y,hy⟩:∃ y,y=(List.drop M (245::r)).take 4:=⟨_,rfl⟩
             rw [<-hx] at U1 HD'
             rw [<-hy] at U2 HD'
             have V1:=U1 w4.drew ((Below.refl _ _).drew)
             have V2:=U2 w4.drew ((Below.refl _ _).drew)
             have hq:=text_beq x y
             clear hx hy U1 U2
             by_cases hxy:x=y
             · rw [decide_eq_true hxy] at hq
               have hq':((⟨x.toArray⟩:ByteArray).toList != (⟨y.toArray⟩:ByteArray).toList)=false:=by rw [bne,hq];rfl
               go_wp2_with fail
               go_region
               have HDS:Hid (D=some (fg,fs,fd)):=by show _=_;rw [HD'.out,if_pos ⟨hm,hxy⟩]
               clear HD' hq hq' V1 V2
               go_wp2_with fail
               go_region_with (go_at_call 108;refine (HSIZE.out _).mono ?_;rintro e w5 ⟨rfl,hb5⟩;obtain ⟨x0,x1,x2,y0,y1,y2,z0,z1,z2⟩:=frame_facts K1.out K3.out (undrew (undrew hb5));have HB5:=Lib.hid (undrew (undrew hb5));clear hb5)
               all_goals go_wp2_with fail
               all_goals refine bodyPost_ret (v:= .tuple #[.agg #[.int .i64 fg,.int .i64 fs,.slice A11 n c11],.int .i64 (S:Int)]) (by simp [results,Tryz.results79,go_sem,x0,x1,x2]) rfl ?_
               all_goals
                have hw1:=HBW1.out.size
                have hz:=HZ.out
                have k2:w.heap.size<w1.heap.size:=by omega
                have hb5:Below w.heap.size w w5:=HBW4.out.trans (HB5.out.mono HBW4.out.size)
                rw [HDS.out]
                refine ⟨A11,n,c11,by rw [HSF.out];rfl,HD1.out,((HM4.out.below HB5.out).2).finish (by omega) ?_ ?_⟩
                · exact (((Spared.refl w5 (fun b=>b<w1.heap.size)).setCell k2 0 _).setCell k2 1 _).setCell k2 2 _
                · exact ((hb5.setCell (Nat.le_refl _) _).setCell (Nat.le_refl _) _).setCell (Nat.le_refl _) _
             · rw [decide_eq_false hxy] at hq
               have hq':((⟨x.toArray⟩:ByteArray).toList != (⟨y.toArray⟩:ByteArray).toList)=true:=by rw [bne,hq];rfl
               have HDS:Hid (D=none):=by show _=_;rw [HD'.out,if_neg (fun h=>hxy h.2)]
               clear HD' hxy
               generalize (⟨x.toArray⟩:ByteArray)=tx at *
               generalize (⟨y.toArray⟩:ByteArray)=ty at *
               go_wp2_with fail
               go_region
               go_wp2_with fail
               rw [HDS.out]
               refine bodyPost_ret (v:= .tuple #[.agg #[.int .i64 0,.int .i64 0,.slice none 0 0],.int .i64 0]) (by simp [results,Tryz.results79,go_sem,r0,r1,r2]) rfl (none_at _ _ ?_)
               exact ((HBW4.out.drew.setCell (Nat.le_refl _) _).setCell (Nat.le_refl _) _).setCell (Nat.le_refl _) _
           · have hmf:mayB fg fs n=false:=by simpa using hm
             rw [hmf]
             have HDS:Hid (D=none):=by show _=_;rw [HD'.out,if_neg (fun h=>hm h.1)]
             clear HD' U1 U2 hm hmf
             go_wp2_with fail
             go_region
             go_wp2_with fail
             rw [HDS.out]
             refine bodyPost_ret (v:= .tuple #[.agg #[.int .i64 0,.int .i64 0,.slice none 0 0],.int .i64 0]) (by simp [results,Tryz.results79,go_sem,r0,r1,r2]) rfl (none_at _ _ ?_)
             exact ((HBW4.out.drew.setCell (Nat.le_refl _) _).setCell (Nat.le_refl _) _).setCell (Nat.le_refl _) _
   · have HE:=Lib.hid (HDM h245)
     have t0:((b0.toNat:Int)==245)=false:=by rw [beq_eq_false_iff_ne];intro e;exact h245 (UInt8.toNat_inj.1 (by show b0.toNat=245;omega))
     have t1:((b0.toNat:Int) != 245)=true:=by rw [bne,t0];rfl
     have hcell:((w.alloc (.cells #[.int .i64 0,.int .i64 0,.slice none 0 0] 134)).alloc (.cells #[.int .i64 0,.int .i64 0,.slice none 0 0] 134)).cell? ⟨bb,off,none⟩=some (.int .u8 (b0.toNat:Int)):=by rw [<-HW.out];exact hb0W
     clear HDS HDM HDN HDD HRF h245
     generalize b0.toNat=y at *
     go_enter Tryz.func79,Tryz.ntmps79
     go_wp2_with fail
     rw [HE.out]
     refine bodyPost_ret (v:= .tuple #[.agg #[.int .i64 0,.int .i64 0,.slice none 0 0],.int .i64 0]) (by simp [results,Tryz.results79,go_sem]) rfl (none_at _ _ ?_)
     rw [<-HW.out];exact HBW'.out
theorem refDecode_made (A:Option Addr) (b:List UInt8) (n c:Nat) (w:World) (hn:b.length=n) (hc:n<=c) (hb:n<=140737488351232) (hs:Seen w A b):
 Calls Tryz.prog 79 #[.slice A n c] w (DecodeOut w (decF b)):=by
 cases b with
 | nil=>
  obtain rfl:n=0:=hn.symm
  have HE:Hid (decF []=none):=rfl
  have hzf:=zeroFrame
  clear hs hc hb hn
  go_enter Tryz.func79,Tryz.ntmps79
  go_wp2_with fail
  rw [HE.out]
  refine bodyPost_ret (v:= .tuple #[.agg #[.int .i64 0,.int .i64 0,.slice none 0 0],.int .i64 0]) (by simp [results,Tryz.results79,go_sem]) rfl (none_at _ _ ?_)
  exact ((Below.refl _ _).alloc (Nat.le_refl _) _).alloc (by simp) _
 | cons b0 r=>exact refDecode_any A b0 r n c w hn hc hb hs
end Go.Proofs.YtdaahapbpnjkfaaGreat
