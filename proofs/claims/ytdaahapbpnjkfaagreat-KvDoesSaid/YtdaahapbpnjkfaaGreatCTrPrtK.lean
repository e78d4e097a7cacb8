/-
parts of a page that refers to pages: the page itself, or two that have half of it each. Conditions: at most 16 of what it has, each of which may stand below a page.
-/
import Derived.Test.YtdaahapbpnjkfaaGreatCTrSmall
import Derived.Test.YtdaahapbpnjkfaaGreatCSearch
import Derived.Test.YtdaahapbpnjkfaaGreatCTrGet
import Derived.Deep.RegionHeldLaw
import Derived.Deep.RegionHeld3
import Derived.Test.YtdaahapbpnjkfaaGreatChecked
import Derived.Test.YtdaahapbpnjkfaaGreatCOnly
import Derived.WalkSpells
import Derived.Lib.SliceRun
import Derived.Deep.LoopGhost
import Derived.Outline
namespace Go.Proofs.YtdaahapbpnjkfaaGreat
open Go.RowKit
theorem clonedP (W:World) (F:Nat->Prop) (hF:∀ b,F b->b<W.heap.size) (A:Option Addr) (l:List (El 0)) (n c:Nat) (hn:l.length=n) (h0:0<n) (h1:n<=1000000) (hc:Cells W F A (rowCells 0 l)):
 Calls Tryz.prog 151 #[.slice A n c] W fun e w'=>(∃ A1 c1,e= .returned (.slice A1 n c1)/\Cells w' F A1 (rowCells 0 l)/\n<=c1)/\Below W.heap.size W w':=by
 have hlen:(rowCells 0 l).length=n*2:=by rw [rowCells_length,hn];rfl
 obtain ⟨b,off,rfl,_⟩:=hc.at_ 0 (by rw [hlen];omega)
 refine (cloneP_any W F ⟨b,off,none⟩ (rowCells 0 l) n c hlen hc (rowCells_one 0 l) h1).mono ?_
 rintro e w' ⟨⟨A1,c1,rfl,hown⟩,hb⟩
 obtain ⟨h2,h3⟩:=own_cells hown
 exact ⟨⟨A1,c1,rfl,h2.moved (.refl _ _) (fun i hi=> .inl (hF i hi)),h3⟩,hb⟩
set_option maxHeartbeats 1000000 in
set_option maxRecDepth 100000 in
theorem halfP_any (w:World) (F:Nat->Prop) (hF:∀ b,F b->b<w.heap.size) (p:Pg 0) (hp:EOk w F (0+1) p) (hin:Inner (0+1) p) (h8:8<p.els.length) (h16:p.els.length<=16):
 Calls Tryz.prog 126 #[pval 0 p] w fun e w'=>(∃ (A:Option Addr) (c:Nat) (x y:Pg 0),e= .returned (.slice A 2 c)/\2<=c/\Cells w' F A (rowCells (0+1) [x,y])/\IsPg w' F 0 (p.els.take (p.els.length/2)) x/\IsPg w' F 0 (p.els.drop (p.els.length/2)) y)/\Below w.heap.size w w':=by
 obtain ⟨f,A,els,c⟩:=p
 obtain ⟨h1,h2,h3,h4⟩:=hp
 dsimp only at h1 h2 h3 h4 h8 h16 ⊢
 obtain ⟨m1,hm1⟩:∃ m1,m1=els.length/2:=⟨_,rfl⟩
 obtain ⟨n,hn⟩:∃ n,n=els.length:=⟨_,rfl⟩
 obtain ⟨m2,hm2⟩:∃ m2,m2=n-m1:=⟨_,rfl⟩
 rw [<-hm1]
 have hq:(n:Int)/2=(m1:Int):=by omega
 obtain ⟨i0,z0,R⟩:=rowP
 have hcut1:∀ W,(Instr.slice 63 (.slice A n c) none (some (.int .i64 (m1:Int))) none).run Tryz.prog W= .ok (.slice A m1 c) W:=R.head A n c m1 (by omega)
 have hcut2:=R.tail A n c m1 (by omega)
 have hdr:=h2.drop m1 2 c (by rw [rowCells_length];exact Nat.mul_le_mul_right _ h3)
 have htk:=h2.take (m1*2)
 rw [show m1*2=m1*esize 0 from rfl] at hdr htk
 rw [rowCells_drop] at hdr
 rw [rowCells_take] at htk
 rw [show (fun a:Addr=>a.add (m1*esize 0))=(fun a:Addr=>a.add (m1*2)) from rfl] at hdr
 rw [<-hm2] at hcut2
 generalize (if c=m1 then A else A.map fun a=>a.add (m1*2))=A' at *
 have HT:=Lib.hid htk
 have HDR:=Lib.hid hdr
 have HCL1:Hid (∀ W,Below w.heap.size w W->Calls Tryz.prog 151 #[.slice A m1 c] W fun e w'=>(∃ A1 c1,e= .returned (.slice A1 m1 c1)/\Cells w' F A1 (rowCells 0 (els.take m1))/\m1<=c1)/\Below W.heap.size W w'):=fun W hW=>
  clonedP W F (fun b hb=>Nat.lt_of_lt_of_le (hF b hb) hW.size) A _ m1 c (by rw [List.length_take];omega) (by omega) (by omega) (HT.out.below hW)
 have HCL2:Hid (∀ W,Below w.heap.size w W->Calls Tryz.prog 151 #[.slice A' m2 (c-m1)] W fun e w'=>(∃ A1 c1,e= .returned (.slice A1 m2 c1)/\Cells w' F A1 (rowCells 0 (els.drop m1))/\m2<=c1)/\Below W.heap.size W w'):=fun W hW=>
  clonedP W F (fun b hb=>Nat.lt_of_lt_of_le (hF b hb) hW.size) A' _ m2 (c-m1) (by rw [List.length_drop];omega) (by omega) (by omega) (HDR.out.below hW)
 have HLF1:Hid (∀ W,Below w.heap.size w W->∀ A1 c1,Cells W F A1 (rowCells 0 (els.take m1))->m1<=c1->Calls Tryz.prog 145 #[.slice A1 m1 c1] W fun e w'=>(∃ p:Pg 0,e= .returned (pval 0 p)/\IsPg W F 0 (els.take m1) p)/\Below W.heap.size W w'):=fun W hW A1 c1 hc hm=>
  leaf_any W F A1 (els.take m1) m1 c1 hc (AllOk.below (AllOk.take h4 m1) hW) (by rw [List.length_take];omega) hm
 have HLF2:Hid (∀ W,Below w.heap.size w W->∀ A1 c1,Cells W F A1 (rowCells 0 (els.drop m1))->m2<=c1->Calls Tryz.prog 145 #[.slice A1 m2 c1] W fun e w'=>(∃ p:Pg 0,e= .returned (pval 0 p)/\IsPg W F 0 (els.drop m1) p)/\Below W.heap.size W w'):=fun W hW A1 c1 hc hm=>
  leaf_any W F A1 (els.drop m1) m2 c1 hc (AllOk.below (AllOk.drop h4 m1) hW) (by rw [List.length_drop];omega) hm
 have HPV:Hid (pval 0 ⟨f,A,els,c⟩= .agg #[.slice f.1 f.2.1.length f.2.2,.slice A n c,.slice none 0 0]):=by rw [hn];rfl
 have HFB:Hid (∀ b,F b->b<w.heap.size):=hF
 have hn8:8<n:=by omega
 have hn16:n<=16:=by omega
 have hni:((n:Int)<=8)=False:=by simp;omega
 rw [HPV.out]
 have HM1:=Lib.hid hm1
 have HM2:=Lib.hid hm2
 clear hF h1 h2 h3 h4 htk hdr R hin hn h8 h16 hm1 hm2
 generalize f.1=Af at *
 generalize f.2.1.length=nf at *
 generalize f.2.2=cf at *
 obtain ⟨w1,hw1⟩:∃ w1,w1=w.alloc (.cells #[.slice Af nf cf,.slice A n c,.slice none 0 0] 156):=⟨_,rfl⟩
 have HW:Hid (w.alloc (.cells #[.slice Af nf cf,.slice A n c,.slice none 0 0] 156)=w1):=hw1.symm
 have HB1:Hid (Blk w1 w.heap.size [.slice Af nf cf,.slice A n c,.slice none 0 0] 156):=by rw [hw1];exact Blk.new w _ _
 have HBW:Hid (Below w.heap.size w w1):=by rw [hw1];exact (Below.refl _ _).alloc (Nat.le_refl _) _
 clear hw1
 have k1:=HB1.out.cell (i:=1) (by simp)
 have k0:=HB1.out.cell (i:=0) (by simp)
 have k2:=HB1.out.cell (i:=2) (by simp)
 simp only [List.getElem_cons_zero,List.getElem_cons_succ] at k0 k1 k2
 go_enter Tryz.func126,Tryz.ntmps126
 go_wp2_with fail
 rw [HW.out]
 refine (count_leaf _ Af A nf cf n c (by omega)).mono ?_
 rintro e w3 ⟨rfl,hb3⟩
 have B3:=Lib.hid (HB1.out.below hb3 HB1.out.lt)
 have W3:=Lib.hid (hop HBW.out hb3)
 clear hb3 k0 k1 k2 HB1
 have k1:=B3.out.cell (i:=1) (by simp)
 have k0:=B3.out.cell (i:=0) (by simp)
 have k2:=B3.out.cell (i:=2) (by simp)
 simp only [List.getElem_cons_zero,List.getElem_cons_succ] at k0 k1 k2
 go_wp2_with fail
 refine (count_leaf _ Af A nf cf n c (by omega)).mono ?_
 rintro e w4 ⟨rfl,hb4⟩
 have B4:=Lib.hid (B3.out.below hb4 B3.out.lt)
 have W4:=Lib.hid (hop W3.out hb4)
 clear hb4 k0 k1 k2 B3
 have k1:=B4.out.cell (i:=1) (by simp)
 have k0:=B4.out.cell (i:=0) (by simp)
 have k2:=B4.out.cell (i:=2) (by simp)
 simp only [List.getElem_cons_zero,List.getElem_cons_succ] at k0 k1 k2
 go_wp2_with fail
 refine (isLeaf_yes _ Af A nf cf n c).mono ?_
 rintro e w5 ⟨rfl,hb5⟩
 have B5:=Lib.hid (B4.out.below hb5 B4.out.lt)
 have W5:=Lib.hid (hop W4.out hb5)
 clear hb5 k0 k1 k2 B4
 have k1:=B5.out.cell (i:=1) (by simp)
 simp only [List.getElem_cons_zero,List.getElem_cons_succ] at k1
 go_wp2_with fail
 have bd:Below w5.heap.size w5 w5.drew:=(Below.refl _ _).drew
 have HK:Hid (∀ W,Below w5.heap.size w5 W->W.cell? ⟨w.heap.size,1,none⟩=some (.slice A n c)):=fun W hW=>(B5.out.below hW B5.out.lt).cell (i:=1) (by simp)
 go_region_held_law (fun w'=>w'.cell? ⟨w.heap.size,1,none⟩=some (.slice A n c))
  (first | exact HK.out _ bd | exact HK.out _ bd6 | exact HK.out _ bd7 | exact HK.out _ bd8 | exact HK.out _ bd9 | go_keep)
  (first
   | (go_at_call 151;(with_reducible refine (HCL1.out _ (hop W5.out bd)).mono ?_);rintro e w6 ⟨⟨A1,c1,rfl,hc6,hm6⟩,hb6⟩;have bd6:Below w5.heap.size w5 w6:=undrew hb6;have C6:=Lib.hid hc6;have M6:=Lib.hid hm6;clear hb6 hc6 hm6)
   | (go_at_call 145;(with_reducible refine (HLF1.out _ (hop W5.out bd6) A1 c1 C6.out M6.out).mono ?_);rintro e w7 ⟨⟨x,rfl,hx⟩,hb7⟩;have bd7:Below w5.heap.size w5 w7:=hop bd6 hb7;have X7:=Lib.hid (hx.below hb7);clear hb7 hx)
   | (go_at_call 151;(with_reducible refine (HCL2.out _ (hop W5.out bd7)).mono ?_);rintro e w8 ⟨⟨A2,c2,rfl,hc8,hm8⟩,hb8⟩;have bd8:Below w5.heap.size w5 w8:=hop bd7 hb8;have C8:=Lib.hid hc8;have M8:=Lib.hid hm8;have X8:=Lib.hid (X7.out.below hb8);clear hb8 hc8 hm8)
   | (go_at_call 145;(with_reducible refine (HLF2.out _ (hop W5.out bd8) A2 c2 C8.out M8.out).mono ?_);rintro e w9 ⟨⟨y,rfl,hy⟩,hb9⟩;have bd9:Below w5.heap.size w5 w9:=hop bd8 hb9;have X9:=Lib.hid (X8.out.below hb9);have Y9:=Lib.hid (hy.below hb9);clear hb9 hy;obtain ⟨a0,m0,d0,a1,n1,d1,a2,m2',d2,hxf⟩:=page_form 0 x;obtain ⟨e0,p0,q0,e1,p1,q1,e2,p2,q2,hyf⟩:=page_form 0 y;have XF:=Lib.hid hxf;have YF:=Lib.hid hyf;unfold pval;rw [hxf,hyf];clear hxf hyf))
 have HRC:Hid (rowCells (0+1) [x,y]=[.slice a0 m0 d0,.slice a1 n1 d1,.slice a2 m2' d2,.slice e0 p0 q0,.slice e1 p1 q1,.slice e2 p2 q2]):=by
  exact (rowCells_two (0+1) x y).trans (by rw [XF.out,YF.out];rfl)
 have HBA:Hid (Below w.heap.size w (w9.alloc (.cells #[.slice a0 m0 d0,.slice a1 n1 d1,.slice a2 m2' d2,.slice e0 p0 q0,.slice e1 p1 q1,.slice e2 p2 q2] 156))):=(hop W5.out bd9).alloc (hop W5.out bd9).size _
 have HBB:Hid (Below w9.heap.size w9 (w9.alloc (.cells #[.slice a0 m0 d0,.slice a1 n1 d1,.slice a2 m2' d2,.slice e0 p0 q0,.slice e1 p1 q1,.slice e2 p2 q2] 156))):=(Below.refl _ _).alloc (Nat.le_refl _) _
 have HCE:Hid (Cells (w9.alloc (.cells #[.slice a0 m0 d0,.slice a1 n1 d1,.slice a2 m2' d2,.slice e0 p0 q0,.slice e1 p1 q1,.slice e2 p2 q2] 156)) F (some ⟨w9.heap.size,0,none⟩) (rowCells (0+1) [x,y])):=by
  rw [HRC.out]
  exact cells_new w9 F _ _ (fun hf=>by have:=HFB.out _ hf;have:=(hop W5.out bd9).size;omega)
 go_wp2_with fail
 go_ret
 exact ⟨⟨some ⟨w9.heap.size,0,none⟩,2,x,y,rfl,Nat.le_refl _,HCE.out,X9.out.below HBB.out,Y9.out.below HBB.out⟩,HBA.out⟩
set_option maxHeartbeats 1000000 in
set_option maxRecDepth 100000 in
theorem keepP_any (w:World) (F:Nat->Prop) (hF:∀ b,F b->b<w.heap.size) (p:Pg 0) (h8:p.els.length<=8):
 Calls Tryz.prog 126 #[pval 0 p] w fun e w'=>(∃ (A:Option Addr) (c:Nat),e= .returned (.slice A 1 c)/\1<=c/\Cells w' F A (rowCells (0+1) [p]))/\Below w.heap.size w w':=by
 have HRC0:=Lib.hid (rowCells_single (0+1) p)
 obtain ⟨f,A,els,c⟩:=p
 dsimp only at h8
 obtain ⟨n,hn⟩:∃ n,n=els.length:=⟨_,rfl⟩
 have HPV:Hid (pval 0 ⟨f,A,els,c⟩= .agg #[.slice f.1 f.2.1.length f.2.2,.slice A n c,.slice none 0 0]):=by rw [hn];rfl
 have HRC:Hid (rowCells (0+1) [(⟨f,A,els,c⟩:Pg 0)]=[.slice f.1 f.2.1.length f.2.2,.slice A n c,.slice none 0 0]):=by rw [hn];exact HRC0.out
 have HFB:Hid (∀ b,F b->b<w.heap.size):=hF
 have hn8:n<=8:=by omega
 have hni:((n:Int)<=8)=True:=by simp;omega
 rw [HPV.out]
 clear hF hn h8 HRC0
 generalize f.1=Af at *
 generalize f.2.1.length=nf at *
 generalize f.2.2=cf at *
 obtain ⟨w1,hw1⟩:∃ w1,w1=w.alloc (.cells #[.slice Af nf cf,.slice A n c,.slice none 0 0] 156):=⟨_,rfl⟩
 have HW:Hid (w.alloc (.cells #[.slice Af nf cf,.slice A n c,.slice none 0 0] 156)=w1):=hw1.symm
 have HB1:Hid (Blk w1 w.heap.size [.slice Af nf cf,.slice A n c,.slice none 0 0] 156):=by rw [hw1];exact Blk.new w _ _
 have HBW:Hid (Below w.heap.size w w1):=by rw [hw1];exact (Below.refl _ _).alloc (Nat.le_refl _) _
 clear hw1
 have k1:=HB1.out.cell (i:=1) (by simp)
 have k0:=HB1.out.cell (i:=0) (by simp)
 have k2:=HB1.out.cell (i:=2) (by simp)
 simp only [List.getElem_cons_zero,List.getElem_cons_succ] at k0 k1 k2
 go_enter Tryz.func126,Tryz.ntmps126
 go_wp2_with fail
 rw [HW.out]
 refine (count_leaf _ Af A nf cf n c (by omega)).mono ?_
 rintro e w3 ⟨rfl,hb3⟩
 have B3:=Lib.hid (HB1.out.below hb3 HB1.out.lt)
 have W3:=Lib.hid (hop HBW.out hb3)
 clear hb3 k0 k1 k2 HB1
 have k1:=B3.out.cell (i:=1) (by simp)
 have k0:=B3.out.cell (i:=0) (by simp)
 have k2:=B3.out.cell (i:=2) (by simp)
 simp only [List.getElem_cons_zero,List.getElem_cons_succ] at k0 k1 k2
 go_wp2_with fail
 refine (count_leaf _ Af A nf cf n c (by omega)).mono ?_
 rintro e w4 ⟨rfl,hb4⟩
 have B4:=Lib.hid (B3.out.below hb4 B3.out.lt)
 have W4:=Lib.hid (hop W3.out hb4)
 clear hb4 k0 k1 k2 B3
 have k1:=B4.out.cell (i:=1) (by simp)
 have k0:=B4.out.cell (i:=0) (by simp)
 have k2:=B4.out.cell (i:=2) (by simp)
 simp only [List.getElem_cons_zero,List.getElem_cons_succ] at k0 k1 k2
 have HBA:Hid (Below w.heap.size w (w4.alloc (.cells #[.slice Af nf cf,.slice A n c,.slice none 0 0] 156))):=W4.out.alloc W4.out.size _
 have HCE:Hid (Cells (w4.alloc (.cells #[.slice Af nf cf,.slice A n c,.slice none 0 0] 156)) F (some ⟨w4.heap.size,0,none⟩) [.slice Af nf cf,.slice A n c,.slice none 0 0]):=
  cells_new w4 F _ _ (fun hf=>by have:=HFB.out _ hf;have:=W4.out.size;omega)
 go_wp2_with fail
 go_ret
 refine ⟨⟨some ⟨w4.heap.size,0,none⟩,1,rfl,Nat.le_refl _,?_⟩,HBA.out⟩
 rw [HRC.out]
 exact HCE.out
theorem rowK:∃ i z,RowTy Tryz.prog 154 156 3 72 i z:=by
 have hf:(Tryz.prog.info? 156).map (fun i=>(i.zero,i.size,i.bytes))=some (some (.agg #[.slice none 0 0,.slice none 0 0,.slice none 0 0]),3,72):=by kernel_rfl
 obtain ⟨i,hi,hz,hs,hb⟩:=info_parts hf
 exact ⟨i,_,Tryz.underlying154,by kernel_rfl,hi,hz,hs,hb,rfl,by decide⟩
set_option maxHeartbeats 400000 in
theorem growK_any (w:World) (m:Nat) (hm:m<=1000000):
 Calls Tryz.prog 168 #[.slice none 0 0,.int .i64 (m:Int)] w fun e w'=>(∃ A c,e= .returned (.slice A 0 c)/\w'.ownsRow w.heap.size 156 3 (.slice A 0 c) 0 [])/\Below w.heap.size w w':=by
 obtain ⟨i0,z0,R⟩:=rowK
 by_cases h0:m=0
 · subst h0
   go_enter Tryz.func168,Tryz.ntmps168
   go_wp2
   go_ret
   exact ⟨⟨none,0,rfl,World.ownsRow_nil _ _ _ _⟩,Below.refl _ _⟩
 · have hp:0<m:=by omega
   have hpi:(0:Int)<(m:Int):=by omega
   have hcut:∀ (A:Option Addr) (n c:Nat) (W:World),(Instr.slice 154 (.slice A n c) none (some (.int .i64 0)) none).run Tryz.prog W= .ok (.slice A 0 c) W:=fun A n c W=>R.head A n c 0 (Nat.zero_le _) W
   have HR:=Lib.hid R
   clear R h0
   go_enter Tryz.func168,Tryz.ntmps168
   go_wp2_with (refine wpList_append_room HR.out rfl (.tmp 20) (.tmp 21) 3 rfl Tryz.underlying3 m rfl rfl hp (by omega) hm ?_)
   intro cap w1 hown hb1 hcap
   have HOWN:=Lib.hid hown
   have HB:=Lib.hid hb1
   clear hown hb1 hcap
   go_wp2_with fail
   go_ret
   exact ⟨⟨_,_,rfl,HOWN.out⟩,HB.out⟩
set_option maxHeartbeats 1000000 in
set_option maxRecDepth 100000 in
theorem concatK_any (w:World) (F:Nat->Prop) (B off d dc:Nat) (rs:List RowV) (hd:rs.length=d) (hdm:d<=1000) (hB:B<w.heap.size) (hc:∀ j (hj:j<rs.length),w.cell? ⟨B,off+j,none⟩=some (rvVal rs[j])) (hok:∀ r ∈ rs,RvOk w F 3 r) (ht:tot rs<=1000000):
 Calls Tryz.prog 166 #[.slice (some ⟨B,off,none⟩) d dc] w fun e w'=>(∃ A c,e= .returned (.slice A (tot rs) c)/\w'.ownsRow w.heap.size 156 3 (.slice A (tot rs) c) (tot rs) (cat rs))/\Below w.heap.size w w':=by
 obtain ⟨i0,z0,R⟩:=rowK
 have HR:=Lib.hid R
 have HD:=Lib.hid hd
 have HC:Hid (∀ W,Below w.heap.size w W->∀ k (hk:k<rs.length),W.cell? ⟨B,off+k,none⟩=some (.slice rs[k].1 rs[k].2.1 rs[k].2.2.1)):=fun W hW k hk=>(hW.cell (p:=⟨B,off+k,none⟩) hB).trans (hc k hk)
 have HOK:=Lib.hid hok
 have HT0:Hid (tot (rs.take 0)=0):=rfl
 have HTD:Hid (tot (rs.take d)=tot rs/\cat (rs.take d)=cat rs):=by rw [<-hd,List.take_length];exact ⟨rfl,rfl⟩
 have HTT:=Lib.hid (tot_take rs)
 have HTS:Hid (∀ k (hk:k<rs.length),tot (rs.take (k+1))=tot (rs.take k)+rs[k].2.1):=fun k hk=>tot_step hk
 clear hd hc hok R
 go_enter Tryz.func166,Tryz.ntmps166
 go_wp2_with fail
 go_loopg [3,11] d (fun kx s3 s11 wr=>∃ k,k+kx=d/\s11= .int .i64 k/\s3= .int .i64 (tot (rs.take k):Nat)/\w=wr)
 case atStart=>exact ⟨0,by omega,rfl,by rw [HT0.out];rfl,rfl⟩
 case round=>
  obtain ⟨k,hk,rfl,rfl,rfl⟩:=hrel
  have hTk:=HTT.out k
  by_cases hlt:k<d
  · have hkl:(k:Int)<(d:Int):=by omega
    have hkr:k<rs.length:=by rw [HD.out];exact hlt
    have c1:=HC.out w (Below.refl _ _) k hkr
    have hs:=HTS.out k hkr
    have hT2:=HTT.out (k+1)
    obtain ⟨x,hx⟩:∃ x,x=rs[k].2.1:=⟨_,rfl⟩
    rw [<-hx] at c1 hs
    generalize rs[k].1=A1 at *
    generalize rs[k].2.2.1=c2 at *
    clear hx
    obtain ⟨T,hT⟩:∃ T,T=tot (rs.take k):=⟨_,rfl⟩
    obtain ⟨T2,hT2'⟩:∃ T2,T2=tot (rs.take (k+1)):=⟨_,rfl⟩
    rw [<-hT] at hTk hs ⊢
    rw [<-hT2'] at hT2 hs
    have HS:=Lib.hid hs
    have HT2:=Lib.hid hT2'
    have hle:T+x<=1000000:=by omega
    clear hs hT hT2'
    go_wp2_with fail
    go_roundg (d-(k+1))
    case measure=>omega
    case rel=>exact ⟨k+1,by omega,by go_num,by rw [<-HT2.out,HS.out];go_num,rfl⟩
  · obtain rfl:k=d:=by omega
    have hkl: ¬ (k:Int)<(k:Int):=by omega
    rw [HTD.out.1]
    obtain ⟨T,hT⟩:∃ T,T=tot rs:=⟨_,rfl⟩
    rw [<-hT] at ht hTk ⊢
    have HT:=Lib.hid hT
    clear hT
    go_wp2_with fail
    refine (growK_any _ T ht).mono ?_
    rintro e w2 ⟨⟨A,c,rfl,hown⟩,hb⟩
    have HOWN:=Lib.hid hown
    have HB:=Lib.hid hb
    clear hown hb
    go_wp2_with fail
    have HCT0:Hid (cat (rs.take 0)=[]):=rfl
    go_loopg [6,27] k (fun kx s6 s27 wr=>∃ j,j+kx=k/\s27= .int .i64 j/\wr.ownsRow w.heap.size 156 3 s6 (tot (rs.take j)) (cat (rs.take j))/\Below w.heap.size w wr)
    case atStart=>exact ⟨0,by omega,rfl,by rw [HT0.out,HCT0.out];exact HOWN.out,HB.out⟩
    case round=>
     obtain ⟨j,hj,rfl,hown,hb⟩:=hrel
     have HOW:=Lib.hid hown
     have HBW:=Lib.hid hb
     have hTj:=HTT.out j
     clear hown hb HOWN HB hkl
     by_cases hlt2:j<k
     · have hkl:(j:Int)<(k:Int):=by omega
       have hkr:j<rs.length:=by rw [HD.out];exact hlt2
       have c1:=HC.out wr HBW.out j hkr
       have HS:=Lib.hid (HTS.out j hkr)
       have HCS:Hid (cat (rs.take (j+1))=cat (rs.take j)++rs[j].2.2.2):=cat_step hkr
       have hT2:=HTT.out (j+1)
       have HRV:=Lib.hid ((HOK.out _ (List.getElem_mem hkr)).below HBW.out)
       have hle:tot (rs.take j)+rs[j].2.1<=1000000:=by have:=HS.out;have:=HT.out;omega
       obtain ⟨form6,hform⟩:∃ q:Option Addr × Nat,u6= .slice q.1 (tot (rs.take j)) q.2:=by
        obtain ⟨A,c,e⟩:=own_shape HOW.out
        exact ⟨(A,c),e⟩
       subst hform
       clear hT2 hTj
       go_wp2_with (refine wpList_append_cells HR.out rfl (.tmp 31) (.tmp 32) rfl F w.heap.size _ _ _ rfl HOW.out rs[j].1 rs[j].2.2.2 rs[j].2.1 rs[j].2.2.1 rfl HRV.out.2.1 HRV.out.1 HRV.out.2.2 (by omega) hle HBW.out.size ?_)
       intro v' w1 hown' hg
       have HO1:Hid (w1.ownsRow w.heap.size 156 3 v' (tot (rs.take (j+1))) (cat (rs.take (j+1)))):=by
        show World.ownsRow _ _ _ _ _ _ _
        rw [HS.out,HCS.out];exact hown'
       have HB1:Hid (Below w.heap.size w w1):=below_grown HBW.out HBW.out.size HOW.out hg
       clear hown' hg
       go_wp2_with fail
       go_roundg (k-(j+1))
       case measure=>omega
       case rel=>exact ⟨j+1,by omega,by go_num,HO1.out,HB1.out⟩
     · obtain rfl:j=k:=by omega
       have hkl: ¬ (j:Int)<(j:Int):=by omega
       have HO:Hid (wr.ownsRow w.heap.size 156 3 u6 T (cat rs)):=by
        have:=HOW.out
        rw [HTD.out.1,HTD.out.2,<-HT.out] at this
        exact this
       obtain ⟨A,c,rfl⟩:=own_shape HO.out
       clear HOW
       go_wp2_with fail
       go_ret
       exact ⟨⟨A,c,by rw [<-HT.out];rfl,by rw [<-HT.out];exact HO.out⟩,HBW.out⟩
set_option maxHeartbeats 400000 in
theorem cloneK_any (w:World) (F:Nat->Prop) (ad:Addr) (C:List Value) (n c:Nat) (hC:C.length=n*3) (hr:Cells w F (some ad) C) (h1:∀ u ∈ C,u.oneCell'=true) (hn:n<=1000000):
 Calls Tryz.prog 152 #[.slice (some ad) n c] w fun e w'=>(∃ A c,e= .returned (.slice A n c)/\w'.ownsRow w.heap.size 156 3 (.slice A n c) n C)/\Below w.heap.size w w':=by
 obtain ⟨i0,z0,R⟩:=rowK
 have HR:=Lib.hid R
 have HB:Hid (Below w.heap.size w (w.alloc (.cells #[] 156))):=(Below.refl _ _).alloc (Nat.le_refl _) _
 have HOWN:Hid ((w.alloc (.cells #[] 156)).ownsRow w.heap.size 156 3 (.slice (some ⟨w.heap.size,0,none⟩) 0 0) 0 []):=
  ⟨by simp,.inr ⟨w.heap.size,0, #[],rfl,Nat.le_refl _,heap_alloc_new w _,Nat.le_refl _,by unfold maxLen;omega,by simp,by simp⟩⟩
 have HC:=Lib.hid (hr.below HB.out)
 have hnil:∀ (W:World) (A:Option Addr) (n c:Nat),(binOp .eql 154 (.slice A n c) (.slice none 0 0)).run Tryz.prog W= .ok (.bool A.isNone) W:=fun W A n c=>Lib.run_eql_slice_nil (P:=Tryz.prog) W 154 156 A n c 0 0 Tryz.underlying154
 clear R hr
 go_enter Tryz.func152,Tryz.ntmps152
 go_wp2_with (refine wpList_append_cells HR.out rfl (.tmp 5) (.tmp 6) rfl F w.heap.size _ _ _ rfl HOWN.out (some ad) C n c rfl hC HC.out h1 (by omega) (by omega) (by simp) ?_)
 intro v' w1 hown hg
 have HB1:Hid (Below w.heap.size w w1):=below_grown HB.out (by simp) HOWN.out hg
 obtain ⟨A,c',rfl⟩:=own_shape hown
 have HO:=Lib.hid hown
 clear hown hg
 go_wp2_with fail
 go_ret
 exact ⟨⟨A,c',rfl,HO.out⟩,HB1.out⟩
theorem joinK (h:Nat) (W:World) (F:Nat->Prop) (hF:∀ b,F b->b<W.heap.size) (B d dc:Nat) (ls:List (Option Addr × List (El (h+1)) × Nat)) (N:Nat) (hd:ls.length=d) (hdm:d<=1000) (hB:B<W.heap.size)
 (hc:∀ j (hj:j<ls.length),W.cell? ⟨B,0+j,none⟩=some (.slice ls[j].1 ls[j].2.1.length ls[j].2.2)) (hok:∀ r ∈ ls,Cells W F r.1 (rowCells (h+1) r.2.1)) (hN:((ls.map fun r=>r.2.1).flatten).length=N) (hm:N<=1000000):
 Calls Tryz.prog 166 #[.slice (some ⟨B,0,none⟩) d dc] W fun e w'=>(∃ A c,e= .returned (.slice A N c)/\Cells w' F A (rowCells (h+1) (ls.map fun r=>r.2.1).flatten)/\N<=c)/\Below W.heap.size W w':=by
 have e1:tot (ls.map fun r=>((r.1,r.2.1.length,r.2.2,rowCells (h+1) r.2.1):RowV))=N:=by
  rw [<-hN,List.length_flatten,List.map_map]
  unfold tot
  rw [List.map_map]
  rfl
 have e2:cat (ls.map fun r=>((r.1,r.2.1.length,r.2.2,rowCells (h+1) r.2.1):RowV))=rowCells (h+1) (ls.map fun r=>r.2.1).flatten:=by
  unfold cat
  rw [List.map_map]
  clear hN e1 hok hc hd
  induction ls with
  | nil=>rfl
  | cons r ls ih=>
   rw [List.map_cons,List.flatten_cons,List.map_cons,List.flatten_cons,rowCells_append,ih]
   rfl
 have:=concatK_any W F B 0 d dc (ls.map fun r=>((r.1,r.2.1.length,r.2.2,rowCells (h+1) r.2.1):RowV)) (by rw [List.length_map];exact hd) hdm hB (fun j hj=>by
  rw [List.length_map] at hj
  rw [hc j hj,List.getElem_map]
  rfl) (fun r hr=>by
  obtain ⟨q,hq,rfl⟩:=List.mem_map.1 hr
  exact ⟨hok q hq,rowCells_length (h+1) q.2.1,rowCells_one (h+1) q.2.1⟩) (by rw [e1];exact hm)
 rw [e1,e2] at this
 refine this.mono ?_
 rintro e w' ⟨⟨A,c,rfl,hown⟩,hb⟩
 obtain ⟨h2,h3⟩:=own_cells hown
 exact ⟨⟨A,c,rfl,h2.moved (.refl _ _) (fun i hi=> .inl (hF i hi)),h3⟩,hb⟩
theorem clonedK (h:Nat) (W:World) (F:Nat->Prop) (hF:∀ b,F b->b<W.heap.size) (A:Option Addr) (l:List (El (h+1))) (n c:Nat) (hn:l.length=n) (h0:0<n) (h1:n<=1000000) (hc:Cells W F A (rowCells (h+1) l)):
 Calls Tryz.prog 152 #[.slice A n c] W fun e w'=>(∃ A1 c1,e= .returned (.slice A1 n c1)/\Cells w' F A1 (rowCells (h+1) l)/\n<=c1)/\Below W.heap.size W w':=by
 have hlen:(rowCells (h+1) l).length=n*3:=by rw [rowCells_length,hn];rfl
 obtain ⟨b,off,rfl,_⟩:=hc.at_ 0 (by rw [hlen];omega)
 refine (cloneK_any W F ⟨b,off,none⟩ (rowCells (h+1) l) n c hlen hc (rowCells_one (h+1) l) h1).mono ?_
 rintro e w' ⟨⟨A1,c1,rfl,hown⟩,hb⟩
 obtain ⟨h2,h3⟩:=own_cells hown
 exact ⟨⟨A1,c1,rfl,h2.moved (.refl _ _) (fun i hi=> .inl (hF i hi)),h3⟩,hb⟩
set_option maxHeartbeats 1000000 in
set_option maxRecDepth 100000 in
theorem halfK_any (h:Nat) (w:World) (F:Nat->Prop) (hF:∀ b,F b->b<w.heap.size) (p:Pg (h+1)) (hp:EOk w F ((h+1)+1) p) (hin:Inner ((h+1)+1) p) (h8:8<p.els.length) (h16:p.els.length<=16):
 Calls Tryz.prog 126 #[pval (h+1) p] w fun e w'=>(∃ (A:Option Addr) (c:Nat) (x y:Pg (h+1)),e= .returned (.slice A 2 c)/\2<=c/\Cells w' F A (rowCells ((h+1)+1) [x,y])/\IsPg w' F (h+1) (p.els.take (p.els.length/2)) x/\IsPg w' F (h+1) (p.els.drop (p.els.length/2)) y)/\Below w.heap.size w w':=by
 obtain ⟨f,A,els,c⟩:=p
 obtain ⟨h1,h2,h3,h4⟩:=hp
 dsimp only at h1 h2 h3 h4 h8 h16 ⊢
 obtain ⟨m1,hm1⟩:∃ m1,m1=els.length/2:=⟨_,rfl⟩
 obtain ⟨n,hn⟩:∃ n,n=els.length:=⟨_,rfl⟩
 obtain ⟨m2,hm2⟩:∃ m2,m2=n-m1:=⟨_,rfl⟩
 rw [<-hm1]
 have hq:(n:Int)/2=(m1:Int):=by omega
 obtain ⟨i0,z0,R⟩:=rowK
 have hcut1:∀ W,(Instr.slice 154 (.slice A n c) none (some (.int .i64 (m1:Int))) none).run Tryz.prog W= .ok (.slice A m1 c) W:=R.head A n c m1 (by omega)
 have hcut2:=R.tail A n c m1 (by omega)
 have hdr:=h2.drop m1 3 c (by rw [rowCells_length];exact Nat.mul_le_mul_right _ h3)
 have htk:=h2.take (m1*3)
 rw [show m1*3=m1*esize (h+1) from rfl] at hdr htk
 rw [rowCells_drop] at hdr
 rw [rowCells_take] at htk
 rw [show (fun a:Addr=>a.add (m1*esize (h+1)))=(fun a:Addr=>a.add (m1*3)) from rfl] at hdr
 rw [<-hm2] at hcut2
 generalize (if c=m1 then A else A.map fun a=>a.add (m1*3))=A' at *
 have HT:=Lib.hid htk
 have HDR:=Lib.hid hdr
 have HCL1:Hid (∀ W,Below w.heap.size w W->Calls Tryz.prog 152 #[.slice A m1 c] W fun e w'=>(∃ A1 c1,e= .returned (.slice A1 m1 c1)/\Cells w' F A1 (rowCells (h+1) (els.take m1))/\m1<=c1)/\Below W.heap.size W w'):=fun W hW=>
  clonedK h W F (fun b hb=>Nat.lt_of_lt_of_le (hF b hb) hW.size) A _ m1 c (by rw [List.length_take];omega) (by omega) (by omega) (HT.out.below hW)
 have HCL2:Hid (∀ W,Below w.heap.size w W->Calls Tryz.prog 152 #[.slice A' m2 (c-m1)] W fun e w'=>(∃ A1 c1,e= .returned (.slice A1 m2 c1)/\Cells w' F A1 (rowCells (h+1) (els.drop m1))/\m2<=c1)/\Below W.heap.size W w'):=fun W hW=>
  clonedK h W F (fun b hb=>Nat.lt_of_lt_of_le (hF b hb) hW.size) A' _ m2 (c-m1) (by rw [List.length_drop];omega) (by omega) (by omega) (HDR.out.below hW)
 have HLF1:Hid (∀ W,Below w.heap.size w W->∀ A1 c1,Cells W F A1 (rowCells (h+1) (els.take m1))->m1<=c1->Calls Tryz.prog 150 #[.slice A1 m1 c1] W fun e w'=>(∃ p:Pg (h+1),e= .returned (pval (h+1) p)/\IsPg W F (h+1) (els.take m1) p)/\Below W.heap.size W w'):=fun W hW A1 c1 hc hm=>
  above_any W F h A1 (els.take m1) m1 c1 hc (AllOk.below (AllOk.take h4 m1) hW) (fun x hx=>hin.full (List.mem_of_mem_take hx)) (by rw [List.length_take];omega) hm (by omega)
 have HLF2:Hid (∀ W,Below w.heap.size w W->∀ A1 c1,Cells W F A1 (rowCells (h+1) (els.drop m1))->m2<=c1->Calls Tryz.prog 150 #[.slice A1 m2 c1] W fun e w'=>(∃ p:Pg (h+1),e= .returned (pval (h+1) p)/\IsPg W F (h+1) (els.drop m1) p)/\Below W.heap.size W w'):=fun W hW A1 c1 hc hm=>
  above_any W F h A1 (els.drop m1) m2 c1 hc (AllOk.below (AllOk.drop h4 m1) hW) (fun x hx=>hin.full (List.mem_of_mem_drop hx)) (by rw [List.length_drop];omega) hm (by omega)
 have HPV:Hid (pval (h+1) ⟨f,A,els,c⟩= .agg #[.slice f.1 f.2.1.length f.2.2,.slice none 0 0,.slice A n c]):=by rw [hn];rfl
 have HFB:Hid (∀ b,F b->b<w.heap.size):=hF
 have hn8:8<n:=by omega
 have hn16:n<=16:=by omega
 have hni:((n:Int)<=8)=False:=by simp;omega
 rw [HPV.out]
 have HM1:=Lib.hid hm1
 have HM2:=Lib.hid hm2
 clear hF h1 h2 h3 h4 htk hdr R hin hn h8 h16 hm1 hm2
 generalize f.1=Af at *
 generalize f.2.1.length=nf at *
 generalize f.2.2=cf at *
 obtain ⟨w1,hw1⟩:∃ w1,w1=w.alloc (.cells #[.slice Af nf cf,.slice none 0 0,.slice A n c] 156):=⟨_,rfl⟩
 have HW:Hid (w.alloc (.cells #[.slice Af nf cf,.slice none 0 0,.slice A n c] 156)=w1):=hw1.symm
 have HB1:Hid (Blk w1 w.heap.size [.slice Af nf cf,.slice none 0 0,.slice A n c] 156):=by rw [hw1];exact Blk.new w _ _
 have HBW:Hid (Below w.heap.size w w1):=by rw [hw1];exact (Below.refl _ _).alloc (Nat.le_refl _) _
 clear hw1
 have k1:=HB1.out.cell (i:=2) (by simp)
 have k0:=HB1.out.cell (i:=0) (by simp)
 have k2:=HB1.out.cell (i:=1) (by simp)
 simp only [List.getElem_cons_zero,List.getElem_cons_succ] at k0 k1 k2
 go_enter Tryz.func126,Tryz.ntmps126
 go_wp2_with fail
 rw [HW.out]
 refine (count_node _ Af A nf cf n c (by omega)).mono ?_
 rintro e w3 ⟨rfl,hb3⟩
 have B3:=Lib.hid (HB1.out.below hb3 HB1.out.lt)
 have W3:=Lib.hid (hop HBW.out hb3)
 clear hb3 k0 k1 k2 HB1
 have k1:=B3.out.cell (i:=2) (by simp)
 have k0:=B3.out.cell (i:=0) (by simp)
 have k2:=B3.out.cell (i:=1) (by simp)
 simp only [List.getElem_cons_zero,List.getElem_cons_succ] at k0 k1 k2
 go_wp2_with fail
 refine (count_node _ Af A nf cf n c (by omega)).mono ?_
 rintro e w4 ⟨rfl,hb4⟩
 have B4:=Lib.hid (B3.out.below hb4 B3.out.lt)
 have W4:=Lib.hid (hop W3.out hb4)
 clear hb4 k0 k1 k2 B3
 have k1:=B4.out.cell (i:=2) (by simp)
 have k0:=B4.out.cell (i:=0) (by simp)
 have k2:=B4.out.cell (i:=1) (by simp)
 simp only [List.getElem_cons_zero,List.getElem_cons_succ] at k0 k1 k2
 go_wp2_with fail
 refine (isLeaf_no _ Af none A nf cf 0 0 n c (by omega)).mono ?_
 rintro e w5 ⟨rfl,hb5⟩
 have B5:=Lib.hid (B4.out.below hb5 B4.out.lt)
 have W5:=Lib.hid (hop W4.out hb5)
 clear hb5 k0 k1 k2 B4
 have k1:=B5.out.cell (i:=2) (by simp)
 simp only [List.getElem_cons_zero,List.getElem_cons_succ] at k1
 go_wp2_with fail
 have bd:Below w5.heap.size w5 w5.drew:=(Below.refl _ _).drew
 have HK:Hid (∀ W,Below w5.heap.size w5 W->W.cell? ⟨w.heap.size,2,none⟩=some (.slice A n c)):=fun W hW=>(B5.out.below hW B5.out.lt).cell (i:=2) (by simp)
 go_region_held_law (fun w'=>w'.cell? ⟨w.heap.size,2,none⟩=some (.slice A n c))
  (first | exact HK.out _ bd | exact HK.out _ bd6 | exact HK.out _ bd7 | exact HK.out _ bd8 | exact HK.out _ bd9 | go_keep)
  (first
   | (go_at_call 152;(with_reducible refine (HCL1.out _ (hop W5.out bd)).mono ?_);rintro e w6 ⟨⟨A1,c1,rfl,hc6,hm6⟩,hb6⟩;have bd6:Below w5.heap.size w5 w6:=undrew hb6;have C6:=Lib.hid hc6;have M6:=Lib.hid hm6;clear hb6 hc6 hm6)
   | (go_at_call 150;(with_reducible refine (HLF1.out _ (hop W5.out bd6) A1 c1 C6.out M6.out).mono ?_);rintro e w7 ⟨⟨x,rfl,hx⟩,hb7⟩;have bd7:Below w5.heap.size w5 w7:=hop bd6 hb7;have X7:=Lib.hid (hx.below hb7);clear hb7 hx)
   | (go_at_call 152;(with_reducible refine (HCL2.out _ (hop W5.out bd7)).mono ?_);rintro e w8 ⟨⟨A2,c2,rfl,hc8,hm8⟩,hb8⟩;have bd8:Below w5.heap.size w5 w8:=hop bd7 hb8;have C8:=Lib.hid hc8;have M8:=Lib.hid hm8;have X8:=Lib.hid (X7.out.below hb8);clear hb8 hc8 hm8)
   | (go_at_call 150;(with_reducible refine (HLF2.out _ (hop W5.out bd8) A2 c2 C8.out M8.out).mono ?_);rintro e w9 ⟨⟨y,rfl,hy⟩,hb9⟩;have bd9:Below w5.heap.size w5 w9:=hop bd8 hb9;have X9:=Lib.hid (X8.out.below hb9);have Y9:=Lib.hid (hy.below hb9);clear hb9 hy;obtain ⟨a0,m0,d0,a1,n1,d1,a2,m2',d2,hxf⟩:=page_form (h+1) x;obtain ⟨e0,p0,q0,e1,p1,q1,e2,p2,q2,hyf⟩:=page_form (h+1) y;have XF:=Lib.hid hxf;have YF:=Lib.hid hyf;unfold pval;rw [hxf,hyf];clear hxf hyf))
 have HRC:Hid (rowCells ((h+1)+1) [x,y]=[.slice a0 m0 d0,.slice a1 n1 d1,.slice a2 m2' d2,.slice e0 p0 q0,.slice e1 p1 q1,.slice e2 p2 q2]):=by
  exact (rowCells_two ((h+1)+1) x y).trans (by rw [XF.out,YF.out];rfl)
 have HBA:Hid (Below w.heap.size w (w9.alloc (.cells #[.slice a0 m0 d0,.slice a1 n1 d1,.slice a2 m2' d2,.slice e0 p0 q0,.slice e1 p1 q1,.slice e2 p2 q2] 156))):=(hop W5.out bd9).alloc (hop W5.out bd9).size _
 have HBB:Hid (Below w9.heap.size w9 (w9.alloc (.cells #[.slice a0 m0 d0,.slice a1 n1 d1,.slice a2 m2' d2,.slice e0 p0 q0,.slice e1 p1 q1,.slice e2 p2 q2] 156))):=(Below.refl _ _).alloc (Nat.le_refl _) _
 have HCE:Hid (Cells (w9.alloc (.cells #[.slice a0 m0 d0,.slice a1 n1 d1,.slice a2 m2' d2,.slice e0 p0 q0,.slice e1 p1 q1,.slice e2 p2 q2] 156)) F (some ⟨w9.heap.size,0,none⟩) (rowCells ((h+1)+1) [x,y])):=by
  rw [HRC.out]
  exact cells_new w9 F _ _ (fun hf=>by have:=HFB.out _ hf;have:=(hop W5.out bd9).size;omega)
 go_wp2_with fail
 go_ret
 exact ⟨⟨some ⟨w9.heap.size,0,none⟩,2,x,y,rfl,Nat.le_refl _,HCE.out,X9.out.below HBB.out,Y9.out.below HBB.out⟩,HBA.out⟩
set_option maxHeartbeats 1000000 in
set_option maxRecDepth 100000 in
theorem keepK_any (h:Nat) (w:World) (F:Nat->Prop) (hF:∀ b,F b->b<w.heap.size) (p:Pg (h+1)) (h8:p.els.length<=8):
 Calls Tryz.prog 126 #[pval (h+1) p] w fun e w'=>(∃ (A:Option Addr) (c:Nat),e= .returned (.slice A 1 c)/\1<=c/\Cells w' F A (rowCells ((h+1)+1) [p]))/\Below w.heap.size w w':=by
 have HRC0:=Lib.hid (rowCells_single ((h+1)+1) p)
 obtain ⟨f,A,els,c⟩:=p
 dsimp only at h8
 obtain ⟨n,hn⟩:∃ n,n=els.length:=⟨_,rfl⟩
 have HPV:Hid (pval (h+1) ⟨f,A,els,c⟩= .agg #[.slice f.1 f.2.1.length f.2.2,.slice none 0 0,.slice A n c]):=by rw [hn];rfl
 have HRC:Hid (rowCells ((h+1)+1) [(⟨f,A,els,c⟩:Pg (h+1))]=[.slice f.1 f.2.1.length f.2.2,.slice none 0 0,.slice A n c]):=by rw [hn];exact HRC0.out
 have HFB:Hid (∀ b,F b->b<w.heap.size):=hF
 have hn8:n<=8:=by omega
 have hni:((n:Int)<=8)=True:=by simp;omega
 rw [HPV.out]
 clear hF hn h8 HRC0
 generalize f.1=Af at *
 generalize f.2.1.length=nf at *
 generalize f.2.2=cf at *
 obtain ⟨w1,hw1⟩:∃ w1,w1=w.alloc (.cells #[.slice Af nf cf,.slice none 0 0,.slice A n c] 156):=⟨_,rfl⟩
 have HW:Hid (w.alloc (.cells #[.slice Af nf cf,.slice none 0 0,.slice A n c] 156)=w1):=hw1.symm
 have HB1:Hid (Blk w1 w.heap.size [.slice Af nf cf,.slice none 0 0,.slice A n c] 156):=by rw [hw1];exact Blk.new w _ _
 have HBW:Hid (Below w.heap.size w w1):=by rw [hw1];exact (Below.refl _ _).alloc (Nat.le_refl _) _
 clear hw1
 have k1:=HB1.out.cell (i:=2) (by simp)
 have k0:=HB1.out.cell (i:=0) (by simp)
 have k2:=HB1.out.cell (i:=1) (by simp)
 simp only [List.getElem_cons_zero,List.getElem_cons_succ] at k0 k1 k2
 go_enter Tryz.func126,Tryz.ntmps126
 go_wp2_with fail
 rw [HW.out]
 refine (count_node _ Af A nf cf n c (by omega)).mono ?_
 rintro e w3 ⟨rfl,hb3⟩
 have B3:=Lib.hid (HB1.out.below hb3 HB1.out.lt)
 have W3:=Lib.hid (hop HBW.out hb3)
 clear hb3 k0 k1 k2 HB1
 have k1:=B3.out.cell (i:=2) (by simp)
 have k0:=B3.out.cell (i:=0) (by simp)
 have k2:=B3.out.cell (i:=1) (by simp)
 simp only [List.getElem_cons_zero,List.getElem_cons_succ] at k0 k1 k2
 go_wp2_with fail
 refine (count_node _ Af A nf cf n c (by omega)).mono ?_
 rintro e w4 ⟨rfl,hb4⟩
 have B4:=Lib.hid (B3.out.below hb4 B3.out.lt)
 have W4:=Lib.hid (hop W3.out hb4)
 clear hb4 k0 k1 k2 B3
 have k1:=B4.out.cell (i:=2) (by simp)
 have k0:=B4.out.cell (i:=0) (by simp)
 have k2:=B4.out.cell (i:=1) (by simp)
 simp only [List.getElem_cons_zero,List.getElem_cons_succ] at k0 k1 k2
 have HBA:Hid (Below w.heap.size w (w4.alloc (.cells #[.slice Af nf cf,.slice none 0 0,.slice A n c] 156))):=W4.out.alloc W4.out.size _
 have HCE:Hid (Cells (w4.alloc (.cells #[.slice Af nf cf,.slice none 0 0,.slice A n c] 156)) F (some ⟨w4.heap.size,0,none⟩) [.slice Af nf cf,.slice none 0 0,.slice A n c]):=
  cells_new w4 F _ _ (fun hf=>by have:=HFB.out _ hf;have:=W4.out.size;omega)
 go_wp2_with fail
 go_ret
 refine ⟨⟨some ⟨w4.heap.size,0,none⟩,1,rfl,Nat.le_refl _,?_⟩,HBA.out⟩
 rw [HRC.out]
 exact HCE.out
end Go.Proofs.YtdaahapbpnjkfaaGreat
