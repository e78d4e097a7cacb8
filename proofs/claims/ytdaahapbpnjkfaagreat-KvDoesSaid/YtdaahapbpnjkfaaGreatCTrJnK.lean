/-
joined of two of pages that refer to pages: what two neighbors have. Conditions: at most 1000 each.
-/
import Derived.Test.YtdaahapbpnjkfaaGreatCTrPrtK
namespace Go.Proofs.YtdaahapbpnjkfaaGreat
open Go.RowKit
structure PartsAt (w:World) (F:Nat->Prop) (h:Nat) (p:Pg h) (A:Option Addr) (c:Nat) (ps:List (El (h+1))):Prop where
 cap:ps.length<=c
 cells:Cells w F A (rowCells (h+1) ps)
 ok:AllOk w F (h+1) ps
 flat:flats (h+1) ps=flats h p.els
 split:(p.els.length<=8/\ps=[p])\/(8<p.els.length/\ps.length=2/\∀ x ∈ ps,Full (h+1) x)
theorem PartsAt.below {w w':World} {F:Nat->Prop} {h:Nat} {p:Pg h} {A:Option Addr} {c:Nat} {ps:List (El (h+1))} (hp:PartsAt w F h p A c ps) (hb:Below w.heap.size w w'):PartsAt w' F h p A c ps:=
 ⟨hp.cap,hp.cells.below hb,hp.ok.below hb,hp.flat,hp.split⟩
theorem PartsAt.full {w:World} {F:Nat->Prop} {h:Nat} {p:Pg h} {A:Option Addr} {c:Nat} {ps:List (El (h+1))} (hp:PartsAt w F h p A c ps) (hi:Inner (h+1) p) (h4:4<=p.els.length):∀ x ∈ ps,Full (h+1) x:=by
 rcases hp.split with ⟨h8,rfl⟩ | ⟨_,_,hf⟩
 · intro x hx
   rw [List.mem_singleton.1 hx]
   exact ⟨⟨h4,h8⟩,hi⟩
 · exact hf
theorem PartsAt.some_ {w:World} {F:Nat->Prop} {h:Nat} {p:Pg h} {A:Option Addr} {c:Nat} {ps:List (El (h+1))} (hp:PartsAt w F h p A c ps):ps.length=if p.els.length<=8 then 1 else 2:=by
 rcases hp.split with ⟨h8,rfl⟩ | ⟨h8,h2,_⟩
 · rw [if_pos h8];rfl
 · rw [if_neg (by omega)];exact h2
theorem parts_two {w:World} {F:Nat->Prop} {h:Nat} {p x y:Pg h} {A:Option Addr} {c:Nat} (hc:2<=c) (hcell:Cells w F A (rowCells (h+1) [x,y])) (hx:IsPg w F h (p.els.take (p.els.length/2)) x) (hy:IsPg w F h (p.els.drop (p.els.length/2)) y) (h8:8<p.els.length) (h16:p.els.length<=16):PartsAt w F h p A c [x,y] where
 cap:=hc
 cells:=hcell
 ok:=fun z hz=>by
  rcases List.mem_cons.1 hz with rfl | hz
  · exact hx.ok
  · rw [List.mem_singleton.1 hz];exact hy.ok
 flat:=by
  refine (flats_two (h+1) x y).trans ?_
  rw [hx.flat,hy.flat,<-flats_append,List.take_append_drop]
 split:= .inr ⟨h8,rfl,fun z hz=>by
  rcases List.mem_cons.1 hz with rfl | hz
  · refine ⟨?_,hx.inner⟩
    have:=hx.count
    rw [List.length_take] at this
    omega
  · rw [List.mem_singleton.1 hz]
    refine ⟨?_,hy.inner⟩
    have:=hy.count
    rw [List.length_drop] at this
    omega⟩
theorem parts_any (h:Nat) (w:World) (F:Nat->Prop) (hF:∀ b,F b->b<w.heap.size) (p:Pg h) (hp:EOk w F (h+1) p) (hin:Inner (h+1) p) (h16:p.els.length<=16):
 Calls Tryz.prog 126 #[pval h p] w fun e w'=>(∃ (A:Option Addr) (c:Nat) (ps:List (El (h+1))),e= .returned (.slice A ps.length c)/\PartsAt w' F h p A c ps)/\Below w.heap.size w w':=by
 by_cases h8:p.els.length<=8
 · have key:Calls Tryz.prog 126 #[pval h p] w fun e w'=>(∃ (A:Option Addr) (c:Nat),e= .returned (.slice A 1 c)/\1<=c/\Cells w' F A (rowCells (h+1) [p]))/\Below w.heap.size w w':=by
    cases h with
    | zero=>exact keepP_any w F hF p h8
    | succ h=>exact keepK_any h w F hF p h8
   refine key.mono ?_
   rintro e w' ⟨⟨A,c,rfl,h1,h2⟩,hb⟩
   refine ⟨⟨A,c,[p],rfl,h1,h2,fun x hx=> ?_,?_,.inl ⟨h8,rfl⟩⟩,hb⟩
   · rw [List.mem_singleton.1 hx];exact hp.below hb
   · exact flats_single (h+1) p
 · have key:Calls Tryz.prog 126 #[pval h p] w fun e w'=>(∃ (A:Option Addr) (c:Nat) (x y:Pg h),e= .returned (.slice A 2 c)/\2<=c/\Cells w' F A (rowCells (h+1) [x,y])/\IsPg w' F h (p.els.take (p.els.length/2)) x/\IsPg w' F h (p.els.drop (p.els.length/2)) y)/\Below w.heap.size w w':=by
    cases h with
    | zero=>exact halfP_any w F hF p hp hin (by omega) h16
    | succ h=>exact halfK_any h w F hF p hp hin (by omega) h16
   refine key.mono ?_
   rintro e w' ⟨⟨A,c,x,y,rfl,h1,h2,hx,hy⟩,hb⟩
   exact ⟨⟨A,c,[x,y],rfl,parts_two h1 h2 hx hy (by omega) h16⟩,hb⟩
def ReplOut (w:World) (F:Nat->Prop) (h:Nat) (l:List (El (h+1))) (i j:Nat) (k:Pg h) (e:Ending) (w':World):Prop:=
 (∃ (q:Pg (h+1)) (ps:List (El (h+1))),e= .returned (pval (h+1) q)/\IsPg w' F (h+1) (l.take i++ps++l.drop j) q/\flats (h+1) ps=flats h k.els/\ps.length=if k.els.length<=8 then 1 else 2)/\Below w.heap.size w w'
set_option maxHeartbeats 1000000 in
set_option maxRecDepth 100000 in
theorem replace_any (lv:Nat) (w:World) (F:Nat->Prop) (hF:∀ b,F b->b<w.heap.size) (p:Pg (lv+1)) (i j:Nat) (k:Pg lv) (hp:EOk w F (lv+2) p) (hin:Inner (lv+2) p) (hk:EOk w F (lv+1) k) (hki:Inner (lv+1) k) (h4:4<=k.els.length) (h16:k.els.length<=16)
 (hij:i<=p.els.length) (hj:j<=p.els.length) (hn:p.els.length<=1000):
 Calls Tryz.prog 148 #[pval (lv+1) p,.int .i64 (i:Int),.int .i64 (j:Int),pval lv k] w (ReplOut w F lv p.els i j k):=by
 obtain ⟨f,A,els,c⟩:=p
 obtain ⟨n,hnn⟩:∃ n,n=els.length:=⟨_,rfl⟩
 have HPV:Hid (pval (lv+1) ⟨f,A,els,c⟩= .agg #[.slice f.1 f.2.1.length f.2.2,.slice none 0 0,.slice A n c]):=by rw [hnn];rfl
 obtain ⟨K0,k0,e0,K1,k1,e1,K2,k2,e2,hkv⟩:=page_form lv k
 have HKV:Hid (pval lv k= .agg #[.slice K0 k0 e0,.slice K1 k1 e1,.slice K2 k2 e2]):=by show pval lv k=_;unfold pval;rw [hkv]
 obtain ⟨Af,hAf⟩:∃ Af,Af=f.1:=⟨_,rfl⟩
 obtain ⟨nf,hnf⟩:∃ nf,nf=f.2.1.length:=⟨_,rfl⟩
 obtain ⟨cf,hcf⟩:∃ cf,cf=f.2.2:=⟨_,rfl⟩
 rw [<-hAf,<-hnf,<-hcf] at HPV
 obtain ⟨w2,hw2⟩:∃ w2,w2=((w.alloc (.cells #[.slice Af nf cf,.slice none 0 0,.slice A n c] 156)).alloc (.cells #[.slice K0 k0 e0,.slice K1 k1 e1,.slice K2 k2 e2] 156)).alloc (.cells #[.slice none 0 0,.slice none 0 0,.slice none 0 0] 156):=⟨_,rfl⟩
 have HBW:Hid (Below w.heap.size w w2):=by rw [hw2];exact (((Below.refl _ _).alloc (Nat.le_refl _) _).alloc (by simp) _).alloc (by simp;omega) _
 have hp2:=EOk.wider hp HBW.out
 have hk2:=EOk.wider hk HBW.out
 have hF2:=Wider.lt hF HBW.out.size
 obtain ⟨F2,hF2e⟩:∃ F2,F2=Wider w w2 F:=⟨_,rfl⟩
 have HF2:=Lib.hid hF2e
 rw [<-hF2e] at hp2 hk2 hF2
 clear hF2e hF hp hk hAf hnf hcf hkv
 obtain ⟨h1,h2,h3,h4'⟩:=hp2
 dsimp only at h1 h2 h3 h4' hij hj hn ⊢
 obtain ⟨m2,hm2⟩:∃ m2,m2=n-j:=⟨_,rfl⟩
 obtain ⟨i0,z0,R⟩:=rowK
 have hcut1:∀ W,(Instr.slice 154 (.slice A n c) none (some (.int .i64 (i:Int))) none).run Tryz.prog W= .ok (.slice A i c) W:=R.head A n c i (by omega)
 have hcut2:=R.tail A n c j (by omega)
 have hdr:=h2.drop j 3 c (by rw [rowCells_length];exact Nat.mul_le_mul_right _ h3)
 have htk:=h2.take (i*3)
 rw [show j*3=j*esize (lv+1) from rfl] at hdr
 rw [show i*3=i*esize (lv+1) from rfl] at htk
 rw [rowCells_drop] at hdr
 rw [rowCells_take] at htk
 rw [show (fun a:Addr=>a.add (j*esize (lv+1)))=(fun a:Addr=>a.add (j*3)) from rfl] at hdr
 rw [<-hm2] at hcut2
 generalize (if c=j then A else A.map fun a=>a.add (j*3))=A' at *
 have HT:=Lib.hid htk
 have HDR:=Lib.hid hdr
 have HPRT:Hid (∀ W,Below w2.heap.size w2 W->Calls Tryz.prog 126 #[pval lv k] W fun e w'=>(∃ (A:Option Addr) (c:Nat) (ps:List (El (lv+1))),e= .returned (.slice A ps.length c)/\PartsAt w' F2 lv k A c ps)/\Below W.heap.size W w'):=fun W hW=>
  parts_any lv W F2 (fun b hb=>Nat.lt_of_lt_of_le (hF2 b hb) hW.size) k (hk2.below hW) hki h16
 have HCON:Hid (∀ W,Below w2.heap.size w2 W->∀ (A1:Option Addr) (c1 m1 N:Nat) (ps L:List (El (lv+1))),PartsAt W F2 lv k A1 c1 ps->m1=ps.length->L=els.take i++ps++els.drop j->L.length=N->Calls Tryz.prog 166 #[.slice (some ⟨W.heap.size,0,none⟩) 3 3] (W.alloc (.cells #[.slice A i c,.slice A1 m1 c1,.slice A' m2 (c-j)] 154)) fun e w'=>
  (∃ A2 c2,e= .returned (.slice A2 N c2)/\Cells w' F2 A2 (rowCells (lv+1) L)/\N<=c2)/\Below W.heap.size W w'):=fun W hW A1 c1 m1 N ps L hpa hm1 hL hN=>by
  subst hm1
  have hal:Below W.heap.size W (W.alloc (.cells #[.slice A i c,.slice A1 ps.length c1,.slice A' m2 (c-j)] 154)):=(Below.refl _ _).alloc (Nat.le_refl _) _
  have hB:=Blk.new W [.slice A i c,.slice A1 ps.length c1,.slice A' m2 (c-j)] 154
  have hlt:(els.take i).length=i:=by rw [List.length_take];omega
  have hld:(els.drop j).length=m2:=by rw [List.length_drop];omega
  have hps:=hpa.some_
  have hL2:(([(A,els.take i,c),(A1,ps,c1),(A',els.drop j,c-j)]:List (Option Addr × List (El (lv+1)) × Nat)).map fun r=>r.2.1).flatten=L:=by rw [hL];simp
  have:=joinK lv (W.alloc (.cells #[.slice A i c,.slice A1 ps.length c1,.slice A' m2 (c-j)] 154)) F2 (fun b hb=>by have:=hF2 b hb;have:=hW.size;simp;omega) W.heap.size 3 3 [(A,els.take i,c),(A1,ps,c1),(A',els.drop j,c-j)] N rfl (by omega) (by simp) (fun t ht=>by
   rw [Nat.zero_add]
   match t,ht with
   | 0,_=>rw [hB.cell (i:=0) (by simp)];simp [hlt]
   | 1,_=>rw [hB.cell (i:=1) (by simp)];simp
   | 2,_=>rw [hB.cell (i:=2) (by simp)];simp [hld]) (fun r hr=>by
   rcases List.mem_cons.1 hr with rfl | hr
   · exact (HT.out.below hW).below hal
   · rcases List.mem_cons.1 hr with rfl | hr
     · exact hpa.cells.below hal
     · rw [List.mem_singleton.1 hr];exact (HDR.out.below hW).below hal) (by rw [hL2];exact hN) (by
   rw [<-hN,hL,List.length_append,List.length_append,hps,hlt,hld]
   split<;>omega)
  rw [hL2] at this
  refine this.mono ?_
  rintro e w' ⟨h1,hb⟩
  exact ⟨h1,hop hal hb⟩
 have HABV:Hid (∀ W,Below w2.heap.size w2 W->∀ (A2:Option Addr) (c2 N:Nat) (ps L:List (El (lv+1))),Cells W F2 A2 (rowCells (lv+1) L)->N<=c2->(∃ A1 c1,PartsAt W F2 lv k A1 c1 ps)->L=els.take i++ps++els.drop j->L.length=N->Calls Tryz.prog 150 #[.slice A2 N c2] W fun e w'=>
  (∃ q:Pg (lv+1),e= .returned (pval (lv+1) q)/\IsPg W F2 (lv+1) L q)/\Below W.heap.size W w'):=fun W hW A2 c2 N ps L hc hm ⟨A1,c1,hpa⟩ hL hN=>by
  have hps:=hpa.some_
  have hall:∀ x ∈ L,Full (lv+1) x:=fun x hx=>by
   rw [hL] at hx
   rcases List.mem_append.1 hx with hx | hx
   · rcases List.mem_append.1 hx with hx | hx
     · exact hin.full (List.mem_of_mem_take hx)
     · exact hpa.full hki h4 x hx
   · exact hin.full (List.mem_of_mem_drop hx)
  have hok:AllOk W F2 (lv+1) L:=by
   rw [hL]
   exact (AllOk.append (AllOk.append (AllOk.below (AllOk.take h4' i) hW) hpa.ok) (AllOk.below (AllOk.drop h4' j) hW))
  refine above_any W F2 lv A2 L N c2 hc hok hall hN hm ?_
  rw [<-hN,hL,List.length_append,List.length_append,hps]
  split<;>omega
 rw [HPV.out,HKV.out]
 rw [HKV.out] at HPRT
 have HM2:=Lib.hid hm2
 clear h1 h2 h3 h4' htk hdr R hin hnn hm2 hk2 hki HPV HKV
 have HW:Hid (((w.alloc (.cells #[.slice Af nf cf,.slice none 0 0,.slice A n c] 156)).alloc (.cells #[.slice K0 k0 e0,.slice K1 k1 e1,.slice K2 k2 e2] 156)).alloc (.cells #[.slice none 0 0,.slice none 0 0,.slice none 0 0] 156)=w2):=hw2.symm
 have HB0:Hid (Blk w2 w.heap.size [.slice Af nf cf,.slice none 0 0,.slice A n c] 156):=by rw [hw2];exact ((Blk.new w _ _).alloc _).alloc _
 have HB1:Hid (Blk w2 (w.heap.size+1) [.slice K0 k0 e0,.slice K1 k1 e1,.slice K2 k2 e2] 156):=by
  have:=Blk.new (w.alloc (.cells #[.slice Af nf cf,.slice none 0 0,.slice A n c] 156)) [.slice K0 k0 e0,.slice K1 k1 e1,.slice K2 k2 e2] 156
  rw [show (w.alloc (.cells #[.slice Af nf cf,.slice none 0 0,.slice A n c] 156)).heap.size=w.heap.size+1 by simp] at this
  rw [hw2];exact this.alloc _
 have HB2:Hid (Blk w2 (w.heap.size+1+1) [.slice none 0 0,.slice none 0 0,.slice none 0 0] 156):=by
  have:=Blk.new ((w.alloc (.cells #[.slice Af nf cf,.slice none 0 0,.slice A n c] 156)).alloc (.cells #[.slice K0 k0 e0,.slice K1 k1 e1,.slice K2 k2 e2] 156)) [.slice none 0 0,.slice none 0 0,.slice none 0 0] 156
  rw [show ((w.alloc (.cells #[.slice Af nf cf,.slice none 0 0,.slice A n c] 156)).alloc (.cells #[.slice K0 k0 e0,.slice K1 k1 e1,.slice K2 k2 e2] 156)).heap.size=w.heap.size+1+1 by simp] at this
  rw [hw2];exact this
 have HSZ:Hid (w2.heap.size=w.heap.size+1+1+1):=by rw [hw2];show _=_;simp
 have HK:Hid (∀ W,Below w2.heap.size w2 W->W.cell? ⟨w.heap.size,2,none⟩=some (.slice A n c)/\W.cell? ⟨w.heap.size+1,0,none⟩=some (.slice K0 k0 e0)/\W.cell? ⟨w.heap.size+1,1,none⟩=some (.slice K1 k1 e1)/\W.cell? ⟨w.heap.size+1,2,none⟩=some (.slice K2 k2 e2)):=fun W hW=>by
  have h0:=HB0.out.below hW HB0.out.lt
  have h1:=HB1.out.below hW HB1.out.lt
  exact ⟨h0.cell (i:=2) (by simp),h1.cell (i:=0) (by simp),h1.cell (i:=1) (by simp),h1.cell (i:=2) (by simp)⟩
 have HKS:Hid (∀ W,Below w2.heap.size w2 W->∀ u0 u1 u2:Value,(((W.setCell ⟨w.heap.size+1+1,0,none⟩ u0).setCell ⟨w.heap.size+1+1,1,none⟩ u1).setCell ⟨w.heap.size+1+1,2,none⟩ u2).cell? ⟨w.heap.size,2,none⟩=some (.slice A n c)/\(((W.setCell ⟨w.heap.size+1+1,0,none⟩ u0).setCell ⟨w.heap.size+1+1,1,none⟩ u1).setCell ⟨w.heap.size+1+1,2,none⟩ u2).cell? ⟨w.heap.size+1,0,none⟩=some (.slice K0 k0 e0)/\
  (((W.setCell ⟨w.heap.size+1+1,0,none⟩ u0).setCell ⟨w.heap.size+1+1,1,none⟩ u1).setCell ⟨w.heap.size+1+1,2,none⟩ u2).cell? ⟨w.heap.size+1,1,none⟩=some (.slice K1 k1 e1)/\(((W.setCell ⟨w.heap.size+1+1,0,none⟩ u0).setCell ⟨w.heap.size+1+1,1,none⟩ u1).setCell ⟨w.heap.size+1+1,2,none⟩ u2).cell? ⟨w.heap.size+1,2,none⟩=some (.slice K2 k2 e2)):=fun W hW u0 u1 u2=>by
  have h0:=(((HB0.out.below hW HB0.out.lt).other ⟨w.heap.size+1+1,0,none⟩ u0 (by simp;omega)).other ⟨w.heap.size+1+1,1,none⟩ u1 (by simp;omega)).other ⟨w.heap.size+1+1,2,none⟩ u2 (by simp;omega)
  have h1:=(((HB1.out.below hW HB1.out.lt).other ⟨w.heap.size+1+1,0,none⟩ u0 (by simp)).other ⟨w.heap.size+1+1,1,none⟩ u1 (by simp)).other ⟨w.heap.size+1+1,2,none⟩ u2 (by simp)
  exact ⟨h0.cell (i:=2) (by simp),h1.cell (i:=0) (by simp),h1.cell (i:=1) (by simp),h1.cell (i:=2) (by simp)⟩
 clear hw2
 have bd:Below w2.heap.size w2 w2.drew:=(Below.refl _ _).drew
 go_enter Tryz.func148,Tryz.ntmps148
 go_wp2_with fail
 rw [HW.out]
 go_region_held_law (fun w'=>w'.cell? ⟨w.heap.size,2,none⟩=some (.slice A n c)/\w'.cell? ⟨w.heap.size+1,0,none⟩=some (.slice K0 k0 e0)/\w'.cell? ⟨w.heap.size+1,1,none⟩=some (.slice K1 k1 e1)/\w'.cell? ⟨w.heap.size+1,2,none⟩=some (.slice K2 k2 e2))
  (first | exact HK.out _ bd | exact HK.out _ bd6 | exact HK.out _ bd6a | exact HK.out _ bd7 | exact HK.out _ bd8 | exact HS8.out _ _ _)
  (first
   | (go_at_call 126;(with_reducible refine (HPRT.out _ bd).mono ?_);rintro e w6 ⟨⟨A1,c1,ps,rfl,hpa⟩,hb6⟩;have bd6:Below w2.heap.size w2 w6:=undrew hb6;have P6:=Lib.hid hpa;obtain ⟨m1,hm1⟩:∃ m1,m1=ps.length:=⟨_,rfl⟩;rw [<-hm1];have M1:=Lib.hid hm1;obtain ⟨L,hL⟩:∃ L,L=els.take i++ps++els.drop j:=⟨_,rfl⟩;have HL:=Lib.hid hL;obtain ⟨N,hN⟩:∃ N,L.length=N:=⟨_,rfl⟩;have HN:=Lib.hid hN;clear hb6 hpa hm1 hL hN;have bd6a:Below w2.heap.size w2 (w6.alloc (.cells #[.slice A i c,.slice A1 m1 c1,.slice A' m2 (c-j)] 154)):=bd6.alloc bd6.size _)
   | (go_at_call 166;(with_reducible refine (HCON.out _ bd6 A1 c1 m1 N ps L P6.out M1.out HL.out HN.out).mono ?_);rintro e w7 ⟨⟨A2,c2,rfl,hc7,hm7⟩,hb7⟩;have bd7:Below w2.heap.size w2 w7:=hop bd6 hb7;have C7:=Lib.hid hc7;have M7:=Lib.hid hm7;have P7:=Lib.hid (P6.out.below hb7);clear hb7 hc7 hm7)
   | (go_at_call 150;(with_reducible refine (HABV.out _ bd7 A2 c2 N ps L C7.out M7.out ⟨_,_,P7.out⟩ HL.out HN.out).mono ?_);rintro e w8 ⟨⟨q,rfl,hq⟩,hb8⟩;have bd8:Below w2.heap.size w2 w8:=hop bd7 hb8;have Q8:=Lib.hid (hq.below hb8);clear hb8 hq;obtain ⟨a0,m0,d0,a1,n1,d1,a2,m2',d2,hxf⟩:=page_form (lv+1) q;have XF:=Lib.hid hxf;unfold pval;rw [hxf];clear hxf;have r0:=(HB2.out.below bd8 HB2.out.lt).cell (i:=0) (by simp);have r1:=(HB2.out.below bd8 HB2.out.lt).cell (i:=1) (by simp);have r2:=(HB2.out.below bd8 HB2.out.lt).cell (i:=2) (by simp);have f0:=(HB2.out.below bd8 HB2.out.lt).free 0;have f1:=(HB2.out.below bd8 HB2.out.lt).free 1;have f2:=(HB2.out.below bd8 HB2.out.lt).free 2;have HS8:=Lib.hid (HKS.out _ bd8)))
 have HBE:Hid (∀ u0 u1 u2:Value,Below w.heap.size w (((w8.setCell ⟨w.heap.size+1+1,0,none⟩ u0).setCell ⟨w.heap.size+1+1,1,none⟩ u1).setCell ⟨w.heap.size+1+1,2,none⟩ u2)):=fun u0 u1 u2=>(((hop HBW.out bd8).setCell (by simp;omega) _).setCell (by simp;omega) _).setCell (by simp;omega) _
 have HQE:Hid (∀ u0 u1 u2:Value,IsPg (((w8.setCell ⟨w.heap.size+1+1,0,none⟩ u0).setCell ⟨w.heap.size+1+1,1,none⟩ u1).setCell ⟨w.heap.size+1+1,2,none⟩ u2) F (lv+1) L q):=fun u0 u1 u2=>by
  refine ⟨Q8.out.els,?_,Q8.out.inner⟩
  have:=Q8.out.ok
  rw [HF2.out] at this
  have hsz:=HSZ.out
  exact this.narrow ((((Spared.refl w8 _).setCell (by omega) _ _).setCell (by omega) _ _).setCell (by omega) _ _)
 simp only [List.getElem_cons_zero,List.getElem_cons_succ] at r0 r1 r2
 have HPF:Hid (ps.length=if k.els.length<=8 then 1 else 2):=P7.out.some_
 have HPL:Hid (flats (lv+1) ps=flats lv k.els):=P7.out.flat
 have HQV:Hid (pval (lv+1) q= .agg #[.slice a0 m0 d0,.slice a1 n1 d1,.slice a2 m2' d2]):=by show pval _ _=_;unfold pval;rw [XF.out]
 go_wp2_with fail
 refine bodyPost_ret (v:=pval (lv+1) q) (by rw [HQV.out];simp [results,Tryz.results148,go_sem,r0,r1,r2]) rfl ⟨⟨q,ps,rfl,?_,HPL.out,HPF.out⟩,HBE.out _ _ _⟩
 rw [<-HL.out]
 exact HQE.out _ _ _
def PageOut (w:World) (F:Nat->Prop) (h:Nat) (l:List (El h)) (e:Ending) (w':World):Prop:=
 (∃ q:Pg h,e= .returned (pval h q)/\IsPg w' F h l q)/\Below w.heap.size w w'
set_option maxHeartbeats 1000000 in
set_option maxRecDepth 100000 in
theorem joinedP_any (w:World) (F:Nat->Prop) (hF:∀ b,F b->b<w.heap.size) (p r:Pg 0) (hp:EOk w F (0+1) p) (hpi:Inner (0+1) p) (hr:EOk w F (0+1) r) (hri:Inner (0+1) r) (hpn:p.els.length<=1000) (hrn:r.els.length<=1000) (h0:0<p.els.length):
 Calls Tryz.prog 149 #[pval 0 p,pval 0 r] w (PageOut w F 0 (p.els++r.els)):=by
 obtain ⟨f,A,els,c⟩:=p
 obtain ⟨f',A',els',c'⟩:=r
 obtain ⟨n,hnn⟩:∃ n,n=els.length:=⟨_,rfl⟩
 obtain ⟨n',hnn'⟩:∃ n',n'=els'.length:=⟨_,rfl⟩
 have HPV:Hid (pval 0 ⟨f,A,els,c⟩= .agg #[.slice f.1 f.2.1.length f.2.2,.slice A n c,.slice none 0 0]):=by rw [hnn];rfl
 have HRV:Hid (pval 0 ⟨f',A',els',c'⟩= .agg #[.slice f'.1 f'.2.1.length f'.2.2,.slice A' n' c',.slice none 0 0]):=by rw [hnn'];rfl
 obtain ⟨Af,hAf⟩:∃ Af,Af=f.1:=⟨_,rfl⟩
 obtain ⟨nf,hnf⟩:∃ nf,nf=f.2.1.length:=⟨_,rfl⟩
 obtain ⟨cf,hcf⟩:∃ cf,cf=f.2.2:=⟨_,rfl⟩
 obtain ⟨Ag,hAg⟩:∃ Ag,Ag=f'.1:=⟨_,rfl⟩
 obtain ⟨ng,hng⟩:∃ ng,ng=f'.2.1.length:=⟨_,rfl⟩
 obtain ⟨cg,hcg⟩:∃ cg,cg=f'.2.2:=⟨_,rfl⟩
 rw [<-hAf,<-hnf,<-hcf] at HPV
 rw [<-hAg,<-hng,<-hcg] at HRV
 obtain ⟨w2,hw2⟩:∃ w2,w2=((w.alloc (.cells #[.slice Af nf cf,.slice A n c,.slice none 0 0] 156)).alloc (.cells #[.slice Ag ng cg,.slice A' n' c',.slice none 0 0] 156)).alloc (.cells #[.slice none 0 0,.slice none 0 0,.slice none 0 0] 156):=⟨_,rfl⟩
 have HBW:Hid (Below w.heap.size w w2):=by rw [hw2];exact (((Below.refl _ _).alloc (Nat.le_refl _) _).alloc (by simp) _).alloc (by simp;omega) _
 have hp2:=EOk.wider hp HBW.out
 have hr2:=EOk.wider hr HBW.out
 have hF2:=Wider.lt hF HBW.out.size
 obtain ⟨F2,hF2e⟩:∃ F2,F2=Wider w w2 F:=⟨_,rfl⟩
 have HF2:=Lib.hid hF2e
 rw [<-hF2e] at hp2 hr2 hF2
 clear hF2e hF hp hr hAf hnf hcf hAg hng hcg
 obtain ⟨_,h2,h3,h4⟩:=hp2
 obtain ⟨_,h2',h3',h4'⟩:=hr2
 dsimp only at h2 h3 h4 h2' h3' h4' hpn hrn h0 ⊢
 obtain ⟨L,hL⟩:∃ L,L=els++els':=⟨_,rfl⟩
 obtain ⟨N,hN⟩:∃ N,L.length=N:=⟨_,rfl⟩
 have hN2:N=n+n':=by rw [<-hN,hL,List.length_append];omega
 rw [<-hL]
 have HCON:Hid (∀ W,Below w2.heap.size w2 W->Calls Tryz.prog 146 #[.slice (some ⟨W.heap.size,0,none⟩) 2 2] (W.alloc (.cells #[.slice A n c,.slice A' n' c'] 63)) fun e w'=>
  (∃ A2 c2,e= .returned (.slice A2 N c2)/\Cells w' F2 A2 (rowCells 0 L)/\N<=c2)/\Below W.heap.size W w'):=fun W hW=>by
  have hal:Below W.heap.size W (W.alloc (.cells #[.slice A n c,.slice A' n' c'] 63)):=(Below.refl _ _).alloc (Nat.le_refl _) _
  have hB:=Blk.new W [.slice A n c,.slice A' n' c'] 63
  have hL2:(([(A,els,c),(A',els',c')]:List (Option Addr × List (El 0) × Nat)).map fun r=>r.2.1).flatten=L:=by rw [hL];simp
  have:=joinP (W.alloc (.cells #[.slice A n c,.slice A' n' c'] 63)) F2 (fun b hb=>by have:=hF2 b hb;have:=hW.size;simp;omega) W.heap.size 2 2 [(A,els,c),(A',els',c')] N rfl (by omega) (by simp) (fun t ht=>by
   rw [Nat.zero_add]
   match t,ht with
   | 0,_=>rw [hB.cell (i:=0) (by simp)];simp [hnn]
   | 1,_=>rw [hB.cell (i:=1) (by simp)];simp [hnn']) (fun r hr=>by
   rcases List.mem_cons.1 hr with rfl | hr
   · exact (h2.below hW).below hal
   · rw [List.mem_singleton.1 hr];exact (h2'.below hW).below hal) (by rw [hL2];exact hN) (by omega)
  rw [hL2] at this
  refine this.mono ?_
  rintro e w' ⟨h1,hb⟩
  exact ⟨h1,hop hal hb⟩
 have HABV:Hid (∀ W,Below w2.heap.size w2 W->∀ (A2:Option Addr) (c2:Nat),Cells W F2 A2 (rowCells 0 L)->N<=c2->Calls Tryz.prog 145 #[.slice A2 N c2] W fun e w'=>
  (∃ q:Pg 0,e= .returned (pval 0 q)/\IsPg W F2 0 L q)/\Below W.heap.size W w'):=fun W hW A2 c2 hc hm=>by
  have hall:∀ x ∈ L,Full 0 x:=fun x hx=>by
   rw [hL] at hx
   exact (List.mem_append.1 hx).elim (fun hx=>hpi.full hx) (fun hx=>hri.full hx)
  have hok:AllOk W F2 0 L:=by
   rw [hL]
   exact AllOk.append (AllOk.below h4 hW) (AllOk.below h4' hW)
  exact leaf_any W F2 A2 L N c2 hc hok hN hm
 have hn0:0<n:=by omega
 rw [HPV.out,HRV.out]
 clear h2 h3 h4 h2' h3' h4' hnn hnn' hpi hri HPV HRV hL hN hN2
 have HW:Hid (((w.alloc (.cells #[.slice Af nf cf,.slice A n c,.slice none 0 0] 156)).alloc (.cells #[.slice Ag ng cg,.slice A' n' c',.slice none 0 0] 156)).alloc (.cells #[.slice none 0 0,.slice none 0 0,.slice none 0 0] 156)=w2):=hw2.symm
 have HB0:Hid (Blk w2 w.heap.size [.slice Af nf cf,.slice A n c,.slice none 0 0] 156):=by rw [hw2];exact ((Blk.new w _ _).alloc _).alloc _
 have HB1:Hid (Blk w2 (w.heap.size+1) [.slice Ag ng cg,.slice A' n' c',.slice none 0 0] 156):=by
  have:=Blk.new (w.alloc (.cells #[.slice Af nf cf,.slice A n c,.slice none 0 0] 156)) [.slice Ag ng cg,.slice A' n' c',.slice none 0 0] 156
  rw [show (w.alloc (.cells #[.slice Af nf cf,.slice A n c,.slice none 0 0] 156)).heap.size=w.heap.size+1 by simp] at this
  rw [hw2];exact this.alloc _
 have HB2:Hid (Blk w2 (w.heap.size+1+1) [.slice none 0 0,.slice none 0 0,.slice none 0 0] 156):=by
  have:=Blk.new ((w.alloc (.cells #[.slice Af nf cf,.slice A n c,.slice none 0 0] 156)).alloc (.cells #[.slice Ag ng cg,.slice A' n' c',.slice none 0 0] 156)) [.slice none 0 0,.slice none 0 0,.slice none 0 0] 156
  rw [show ((w.alloc (.cells #[.slice Af nf cf,.slice A n c,.slice none 0 0] 156)).alloc (.cells #[.slice Ag ng cg,.slice A' n' c',.slice none 0 0] 156)).heap.size=w.heap.size+1+1 by simp] at this
  rw [hw2];exact this
 have HSZ:Hid (w2.heap.size=w.heap.size+1+1+1):=by rw [hw2];show _=_;simp
 clear hw2
 have x0:=HB0.out.cell (i:=0) (by simp)
 have x1:=HB0.out.cell (i:=1) (by simp)
 have x2:=HB0.out.cell (i:=2) (by simp)
 simp only [List.getElem_cons_zero,List.getElem_cons_succ] at x0 x1 x2
 go_enter Tryz.func149,Tryz.ntmps149
 go_wp2_with fail
 rw [HW.out]
 with_reducible refine (isLeaf_yes _ Af A nf cf n c).mono ?_
 rintro e w3 ⟨rfl,hb3⟩
 have bd3:Below w2.heap.size w2 w3:=hb3
 clear x0 x1 x2 hb3
 have x1:=(HB0.out.below bd3 HB0.out.lt).cell (i:=1) (by simp)
 have y1:=(HB1.out.below bd3 HB1.out.lt).cell (i:=1) (by simp)
 simp only [List.getElem_cons_zero,List.getElem_cons_succ] at x1 y1
 go_wp2_with fail
 with_reducible refine (HCON.out _ bd3).mono ?_
 rintro e w4 ⟨⟨A2,c2,rfl,hc4,hm4⟩,hb4⟩
 have bd4:Below w2.heap.size w2 w4:=hop bd3 hb4
 have C4:=Lib.hid hc4
 have M4:=Lib.hid hm4
 clear hb4 hc4 hm4 x1 y1
 go_wp2_with fail
 with_reducible refine (HABV.out _ bd4 A2 c2 C4.out M4.out).mono ?_
 rintro e w5 ⟨⟨q,rfl,hq⟩,hb5⟩
 have bd5:Below w2.heap.size w2 w5:=hop bd4 hb5
 have Q5:=Lib.hid (hq.below hb5)
 clear hb5 hq
 obtain ⟨a0,m0,d0,a1,n1,d1,a2,m2',d2,hxf⟩:=page_form 0 q
 have HQV:Hid (pval 0 q= .agg #[.slice a0 m0 d0,.slice a1 n1 d1,.slice a2 m2' d2]):=by show pval _ _=_;unfold pval;rw [hxf]
 rw [HQV.out]
 clear hxf
 have r0:=(HB2.out.below bd5 HB2.out.lt).cell (i:=0) (by simp)
 have r1:=(HB2.out.below bd5 HB2.out.lt).cell (i:=1) (by simp)
 have r2:=(HB2.out.below bd5 HB2.out.lt).cell (i:=2) (by simp)
 have f0:=(HB2.out.below bd5 HB2.out.lt).free 0
 have f1:=(HB2.out.below bd5 HB2.out.lt).free 1
 have f2:=(HB2.out.below bd5 HB2.out.lt).free 2
 simp only [List.getElem_cons_zero,List.getElem_cons_succ] at r0 r1 r2
 have HBE:Hid (∀ u0 u1 u2:Value,Below w.heap.size w (((w5.setCell ⟨w.heap.size+1+1,0,none⟩ u0).setCell ⟨w.heap.size+1+1,1,none⟩ u1).setCell ⟨w.heap.size+1+1,2,none⟩ u2)):=fun u0 u1 u2=>(((hop HBW.out bd5).setCell (by simp;omega) _).setCell (by simp;omega) _).setCell (by simp;omega) _
 have HQE:Hid (∀ u0 u1 u2:Value,IsPg (((w5.setCell ⟨w.heap.size+1+1,0,none⟩ u0).setCell ⟨w.heap.size+1+1,1,none⟩ u1).setCell ⟨w.heap.size+1+1,2,none⟩ u2) F 0 L q):=fun u0 u1 u2=>by
  refine ⟨Q5.out.els,?_,Q5.out.inner⟩
  have:=Q5.out.ok
  rw [HF2.out] at this
  have hsz:=HSZ.out
  exact this.narrow ((((Spared.refl w5 _).setCell (by omega) _ _).setCell (by omega) _ _).setCell (by omega) _ _)
 go_wp2_with fail
 exact bodyPost_ret (v:=pval 0 q) (by rw [HQV.out];simp [results,Tryz.results149,go_sem,r0,r1,r2]) rfl ⟨⟨q,rfl,HQE.out _ _ _⟩,HBE.out _ _ _⟩
set_option maxHeartbeats 1000000 in
set_option maxRecDepth 100000 in
theorem joinedK_any (lv:Nat) (w:World) (F:Nat->Prop) (hF:∀ b,F b->b<w.heap.size) (p r:Pg (lv+1)) (hp:EOk w F ((lv+1)+1) p) (hpi:Inner ((lv+1)+1) p) (hr:EOk w F ((lv+1)+1) r) (hri:Inner ((lv+1)+1) r) (hpn:p.els.length<=1000) (hrn:r.els.length<=1000) (h0:0<p.els.length):
 Calls Tryz.prog 149 #[pval (lv+1) p,pval (lv+1) r] w (PageOut w F (lv+1) (p.els++r.els)):=by
 obtain ⟨f,A,els,c⟩:=p
 obtain ⟨f',A',els',c'⟩:=r
 obtain ⟨n,hnn⟩:∃ n,n=els.length:=⟨_,rfl⟩
 obtain ⟨n',hnn'⟩:∃ n',n'=els'.length:=⟨_,rfl⟩
 have HPV:Hid (pval (lv+1) ⟨f,A,els,c⟩= .agg #[.slice f.1 f.2.1.length f.2.2,.slice none 0 0,.slice A n c]):=by rw [hnn];rfl
 have HRV:Hid (pval (lv+1) ⟨f',A',els',c'⟩= .agg #[.slice f'.1 f'.2.1.length f'.2.2,.slice none 0 0,.slice A' n' c']):=by rw [hnn'];rfl
 obtain ⟨Af,hAf⟩:∃ Af,Af=f.1:=⟨_,rfl⟩
 obtain ⟨nf,hnf⟩:∃ nf,nf=f.2.1.length:=⟨_,rfl⟩
 obtain ⟨cf,hcf⟩:∃ cf,cf=f.2.2:=⟨_,rfl⟩
 obtain ⟨Ag,hAg⟩:∃ Ag,Ag=f'.1:=⟨_,rfl⟩
 obtain ⟨ng,hng⟩:∃ ng,ng=f'.2.1.length:=⟨_,rfl⟩
 obtain ⟨cg,hcg⟩:∃ cg,cg=f'.2.2:=⟨_,rfl⟩
 rw [<-hAf,<-hnf,<-hcf] at HPV
 rw [<-hAg,<-hng,<-hcg] at HRV
 obtain ⟨w2,hw2⟩:∃ w2,w2=((w.alloc (.cells #[.slice Af nf cf,.slice none 0 0,.slice A n c] 156)).alloc (.cells #[.slice Ag ng cg,.slice none 0 0,.slice A' n' c'] 156)).alloc (.cells #[.slice none 0 0,.slice none 0 0,.slice none 0 0] 156):=⟨_,rfl⟩
 have HBW:Hid (Below w.heap.size w w2):=by rw [hw2];exact (((Below.refl _ _).alloc (Nat.le_refl _) _).alloc (by simp) _).alloc (by simp;omega) _
 have hp2:=EOk.wider hp HBW.out
 have hr2:=EOk.wider hr HBW.out
 have hF2:=Wider.lt hF HBW.out.size
 obtain ⟨F2,hF2e⟩:∃ F2,F2=Wider w w2 F:=⟨_,rfl⟩
 have HF2:=Lib.hid hF2e
 rw [<-hF2e] at hp2 hr2 hF2
 clear hF2e hF hp hr hAf hnf hcf hAg hng hcg
 obtain ⟨_,h2,h3,h4⟩:=hp2
 obtain ⟨_,h2',h3',h4'⟩:=hr2
 dsimp only at h2 h3 h4 h2' h3' h4' hpn hrn h0 ⊢
 obtain ⟨L,hL⟩:∃ L,L=els++els':=⟨_,rfl⟩
 obtain ⟨N,hN⟩:∃ N,L.length=N:=⟨_,rfl⟩
 have hN2:N=n+n':=by rw [<-hN,hL,List.length_append];omega
 rw [<-hL]
 have HCON:Hid (∀ W,Below w2.heap.size w2 W->Calls Tryz.prog 166 #[.slice (some ⟨W.heap.size,0,none⟩) 2 2] (W.alloc (.cells #[.slice A n c,.slice A' n' c'] 154)) fun e w'=>
  (∃ A2 c2,e= .returned (.slice A2 N c2)/\Cells w' F2 A2 (rowCells (lv+1) L)/\N<=c2)/\Below W.heap.size W w'):=fun W hW=>by
  have hal:Below W.heap.size W (W.alloc (.cells #[.slice A n c,.slice A' n' c'] 154)):=(Below.refl _ _).alloc (Nat.le_refl _) _
  have hB:=Blk.new W [.slice A n c,.slice A' n' c'] 154
  have hL2:(([(A,els,c),(A',els',c')]:List (Option Addr × List (El (lv+1)) × Nat)).map fun r=>r.2.1).flatten=L:=by rw [hL];simp
  have:=joinK lv (W.alloc (.cells #[.slice A n c,.slice A' n' c'] 154)) F2 (fun b hb=>by have:=hF2 b hb;have:=hW.size;simp;omega) W.heap.size 2 2 [(A,els,c),(A',els',c')] N rfl (by omega) (by simp) (fun t ht=>by
   rw [Nat.zero_add]
   match t,ht with
   | 0,_=>rw [hB.cell (i:=0) (by simp)];simp [hnn]
   | 1,_=>rw [hB.cell (i:=1) (by simp)];simp [hnn']) (fun r hr=>by
   rcases List.mem_cons.1 hr with rfl | hr
   · exact (h2.below hW).below hal
   · rw [List.mem_singleton.1 hr];exact (h2'.below hW).below hal) (by rw [hL2];exact hN) (by omega)
  rw [hL2] at this
  refine this.mono ?_
  rintro e w' ⟨h1,hb⟩
  exact ⟨h1,hop hal hb⟩
 have HABV:Hid (∀ W,Below w2.heap.size w2 W->∀ (A2:Option Addr) (c2:Nat),Cells W F2 A2 (rowCells (lv+1) L)->N<=c2->Calls Tryz.prog 150 #[.slice A2 N c2] W fun e w'=>
  (∃ q:Pg (lv+1),e= .returned (pval (lv+1) q)/\IsPg W F2 (lv+1) L q)/\Below W.heap.size W w'):=fun W hW A2 c2 hc hm=>by
  have hall:∀ x ∈ L,Full (lv+1) x:=fun x hx=>by
   rw [hL] at hx
   exact (List.mem_append.1 hx).elim (fun hx=>hpi.full hx) (fun hx=>hri.full hx)
  have hok:AllOk W F2 (lv+1) L:=by
   rw [hL]
   exact AllOk.append (AllOk.below h4 hW) (AllOk.below h4' hW)
  exact above_any W F2 lv A2 L N c2 hc hok hall hN hm (by omega)
 have hn0:0<n:=by omega
 rw [HPV.out,HRV.out]
 clear h2 h3 h4 h2' h3' h4' hnn hnn' hpi hri HPV HRV hL hN hN2
 have HW:Hid (((w.alloc (.cells #[.slice Af nf cf,.slice none 0 0,.slice A n c] 156)).alloc (.cells #[.slice Ag ng cg,.slice none 0 0,.slice A' n' c'] 156)).alloc (.cells #[.slice none 0 0,.slice none 0 0,.slice none 0 0] 156)=w2):=hw2.symm
 have HB0:Hid (Blk w2 w.heap.size [.slice Af nf cf,.slice none 0 0,.slice A n c] 156):=by rw [hw2];exact ((Blk.new w _ _).alloc _).alloc _
 have HB1:Hid (Blk w2 (w.heap.size+1) [.slice Ag ng cg,.slice none 0 0,.slice A' n' c'] 156):=by
  have:=Blk.new (w.alloc (.cells #[.slice Af nf cf,.slice none 0 0,.slice A n c] 156)) [.slice Ag ng cg,.slice none 0 0,.slice A' n' c'] 156
  rw [show (w.alloc (.cells #[.slice Af nf cf,.slice none 0 0,.slice A n c] 156)).heap.size=w.heap.size+1 by simp] at this
  rw [hw2];exact this.alloc _
 have HB2:Hid (Blk w2 (w.heap.size+1+1) [.slice none 0 0,.slice none 0 0,.slice none 0 0] 156):=by
  have:=Blk.new ((w.alloc (.cells #[.slice Af nf cf,.slice none 0 0,.slice A n c] 156)).alloc (.cells #[.slice Ag ng cg,.slice none 0 0,.slice A' n' c'] 156)) [.slice none 0 0,.slice none 0 0,.slice none 0 0] 156
  rw [show ((w.alloc (.cells #[.slice Af nf cf,.slice none 0 0,.slice A n c] 156)).alloc (.cells #[.slice Ag ng cg,.slice none 0 0,.slice A' n' c'] 156)).heap.size=w.heap.size+1+1 by simp] at this
  rw [hw2];exact this
 have HSZ:Hid (w2.heap.size=w.heap.size+1+1+1):=by rw [hw2];show _=_;simp
 clear hw2
 have x0:=HB0.out.cell (i:=0) (by simp)
 have x1:=HB0.out.cell (i:=1) (by simp)
 have x2:=HB0.out.cell (i:=2) (by simp)
 simp only [List.getElem_cons_zero,List.getElem_cons_succ] at x0 x1 x2
 go_enter Tryz.func149,Tryz.ntmps149
 go_wp2_with fail
 rw [HW.out]
 with_reducible refine (isLeaf_no _ Af none A nf cf 0 0 n c (by omega)).mono ?_
 rintro e w3 ⟨rfl,hb3⟩
 have bd3:Below w2.heap.size w2 w3:=hb3
 clear x0 x1 x2 hb3
 have x1:=(HB0.out.below bd3 HB0.out.lt).cell (i:=2) (by simp)
 have y1:=(HB1.out.below bd3 HB1.out.lt).cell (i:=2) (by simp)
 simp only [List.getElem_cons_zero,List.getElem_cons_succ] at x1 y1
 go_wp2_with fail
 with_reducible refine (HCON.out _ bd3).mono ?_
 rintro e w4 ⟨⟨A2,c2,rfl,hc4,hm4⟩,hb4⟩
 have bd4:Below w2.heap.size w2 w4:=hop bd3 hb4
 have C4:=Lib.hid hc4
 have M4:=Lib.hid hm4
 clear hb4 hc4 hm4 x1 y1
 go_wp2_with fail
 with_reducible refine (HABV.out _ bd4 A2 c2 C4.out M4.out).mono ?_
 rintro e w5 ⟨⟨q,rfl,hq⟩,hb5⟩
 have bd5:Below w2.heap.size w2 w5:=hop bd4 hb5
 have Q5:=Lib.hid (hq.below hb5)
 clear hb5 hq
 obtain ⟨a0,m0,d0,a1,n1,d1,a2,m2',d2,hxf⟩:=page_form (lv+1) q
 have HQV:Hid (pval (lv+1) q= .agg #[.slice a0 m0 d0,.slice a1 n1 d1,.slice a2 m2' d2]):=by show pval _ _=_;unfold pval;rw [hxf]
 rw [HQV.out]
 clear hxf
 have r0:=(HB2.out.below bd5 HB2.out.lt).cell (i:=0) (by simp)
 have r1:=(HB2.out.below bd5 HB2.out.lt).cell (i:=1) (by simp)
 have r2:=(HB2.out.below bd5 HB2.out.lt).cell (i:=2) (by simp)
 have f0:=(HB2.out.below bd5 HB2.out.lt).free 0
 have f1:=(HB2.out.below bd5 HB2.out.lt).free 1
 have f2:=(HB2.out.below bd5 HB2.out.lt).free 2
 simp only [List.getElem_cons_zero,List.getElem_cons_succ] at r0 r1 r2
 have HBE:Hid (∀ u0 u1 u2:Value,Below w.heap.size w (((w5.setCell ⟨w.heap.size+1+1,0,none⟩ u0).setCell ⟨w.heap.size+1+1,1,none⟩ u1).setCell ⟨w.heap.size+1+1,2,none⟩ u2)):=fun u0 u1 u2=>(((hop HBW.out bd5).setCell (by simp;omega) _).setCell (by simp;omega) _).setCell (by simp;omega) _
 have HQE:Hid (∀ u0 u1 u2:Value,IsPg (((w5.setCell ⟨w.heap.size+1+1,0,none⟩ u0).setCell ⟨w.heap.size+1+1,1,none⟩ u1).setCell ⟨w.heap.size+1+1,2,none⟩ u2) F (lv+1) L q):=fun u0 u1 u2=>by
  refine ⟨Q5.out.els,?_,Q5.out.inner⟩
  have:=Q5.out.ok
  rw [HF2.out] at this
  have hsz:=HSZ.out
  exact this.narrow ((((Spared.refl w5 _).setCell (by omega) _ _).setCell (by omega) _ _).setCell (by omega) _ _)
 go_wp2_with fail
 exact bodyPost_ret (v:=pval (lv+1) q) (by rw [HQV.out];simp [results,Tryz.results149,go_sem,r0,r1,r2]) rfl ⟨⟨q,rfl,HQE.out _ _ _⟩,HBE.out _ _ _⟩
end Go.Proofs.YtdaahapbpnjkfaaGreat
