/-
without, of a leaf: the leaf without the pair of a key, which it has. Conditions: the keys rise; at most 1000 pairs.
-/
import Derived.Test.YtdaahapbpnjkfaaGreatCTrWithL
namespace Go.Proofs.YtdaahapbpnjkfaaGreat
open Go.RowKit
theorem under_good (w:World) (F:Nat->Prop) (lv:Nat) (p:Pg (lv+1)) (i:Nat) (B:Option Addr) (k:Key) (m d:Nat) (hp:Good w F (lv+1) p) (hi:i<p.els.length) (hr:∀ t (ht:t+1<p.els.length),ltK k (epiece (lv+1) p.els[t+1]).2.1=decide (i<=t)) (hk:Seen w B k) (hm:k.length=m):
 Calls Tryz.prog 130 #[pval (lv+1) p,.slice B m d] w fun e w'=>e= .returned (.int .i64 i)/\Below w.heap.size w w':=
 under_any w F lv p i B k m d hp.ok (by have:=hp.few;omega) hi hr hk hm
set_option maxHeartbeats 2000000 in
set_option maxRecDepth 100000 in
theorem withNode_any (lv:Nat) (ih:∀ (w:World) (F:Nat->Prop) (_:∀ b,F b->b<w.heap.size) (p:Pg lv) (x:El 0) (_:Good w F lv p) (_:EOk w F 0 x) (_:p.els.length<=8),Calls Tryz.prog 124 #[pval lv p,.agg #[pv (epiece 0 x),pv (eval0 x)]] w (WithOut w F lv (flats lv p.els) p.els.length (epiece 0 x).2.1 (eval0 x).2.1))
 (w:World) (F:Nat->Prop) (hF:∀ b,F b->b<w.heap.size) (p:Pg (lv+1)) (x:El 0) (hp:Good w F (lv+1) p) (hx:EOk w F 0 x) (hn:p.els.length<=8):
 Calls Tryz.prog 124 #[pval (lv+1) p,.agg #[pv (epiece 0 x),pv (eval0 x)]] w (WithOut w F (lv+1) (flats (lv+1) p.els) p.els.length (epiece 0 x).2.1 (eval0 x).2.1):=by
 obtain ⟨f,A,els,c⟩:=p
 obtain ⟨n,hnn⟩:∃ n,n=els.length:=⟨_,rfl⟩
 have HPV:Hid (pval (lv+1) ⟨f,A,els,c⟩= .agg #[.slice f.1 f.2.1.length f.2.2,.slice none 0 0,.slice A n c]):=by rw [hnn];rfl
 obtain ⟨Af,hAf⟩:∃ Af,Af=f.1:=⟨_,rfl⟩
 obtain ⟨nf,hnf⟩:∃ nf,nf=f.2.1.length:=⟨_,rfl⟩
 obtain ⟨cf,hcf⟩:∃ cf,cf=f.2.2:=⟨_,rfl⟩
 rw [<-hAf,<-hnf,<-hcf] at HPV
 obtain ⟨Ak,hAk⟩:∃ a,a=(epiece 0 x).1:=⟨_,rfl⟩
 obtain ⟨nk,hnk⟩:∃ a,a=(epiece 0 x).2.1.length:=⟨_,rfl⟩
 obtain ⟨ck,hck⟩:∃ a,a=(epiece 0 x).2.2:=⟨_,rfl⟩
 obtain ⟨Av,hAv⟩:∃ a,a=(eval0 x).1:=⟨_,rfl⟩
 obtain ⟨nv,hnv⟩:∃ a,a=(eval0 x).2.1.length:=⟨_,rfl⟩
 obtain ⟨cv,hcv⟩:∃ a,a=(eval0 x).2.2:=⟨_,rfl⟩
 have HXV:Hid ((.agg #[pv (epiece 0 x),pv (eval0 x)]:Value)= .agg #[.slice Ak nk ck,.slice Av nv cv]):=by rw [hAk,hnk,hck,hAv,hnv,hcv];rfl
 obtain ⟨w2,hw2⟩:∃ w2,w2=((w.alloc (.cells #[.slice Af nf cf,.slice none 0 0,.slice A n c] 156)).alloc (.cells #[.slice Ak nk ck,.slice Av nv cv] 123)).alloc (.cells #[.slice none 0 0,.slice none 0 0,.slice none 0 0] 156):=⟨_,rfl⟩
 have HBW:Hid (Below w.heap.size w w2):=by rw [hw2];exact (((Below.refl _ _).alloc (Nat.le_refl _) _).alloc (by simp) _).alloc (by simp;omega) _
 have hok2:=EOk.wider hp.ok HBW.out
 have hx2:=EOk.wider hx HBW.out
 have hF2:=Wider.lt hF HBW.out.size
 obtain ⟨F2,hF2e⟩:∃ F2,F2=Wider w w2 F:=⟨_,rfl⟩
 have HF2:=Lib.hid hF2e
 rw [<-hF2e] at hok2 hx2 hF2
 have hp2:Good w2 F2 (lv+1) ⟨f,A,els,c⟩:=⟨hok2,hp.inner,hp.srt,hp.few,hp.some_⟩
 obtain ⟨k,hk⟩:∃ k,k=(epiece 0 x).2.1:=⟨_,rfl⟩
 obtain ⟨v,hv⟩:∃ v,v=(eval0 x).2.1:=⟨_,rfl⟩
 have hsk:Seen w2 Ak k:=by rw [hAk,hk];exact hx2.1.1.seen
 have hkl:k.length=nk:=by rw [hk,hnk]
 dsimp only at hn ⊢
 have hp0:0<els.length:=hp.some_ (by omega)
 obtain ⟨i,hi,hr,hlo,hhi⟩:=route lv k els (fun x hx=>hp.inner.full hx) hp.srt hp0
 have HU:Hid (∀ W,Below w2.heap.size w2 W->Calls Tryz.prog 130 #[.agg #[.slice Af nf cf,.slice none 0 0,.slice A n c],.slice Ak nk ck] W fun e w'=>e= .returned (.int .i64 i)/\Below W.heap.size W w'):=fun W hW=>by
  have:=under_good W F2 lv ⟨f,A,els,c⟩ i Ak k nk ck (hp2.below hW) hi hr (hsk.below hW) hkl
  rw [HPV.out] at this
  exact this
 obtain ⟨kid,hkid⟩:∃ kid:Pg lv,kid=els[i]:=⟨_,rfl⟩
 have hg:=hp2.kid i hi
 dsimp only at hg
 rw [<-hkid] at hg
 have hfull:Full (lv+1) els[i]:=hp.inner.full (List.getElem_mem hi)
 have hk48:4<=kid.els.length/\kid.els.length<=8:=by rw [hkid];exact hfull.1
 obtain ⟨K0,k0,e0,K1,k1,e1,K2,k2,e2,hkv⟩:=page_form lv kid
 have HKV:Hid (pval lv kid= .agg #[.slice K0 k0 e0,.slice K1 k1 e1,.slice K2 k2 e2]):=by show pval lv kid=_;unfold pval;rw [hkv]
 rw [<-hk,<-hv]
 have HIH:Hid (∀ W,Below w2.heap.size w2 W->Calls Tryz.prog 124 #[.agg #[.slice K0 k0 e0,.slice K1 k1 e1,.slice K2 k2 e2],.agg #[.slice Ak nk ck,.slice Av nv cv]] W (WithOut W F2 lv (flats lv kid.els) kid.els.length k v)):=fun W hW=>by
  have:=ih W F2 (fun b hb=>Nat.lt_of_lt_of_le (hF2 b hb) hW.size) kid x (hg.below hW) (hx2.below hW) hk48.2
  rw [HKV.out,HXV.out,<-hk,<-hv] at this
  exact this
 have HREP:Hid (∀ W,Below w2.heap.size w2 W->∀ q:Pg lv,EOk W F2 (lv+1) q->Inner (lv+1) q->4<=q.els.length->q.els.length<=16->Calls Tryz.prog 148 #[.agg #[.slice Af nf cf,.slice none 0 0,.slice A n c],.int .i64 (i:Int),.int .i64 ((i:Int)+1),pval lv q] W (ReplOut W F2 lv els i (i+1) q)):=fun W hW q h1 h2 h3 h4=>by
  have:=replace_any lv W F2 (fun b hb=>Nat.lt_of_lt_of_le (hF2 b hb) hW.size) ⟨f,A,els,c⟩ i (i+1) q (hok2.below hW) hp.inner h1 h2 h3 h4 (by dsimp only;omega) (by dsimp only;omega) (by dsimp only;omega)
  rw [HPV.out,show ((i+1:Nat):Int)=(i:Int)+1 by omega] at this
  exact this
 have HMATH:Hid (∀ (q:Pg lv) (ps:List (El (lv+1))) (n1:Nat),n1=kid.els.length->flats lv q.els=putT k v (flats lv kid.els)->n1<=q.els.length/\q.els.length<=n1+1->flats (lv+1) ps=flats lv q.els->ps.length=(if q.els.length<=8 then 1 else 2)->flats (lv+1) (els.take i++ps++els.drop (i+1))=putT k v (flats (lv+1) els)/\(n<=(els.take i++ps++els.drop (i+1)).length/\(els.take i++ps++els.drop (i+1)).length<=n+1/\0<(els.take i++ps++els.drop (i+1)).length)):=fun q ps n1 hn1 hq hqn hps hpl=>by
  constructor
  · rw [flats_append,flats_append,hps,hq,flats_split (lv+1) els i hi,mid_put hlo hhi,<-hkid]
    rfl
  · rw [List.length_append,List.length_append,List.length_take,List.length_drop,hpl]
    split<;>omega
 have HKL:Hid (4<=kid.els.length/\kid.els.length<=8):=hk48
 obtain ⟨b,off,rfl,hb,hFb,hcell⟩:=(hok2.2.1).elem i hi
 have HKC:Hid (∀ W,Below w2.heap.size w2 W->W.cell? ⟨b,off+i*3,none⟩=some (.slice K0 k0 e0)/\W.cell? ⟨b,off+i*3+1,none⟩=some (.slice K1 k1 e1)/\W.cell? ⟨b,off+i*3+2,none⟩=some (.slice K2 k2 e2)):=fun W hW=>by
  have hc:∀ j,j<3->w2.cell? ⟨b,off+i*3+j,none⟩=([.slice K0 k0 e0,.slice K1 k1 e1,.slice K2 k2 e2]:List Value)[j]? :=fun j hj=>(hcell j hj).trans (by rw [<-hkv,hkid])
  exact ⟨(hW.cell (p:=⟨b,off+i*3,none⟩) hb).trans (hc 0 (by decide)),(hW.cell (p:=⟨b,off+i*3+1,none⟩) hb).trans (hc 1 (by decide)),(hW.cell (p:=⟨b,off+i*3+2,none⟩) hb).trans (hc 2 (by decide))⟩
 have HBF:Hid (b≠w.heap.size+1+1):=by
  intro e
  apply hFb
  rw [HF2.out]
  refine .inr ⟨by omega,?_⟩
  rw [e,hw2];simp
 have HB0':Hid (b<w2.heap.size):=hb
 rw [HPV.out,HXV.out]
 have HW:Hid (((w.alloc (.cells #[.slice Af nf cf,.slice none 0 0,.slice (some ⟨b,off,none⟩) n c] 156)).alloc (.cells #[.slice Ak nk ck,.slice Av nv cv] 123)).alloc (.cells #[.slice none 0 0,.slice none 0 0,.slice none 0 0] 156)=w2):=hw2.symm
 have HB0:Hid (Blk w2 w.heap.size [.slice Af nf cf,.slice none 0 0,.slice (some ⟨b,off,none⟩) n c] 156):=by rw [hw2];exact ((Blk.new w _ _).alloc _).alloc _
 have HB1:Hid (Blk w2 (w.heap.size+1) [.slice Ak nk ck,.slice Av nv cv] 123):=by
  have:=Blk.new (w.alloc (.cells #[.slice Af nf cf,.slice none 0 0,.slice (some ⟨b,off,none⟩) n c] 156)) [.slice Ak nk ck,.slice Av nv cv] 123
  rw [show (w.alloc (.cells #[.slice Af nf cf,.slice none 0 0,.slice (some ⟨b,off,none⟩) n c] 156)).heap.size=w.heap.size+1 by simp] at this
  rw [hw2];exact this.alloc _
 have HB2:Hid (Blk w2 (w.heap.size+1+1) [.slice none 0 0,.slice none 0 0,.slice none 0 0] 156):=by
  have:=Blk.new ((w.alloc (.cells #[.slice Af nf cf,.slice none 0 0,.slice (some ⟨b,off,none⟩) n c] 156)).alloc (.cells #[.slice Ak nk ck,.slice Av nv cv] 123)) [.slice none 0 0,.slice none 0 0,.slice none 0 0] 156
  rw [show ((w.alloc (.cells #[.slice Af nf cf,.slice none 0 0,.slice (some ⟨b,off,none⟩) n c] 156)).alloc (.cells #[.slice Ak nk ck,.slice Av nv cv] 123)).heap.size=w.heap.size+1+1 by simp] at this
  rw [hw2];exact this
 have HSZ:Hid (w2.heap.size=w.heap.size+1+1+1):=by rw [hw2];show _=_;simp
 have HKA:Hid (∀ W,(∃ w8,Below w2.heap.size w2 w8/\Spared w8 W (fun g=>g=w.heap.size+1+1))->W.cell? ⟨w.heap.size,0,none⟩=some (.slice Af nf cf)/\W.cell? ⟨w.heap.size,1,none⟩=some (.slice none 0 0)/\W.cell? ⟨w.heap.size,2,none⟩=some (.slice (some ⟨b,off,none⟩) n c)/\W.cell? ⟨w.heap.size+1,0,none⟩=some (.slice Ak nk ck)/\W.cell? ⟨w.heap.size+1,1,none⟩=some (.slice Av nv cv)/\W.cell? ⟨b,off+i*3,none⟩=some (.slice K0 k0 e0)/\W.cell? ⟨b,off+i*3+1,none⟩=some (.slice K1 k1 e1)/\W.cell? ⟨b,off+i*3+2,none⟩=some (.slice K2 k2 e2)):=by
  rintro W ⟨w8,hW,hs⟩
  have h0:=hs.blk (HB0.out.below hW HB0.out.lt) (by omega)
  have h1:=hs.blk (HB1.out.below hW HB1.out.lt) (by omega)
  obtain ⟨z0,z1,z2⟩:=HKC.out w8 hW
  have hb8:b<w8.heap.size:=Nat.lt_of_lt_of_le HB0'.out hW.size
  have hz:∀ o,W.cell? ⟨b,o,none⟩=w8.cell? ⟨b,o,none⟩:=fun o=>World.cell?_of_block (a:=⟨b,o,none⟩) (hs.block b hb8 HBF.out)
  exact ⟨h0.cell (i:=0) (by simp),h0.cell (i:=1) (by simp),h0.cell (i:=2) (by simp),h1.cell (i:=0) (by simp),h1.cell (i:=1) (by simp),(hz _).trans z0,(hz _).trans z1,(hz _).trans z2⟩
 have HK:Hid (∀ W,Below w2.heap.size w2 W->W.cell? ⟨w.heap.size,0,none⟩=some (.slice Af nf cf)/\W.cell? ⟨w.heap.size,1,none⟩=some (.slice none 0 0)/\W.cell? ⟨w.heap.size,2,none⟩=some (.slice (some ⟨b,off,none⟩) n c)/\W.cell? ⟨w.heap.size+1,0,none⟩=some (.slice Ak nk ck)/\W.cell? ⟨w.heap.size+1,1,none⟩=some (.slice Av nv cv)/\W.cell? ⟨b,off+i*3,none⟩=some (.slice K0 k0 e0)/\W.cell? ⟨b,off+i*3+1,none⟩=some (.slice K1 k1 e1)/\W.cell? ⟨b,off+i*3+2,none⟩=some (.slice K2 k2 e2)):=fun W hW=>HKA.out W ⟨W,hW,Spared.refl W _⟩
 have HKS:Hid (∀ W,Below w2.heap.size w2 W->∀ u0 u1 u2:Value,((((W.setCell ⟨w.heap.size+1+1,0,none⟩ u0).setCell ⟨w.heap.size+1+1,1,none⟩ u1).setCell ⟨w.heap.size+1+1,2,none⟩ u2)).cell? ⟨w.heap.size,0,none⟩=some (.slice Af nf cf)/\((((W.setCell ⟨w.heap.size+1+1,0,none⟩ u0).setCell ⟨w.heap.size+1+1,1,none⟩ u1).setCell ⟨w.heap.size+1+1,2,none⟩ u2)).cell? ⟨w.heap.size,1,none⟩=some (.slice none 0 0)/\((((W.setCell ⟨w.heap.size+1+1,0,none⟩ u0).setCell ⟨w.heap.size+1+1,1,none⟩ u1).setCell ⟨w.heap.size+1+1,2,none⟩ u2)).cell? ⟨w.heap.size,2,none⟩=some (.slice (some ⟨b,off,none⟩) n c)/\((((W.setCell ⟨w.heap.size+1+1,0,none⟩ u0).setCell ⟨w.heap.size+1+1,1,none⟩ u1).setCell ⟨w.heap.size+1+1,2,none⟩ u2)).cell? ⟨w.heap.size+1,0,none⟩=some (.slice Ak nk ck)/\((((W.setCell ⟨w.heap.size+1+1,0,none⟩ u0).setCell ⟨w.heap.size+1+1,1,none⟩ u1).setCell ⟨w.heap.size+1+1,2,none⟩ u2)).cell? ⟨w.heap.size+1,1,none⟩=some (.slice Av nv cv)/\((((W.setCell ⟨w.heap.size+1+1,0,none⟩ u0).setCell ⟨w.heap.size+1+1,1,none⟩ u1).setCell ⟨w.heap.size+1+1,2,none⟩ u2)).cell? ⟨b,off+i*3,none⟩=some (.slice K0 k0 e0)/\((((W.setCell ⟨w.heap.size+1+1,0,none⟩ u0).setCell ⟨w.heap.size+1+1,1,none⟩ u1).setCell ⟨w.heap.size+1+1,2,none⟩ u2)).cell? ⟨b,off+i*3+1,none⟩=some (.slice K1 k1 e1)/\((((W.setCell ⟨w.heap.size+1+1,0,none⟩ u0).setCell ⟨w.heap.size+1+1,1,none⟩ u1).setCell ⟨w.heap.size+1+1,2,none⟩ u2)).cell? ⟨b,off+i*3+2,none⟩=some (.slice K2 k2 e2)):=fun W hW u0 u1 u2=>
  HKA.out _ ⟨W,hW,(((Spared.refl W (fun g=>g=w.heap.size+1+1)).setCell (g:=w.heap.size+1+1) rfl _ _).setCell (g:=w.heap.size+1+1) rfl _ _).setCell (g:=w.heap.size+1+1) rfl _ _⟩
 obtain ⟨FL,hFL⟩:∃ FL,FL=flats (lv+1) els:=⟨_,rfl⟩
 rw [<-hFL] at HMATH ⊢
 rw [<-hnn]
 have hi0:(0:Int)<=(i:Int):=by omega
 have hi1:(i:Int)<(n:Int):=by omega
 have hn0:0<n:=by omega
 have hn8:n<=8:=by omega
 obtain ⟨kf,hkf⟩:∃ kf,kf=flats lv kid.els:=⟨_,rfl⟩
 obtain ⟨kn,hkn⟩:∃ kn,kn=kid.els.length:=⟨_,rfl⟩
 rw [<-hkf] at HMATH
 rw [<-hkf,<-hkn] at HIH
 rw [<-hkn] at HKL HMATH
 have x0:=HB0.out.cell (i:=0) (by simp)
 have x1:=HB0.out.cell (i:=1) (by simp)
 have x2:=HB0.out.cell (i:=2) (by simp)
 simp only [List.getElem_cons_zero,List.getElem_cons_succ] at x0 x1 x2
 clear hF2e hF hp hx hAf hnf hcf hAk hnk hck hAv hnv hcv hnn hok2 hx2 hF2 hp2 hk hv hsk hkl hn hp0 hi hr hlo hhi hkid hg hfull hk48 hkv HPV HXV HKV hb hFb hcell hw2 hFL hkf hkn ih
 go_enter Tryz.func124,Tryz.ntmps124
 go_wp2_with fail
 rw [HW.out]
 with_reducible refine (isLeaf_no _ Af none (some ⟨b,off,none⟩) nf cf 0 0 n c hn0).mono ?_
 rintro e w3 ⟨rfl,hb3⟩
 have bd3:Below w2.heap.size w2 w3:=hb3
 clear x0 x1 x2 hb3
 obtain ⟨x0,x1,x2,y0,y1,z0,z1,z2⟩:=HK.out w3 bd3
 go_wp2_with fail
 with_reducible refine (HU.out _ bd3).mono ?_
 rintro e w5 ⟨rfl,hb5⟩
 have bd5:Below w2.heap.size w2 w5:=hop bd3 hb5
 clear x0 x1 x2 y0 y1 z0 z1 z2 hb5
 have bd:Below w2.heap.size w2 w5.drew:=bd5.drew
 have hwr:IntKind.i64.wrap ((i:Int)+1)=(i:Int)+1:=by rw [IntKind.wrap_i64];omega
 go_wp2_with fail
 go_region_held_law (fun w'=>w'.cell? ⟨w.heap.size,0,none⟩=some (.slice Af nf cf)/\w'.cell? ⟨w.heap.size,1,none⟩=some (.slice none 0 0)/\w'.cell? ⟨w.heap.size,2,none⟩=some (.slice (some ⟨b,off,none⟩) n c)/\w'.cell? ⟨w.heap.size+1,0,none⟩=some (.slice Ak nk ck)/\w'.cell? ⟨w.heap.size+1,1,none⟩=some (.slice Av nv cv)/\w'.cell? ⟨b,off+i*3,none⟩=some (.slice K0 k0 e0)/\w'.cell? ⟨b,off+i*3+1,none⟩=some (.slice K1 k1 e1)/\w'.cell? ⟨b,off+i*3+2,none⟩=some (.slice K2 k2 e2))
  (first | exact HK.out _ bd | exact HK.out _ bd7 | exact HK.out _ bd8 | exact HS8.out _ _ _)
  (first
   | (go_at_call 124;(with_reducible refine (HIH.out _ bd).mono ?_);rintro e w7 ⟨⟨q',rfl,hq1,hq2,hq3,hq4,hq5,_⟩,hb7⟩;have bd7:Below w2.heap.size w2 w7:=hop bd hb7;have Q1:=Lib.hid hq1;have Q2:=Lib.hid hq2;have Q3:=Lib.hid hq3;have Q4:=Lib.hid hq4;have Q5:=Lib.hid hq5;clear hb7 hq1 hq2 hq3 hq4 hq5)
   | (go_at_call 148;(with_reducible refine (HREP.out _ bd7 q' Q1.out Q2.out (by have:=HKL.out;have:=Q4.out;omega) (by have:=HKL.out;have:=Q5.out;omega)).mono ?_);rintro e w8 ⟨⟨q,ps,rfl,hq,hps,hpl⟩,hb8⟩;have bd8:Below w2.heap.size w2 w8:=hop bd7 hb8;have Q8:=Lib.hid hq;have P1:=Lib.hid hps;have P2:=Lib.hid hpl;clear hb8 hq hps hpl;obtain ⟨a0,m0,d0,a1,n1,d1,a2,m2',d2,hxf⟩:=page_form (lv+1) q;have XF:=Lib.hid hxf;unfold pval;rw [hxf];clear hxf;have r0:=(HB2.out.below bd8 HB2.out.lt).cell (i:=0) (by simp);have r1:=(HB2.out.below bd8 HB2.out.lt).cell (i:=1) (by simp);have r2:=(HB2.out.below bd8 HB2.out.lt).cell (i:=2) (by simp);have f0:=(HB2.out.below bd8 HB2.out.lt).free 0;have f1:=(HB2.out.below bd8 HB2.out.lt).free 1;have f2:=(HB2.out.below bd8 HB2.out.lt).free 2;have HS8:=Lib.hid (HKS.out _ bd8)))
 have HBE:Hid (∀ u0 u1 u2:Value,Below w.heap.size w (((w8.setCell ⟨w.heap.size+1+1,0,none⟩ u0).setCell ⟨w.heap.size+1+1,1,none⟩ u1).setCell ⟨w.heap.size+1+1,2,none⟩ u2)):=fun u0 u1 u2=>(((hop HBW.out bd8).setCell (by simp;omega) _).setCell (by simp;omega) _).setCell (by simp;omega) _
 have HQE:Hid (∀ u0 u1 u2:Value,EOk (((w8.setCell ⟨w.heap.size+1+1,0,none⟩ u0).setCell ⟨w.heap.size+1+1,1,none⟩ u1).setCell ⟨w.heap.size+1+1,2,none⟩ u2) F (lv+2) q):=fun u0 u1 u2=>by
  have:=Q8.out.ok
  rw [HF2.out] at this
  have hsz:=HSZ.out
  exact this.narrow ((((Spared.refl w8 _).setCell (by omega) _ _).setCell (by omega) _ _).setCell (by omega) _ _)
 have HQV:Hid (pval (lv+1) q= .agg #[.slice a0 m0 d0,.slice a1 n1 d1,.slice a2 m2' d2]):=by show pval _ _=_;unfold pval;rw [XF.out]
 have HQM:Hid (flats (lv+1) q.els=putT k v FL/\(n<=q.els.length/\q.els.length<=n+1/\0<q.els.length)):=by
  rw [Q8.out.els]
  exact HMATH.out q' ps kn rfl Q3.out ⟨Q4.out,Q5.out⟩ P1.out P2.out
 simp only [List.getElem_cons_zero,List.getElem_cons_succ] at r0 r1 r2
 go_wp2_with fail
 exact bodyPost_ret (v:=pval (lv+1) q) (by rw [HQV.out];simp [results,Tryz.results124,go_sem,r0,r1,r2]) rfl ⟨⟨q,rfl,HQE.out _ _ _,Q8.out.inner,HQM.out.1,HQM.out.2⟩,HBE.out _ _ _⟩
theorem with_any:(lv:Nat)->∀ (w:World) (F:Nat->Prop) (_:∀ b,F b->b<w.heap.size) (p:Pg lv) (x:El 0) (_:Good w F lv p) (_:EOk w F 0 x) (_:p.els.length<=8),Calls Tryz.prog 124 #[pval lv p,.agg #[pv (epiece 0 x),pv (eval0 x)]] w (WithOut w F lv (flats lv p.els) p.els.length (epiece 0 x).2.1 (eval0 x).2.1)
 | 0=>fun w F hF p x hp hx hn=>withLeaf_any w F hF p x hp.ok hp.srt hx (by omega)
 | lv+1=>fun w F hF p x hp hx hn=>withNode_any lv (with_any lv) w F hF p x hp hx hn
def LessOut (w:World) (F:Nat->Prop) (h:Nat) (l:List Kv) (n:Nat) (k:Key) (e:Ending) (w':World):Prop:=
 (∃ q:Pg h,e= .returned (pval h q)/\EOk w' F (h+1) q/\Inner (h+1) q/\flats h q.els=delL k l/\(n<=q.els.length+1/\q.els.length<=n))/\Below w.heap.size w w'
set_option maxHeartbeats 2000000 in
set_option maxRecDepth 100000 in
theorem lessLeaf_any (w:World) (F:Nat->Prop) (hF:∀ b,F b->b<w.heap.size) (p:Pg 0) (hp:EOk w F 1 p) (hs:Srt (flats 0 p.els)) (hn:p.els.length<=1000) (Ak:Option Addr) (k:Key) (nk ck:Nat) (hsk0:Seen w Ak k) (hkl:k.length=nk) (hhas:hasL k (flats 0 p.els)=true):
 Calls Tryz.prog 123 #[pval 0 p,.slice Ak nk ck] w (LessOut w F 0 (flats 0 p.els) p.els.length k):=by
 obtain ⟨f,A,els,c⟩:=p
 obtain ⟨n,hnn⟩:∃ n,n=els.length:=⟨_,rfl⟩
 have HPV:Hid (pval 0 ⟨f,A,els,c⟩= .agg #[.slice f.1 f.2.1.length f.2.2,.slice A n c,.slice none 0 0]):=by rw [hnn];rfl
 obtain ⟨Af,hAf⟩:∃ Af,Af=f.1:=⟨_,rfl⟩
 obtain ⟨nf,hnf⟩:∃ nf,nf=f.2.1.length:=⟨_,rfl⟩
 obtain ⟨cf,hcf⟩:∃ cf,cf=f.2.2:=⟨_,rfl⟩
 rw [<-hAf,<-hnf,<-hcf] at HPV
 obtain ⟨w2,hw2⟩:∃ w2,w2=(w.alloc (.cells #[.slice Af nf cf,.slice A n c,.slice none 0 0] 156)).alloc (.cells #[.slice none 0 0,.slice none 0 0,.slice none 0 0] 156):=⟨_,rfl⟩
 have HBW:Hid (Below w.heap.size w w2):=by rw [hw2];exact ((Below.refl _ _).alloc (Nat.le_refl _) _).alloc (by simp) _
 have hp2:=EOk.wider hp HBW.out
 have hF2:=Wider.lt hF HBW.out.size
 obtain ⟨F2,hF2e⟩:∃ F2,F2=Wider w w2 F:=⟨_,rfl⟩
 have HF2:=Lib.hid hF2e
 rw [<-hF2e] at hp2 hF2
 have hsk:Seen w2 Ak k:=hsk0.below HBW.out
 have HPL:Hid (∀ W,Below w2.heap.size w2 W->Calls Tryz.prog 129 #[.agg #[.slice Af nf cf,.slice A n c,.slice none 0 0],.slice Ak nk ck] W fun e w'=>e= .returned (.tuple #[.int .i64 ((low k (flats 0 els)).length:Nat),.bool true])/\Below W.heap.size W w'):=fun W hW=>by
  have:=place_any W F2 ⟨f,A,els,c⟩ Ak k nk ck (hp2.below hW) (by dsimp only at hn ⊢;omega) hs (hsk.below hW) hkl
  rw [HPV.out] at this
  dsimp only at hhas
  rw [<-hhas]
  exact this
 clear hF2e hF hp hAf hnf hcf
 obtain ⟨_,h2,h3,h4⟩:=hp2
 dsimp only at h2 h3 h4 hn hs hhas ⊢
 obtain ⟨j,hj1,hj2,hj3,ht1,ht2⟩:=leaf_cut hs k
 rw [hhas] at hj3
 obtain ⟨i,hi⟩:∃ i,i=(low k (flats 0 els)).length:=⟨_,rfl⟩
 rw [<-hi] at hj1 hj3 ht1 HPL
 have hji:j=i+1:=hj3
 obtain ⟨L,hL⟩:∃ L,L=els.take i++els.drop j:=⟨_,rfl⟩
 obtain ⟨N,hN⟩:∃ N,L.length=N:=⟨_,rfl⟩
 obtain ⟨m2,hm2⟩:∃ m2,m2=n-j:=⟨_,rfl⟩
 have HFL:Hid (flats 0 L=delL k (flats 0 els)):=by
  show _=_
  rw [hL,flats_append,ht1,ht2]
  rfl
 have HLEN:Hid (n<=N+1/\N<=n):=by
  show _/\_
  rw [<-hN,hL,List.length_append,List.length_take,List.length_drop]
  omega
 obtain ⟨i0,z0,R⟩:=rowP
 have hcut1:∀ W,(Instr.slice 63 (.slice A n c) none (some (.int .i64 (i:Int))) none).run Tryz.prog W= .ok (.slice A i c) W:=R.head A n c i (by omega)
 have hcut2:=R.tail A n c j (by omega)
 have hdr:=h2.drop j 2 c (by rw [rowCells_length];exact Nat.mul_le_mul_right _ h3)
 have htk:=h2.take (i*2)
 rw [show j*2=j*esize 0 from rfl] at hdr
 rw [show i*2=i*esize 0 from rfl] at htk
 rw [rowCells_drop] at hdr
 rw [rowCells_take] at htk
 rw [show (fun a:Addr=>a.add (j*esize 0))=(fun a:Addr=>a.add (j*2)) from rfl] at hdr
 rw [<-hm2] at hcut2
 generalize (if c=j then A else A.map fun a=>a.add (j*2))=A' at *
 have HCON:Hid (∀ W,Below w2.heap.size w2 W->Calls Tryz.prog 146 #[.slice (some ⟨W.heap.size,0,none⟩) 2 2] (W.alloc (.cells #[.slice A i c,.slice A' m2 (c-j)] 63)).drew fun e w'=>
  (∃ A2 c2,e= .returned (.slice A2 N c2)/\Cells w' F2 A2 (rowCells 0 L)/\N<=c2)/\Below W.heap.size W w'):=fun W hW=>by
  have hal:Below W.heap.size W (W.alloc (.cells #[.slice A i c,.slice A' m2 (c-j)] 63)).drew:=((Below.refl _ _).alloc (Nat.le_refl _) _).drew
  have hB:=(Blk.new W [.slice A i c,.slice A' m2 (c-j)] 63).drew
  have hlt:(els.take i).length=i:=by rw [List.length_take];omega
  have hld:(els.drop j).length=m2:=by rw [List.length_drop];omega
  have hL2:(([(A,els.take i,c),(A',els.drop j,c-j)]:List (Option Addr × List (El 0) × Nat)).map fun r=>r.2.1).flatten=L:=by rw [hL];simp
  have:=joinP (W.alloc (.cells #[.slice A i c,.slice A' m2 (c-j)] 63)).drew F2 (fun b hb=>by have:=hF2 b hb;have:=hW.size;simp;omega) W.heap.size 2 2 [(A,els.take i,c),(A',els.drop j,c-j)] N rfl (by omega) (by simp) (fun t ht=>by
   rw [Nat.zero_add]
   match t,ht with
   | 0,_=>rw [hB.cell (i:=0) (by simp)];simp [hlt]
   | 1,_=>rw [hB.cell (i:=1) (by simp)];simp [hld]) (fun r hr=>by
   rcases List.mem_cons.1 hr with rfl | hr
   · exact Cells.below (htk.below hW) hal
   · rw [List.mem_singleton.1 hr];exact Cells.below (hdr.below hW) hal) (by rw [hL2];exact hN) (by have:=HLEN.out;omega)
  rw [hL2] at this
  refine this.mono ?_
  rintro e w' ⟨h1,hb⟩
  exact ⟨h1,hop hal hb⟩
 have HABV:Hid (∀ W,Below w2.heap.size w2 W->∀ (A2:Option Addr) (c2:Nat),Cells W F2 A2 (rowCells 0 L)->N<=c2->Calls Tryz.prog 145 #[.slice A2 N c2] W fun e w'=>
  (∃ q:Pg 0,e= .returned (pval 0 q)/\IsPg W F2 0 L q)/\Below W.heap.size W w'):=fun W hW A2 c2 hc hm=>by
  have hok:AllOk W F2 0 L:=by
   rw [hL]
   exact AllOk.append (AllOk.below (AllOk.take h4 i) hW) (AllOk.below (AllOk.drop h4 j) hW)
  exact leaf_any W F2 A2 L N c2 hc hok hN hm
 have HNL:=Lib.hid hN
 rw [HPV.out]
 have HW:Hid ((w.alloc (.cells #[.slice Af nf cf,.slice A n c,.slice none 0 0] 156)).alloc (.cells #[.slice none 0 0,.slice none 0 0,.slice none 0 0] 156)=w2):=hw2.symm
 have HB0:Hid (Blk w2 w.heap.size [.slice Af nf cf,.slice A n c,.slice none 0 0] 156):=by rw [hw2];exact (Blk.new w _ _).alloc _
 have HB2:Hid (Blk w2 (w.heap.size+1) [.slice none 0 0,.slice none 0 0,.slice none 0 0] 156):=by
  have:=Blk.new (w.alloc (.cells #[.slice Af nf cf,.slice A n c,.slice none 0 0] 156)) [.slice none 0 0,.slice none 0 0,.slice none 0 0] 156
  rw [show (w.alloc (.cells #[.slice Af nf cf,.slice A n c,.slice none 0 0] 156)).heap.size=w.heap.size+1 by simp] at this
  rw [hw2];exact this
 have HSZ:Hid (w2.heap.size=w.heap.size+1+1):=by rw [hw2];show _=_;simp
 have HK:Hid (∀ W,Below w2.heap.size w2 W->W.cell? ⟨w.heap.size,1,none⟩=some (.slice A n c)):=fun W hW=>(HB0.out.below hW HB0.out.lt).cell (i:=1) (by simp)
 have HKS:Hid (∀ W,Below w2.heap.size w2 W->∀ u0 u1 u2:Value,(((W.setCell ⟨w.heap.size+1,0,none⟩ u0).setCell ⟨w.heap.size+1,1,none⟩ u1).setCell ⟨w.heap.size+1,2,none⟩ u2).cell? ⟨w.heap.size,1,none⟩=some (.slice A n c)):=fun W hW u0 u1 u2=>
  ((((HB0.out.below hW HB0.out.lt).other ⟨w.heap.size+1,0,none⟩ u0 (by simp)).other ⟨w.heap.size+1,1,none⟩ u1 (by simp)).other ⟨w.heap.size+1,2,none⟩ u2 (by simp)).cell (i:=1) (by simp)
 obtain ⟨FL,hFL⟩:∃ FL,FL=flats 0 els:=⟨_,rfl⟩
 rw [<-hFL] at HFL ⊢
 rw [<-hnn]
 have hj2':j<=n:=by omega
 have hnm:n<=1000:=by omega
 have hi1:i<=1000:=by omega
 have hcut3:∀ W,(Instr.slice 63 (.slice A n c) (some (.int .i64 ((i:Int)+1))) none none).run Tryz.prog W= .ok (.slice A' m2 (c-j)) W:=by
  rw [show (i:Int)+1=(j:Int) by omega];exact hcut2
 have hwr:IntKind.i64.wrap ((i:Int)+1)=(i:Int)+1:=by rw [IntKind.wrap_i64];omega
 have x0:=HB0.out.cell (i:=0) (by simp)
 have x1:=HB0.out.cell (i:=1) (by simp)
 have x2:=HB0.out.cell (i:=2) (by simp)
 simp only [List.getElem_cons_zero,List.getElem_cons_succ] at x0 x1 x2
 clear h2 h3 h4 htk hdr R hi hj3 ht1 ht2 hL hN hm2 hsk hkl hw2 hs HPV hFL hnn hF2 hn hj2 hji hcut2 hhas hsk0
 go_enter Tryz.func123,Tryz.ntmps123
 go_wp2_with fail
 rw [HW.out]
 with_reducible refine (isLeaf_yes _ Af A nf cf n c).mono ?_
 rintro e w3 ⟨rfl,hb3⟩
 have bd3:Below w2.heap.size w2 w3:=hb3
 clear x0 x1 x2 hb3
 have x0:=(HB0.out.below bd3 HB0.out.lt).cell (i:=0) (by simp)
 have x1:=(HB0.out.below bd3 HB0.out.lt).cell (i:=1) (by simp)
 have x2:=(HB0.out.below bd3 HB0.out.lt).cell (i:=2) (by simp)
 simp only [List.getElem_cons_zero,List.getElem_cons_succ] at x0 x1 x2
 go_wp2_with fail
 with_reducible refine (HPL.out _ bd3).mono ?_
 rintro e w5 ⟨rfl,hb5⟩
 have bd5:Below w2.heap.size w2 w5:=hop bd3 hb5
 clear x0 x1 x2 hb5
 have bd:Below w2.heap.size w2 w5.drew:=bd5.drew
 go_wp2_with fail
 go_region_held_law (fun w'=>w'.cell? ⟨w.heap.size,1,none⟩=some (.slice A n c))
  (first | exact HK.out _ bd | exact HK.out _ bd7 | exact HK.out _ bd8 | exact HS8.out _ _ _ | exact HK.out _ (bd.alloc bd.size _))
  (first
   | (go_at_call 146;(with_reducible refine (HCON.out _ bd5).mono ?_);rintro e w7 ⟨⟨A2,c2,rfl,hc7,hm7⟩,hb7⟩;have bd7:Below w2.heap.size w2 w7:=hop bd5 hb7;have C7:=Lib.hid hc7;have M7:=Lib.hid hm7;clear hb7 hc7 hm7)
   | (go_at_call 145;(with_reducible refine (HABV.out _ bd7 A2 c2 C7.out M7.out).mono ?_);rintro e w8 ⟨⟨q,rfl,hq⟩,hb8⟩;have bd8:Below w2.heap.size w2 w8:=hop bd7 hb8;have Q8:=Lib.hid (hq.below hb8);clear hb8 hq;obtain ⟨a0,m0,d0,a1,n1,d1,a2,m2',d2,hxf⟩:=page_form 0 q;have XF:=Lib.hid hxf;unfold pval;rw [hxf];clear hxf;have r0:=(HB2.out.below bd8 HB2.out.lt).cell (i:=0) (by simp);have r1:=(HB2.out.below bd8 HB2.out.lt).cell (i:=1) (by simp);have r2:=(HB2.out.below bd8 HB2.out.lt).cell (i:=2) (by simp);have f0:=(HB2.out.below bd8 HB2.out.lt).free 0;have f1:=(HB2.out.below bd8 HB2.out.lt).free 1;have f2:=(HB2.out.below bd8 HB2.out.lt).free 2;have HS8:=Lib.hid (HKS.out _ bd8)))
 have HBE:Hid (∀ u0 u1 u2:Value,Below w.heap.size w (((w8.setCell ⟨w.heap.size+1,0,none⟩ u0).setCell ⟨w.heap.size+1,1,none⟩ u1).setCell ⟨w.heap.size+1,2,none⟩ u2)):=fun u0 u1 u2=>(((hop HBW.out bd8).setCell (by simp) _).setCell (by simp) _).setCell (by simp) _
 have HQE:Hid (∀ u0 u1 u2:Value,EOk (((w8.setCell ⟨w.heap.size+1,0,none⟩ u0).setCell ⟨w.heap.size+1,1,none⟩ u1).setCell ⟨w.heap.size+1,2,none⟩ u2) F 1 q):=fun u0 u1 u2=>by
  have:=Q8.out.ok
  rw [HF2.out] at this
  have hsz:=HSZ.out
  exact this.narrow ((((Spared.refl w8 _).setCell (by omega) _ _).setCell (by omega) _ _).setCell (by omega) _ _)
 have HQV:Hid (pval 0 q= .agg #[.slice a0 m0 d0,.slice a1 n1 d1,.slice a2 m2' d2]):=by show pval _ _=_;unfold pval;rw [XF.out]
 have HQF:Hid (flats 0 q.els=delL k FL):=by show _=_;rw [Q8.out.els];exact HFL.out
 have HQN:Hid (n<=q.els.length+1/\q.els.length<=n):=by show _/\_;rw [Q8.out.els,HNL.out];exact HLEN.out
 simp only [List.getElem_cons_zero,List.getElem_cons_succ] at r0 r1 r2
 go_wp2_with fail
 exact bodyPost_ret (v:=pval 0 q) (by rw [HQV.out];simp [results,Tryz.results123,go_sem,r0,r1,r2]) rfl ⟨⟨q,rfl,HQE.out _ _ _,Q8.out.inner,HQF.out,HQN.out⟩,HBE.out _ _ _⟩
end Go.Proofs.YtdaahapbpnjkfaaGreat
