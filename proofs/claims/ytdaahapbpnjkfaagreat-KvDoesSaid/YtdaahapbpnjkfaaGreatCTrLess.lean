/-
without, of any page: by its height. Conditions: the page may be searched, has the key, at most eight, and at least two where it refers to pages.
-/
import Derived.Test.YtdaahapbpnjkfaaGreatCTrLessL
namespace Go.Proofs.YtdaahapbpnjkfaaGreat
open Go.RowKit
theorem joined_any (lv:Nat) (w:World) (F:Nat->Prop) (hF:∀ b,F b->b<w.heap.size) (p r:Pg lv) (hp:EOk w F (lv+1) p) (hpi:Inner (lv+1) p) (hr:EOk w F (lv+1) r) (hri:Inner (lv+1) r) (hpn:p.els.length<=1000) (hrn:r.els.length<=1000) (h0:0<p.els.length):
 Calls Tryz.prog 149 #[pval lv p,pval lv r] w (PageOut w F lv (p.els++r.els)):=by
 cases lv with
 | zero=>exact joinedP_any w F hF p r hp hpi hr hri hpn hrn h0
 | succ lv=>exact joinedK_any lv w F hF p r hp hpi hr hri hpn hrn h0
theorem page_full (h:Nat) (p:Pg h):∃ A0 n0 c0 A1 n1 c1 A2 n2 c2,ecells (h+1) p=[.slice A0 n0 c0,.slice A1 n1 c1,.slice A2 n2 c2]/\n1+n2=p.els.length:=by
 cases h with
 | zero=>exact ⟨_,_,_,_,_,_,_,_,_,rfl,Nat.add_zero _⟩
 | succ h=>exact ⟨_,_,_,_,_,_,_,_,_,rfl,Nat.zero_add _⟩
theorem kid_cells {w:World} {F:Nat->Prop} {lv b off:Nat} {els:List (El (lv+1))} (hc:Cells w F (some ⟨b,off,none⟩) (rowCells (lv+1) els)) (t:Nat) (ht:t<els.length) (kid:Pg lv) (hkid:kid=els[t]) {v0 v1 v2:Value} (hkv:ecells (lv+1) kid=[v0,v1,v2]):
 b<w.heap.size/\ ¬ F b/\w.cell? ⟨b,off+t*3,none⟩=some v0/\w.cell? ⟨b,off+t*3+1,none⟩=some v1/\w.cell? ⟨b,off+t*3+2,none⟩=some v2:=by
 obtain ⟨b',off',e,hb,hF,hcell⟩:=hc.elem t ht
 injection e with e
 injection e with e1 e2
 subst e1 e2
 have k:∀ j,j<3->w.cell? ⟨b,off+t*3+j,none⟩=([v0,v1,v2]:List Value)[j]? :=fun j hj=>(hcell j hj).trans (by rw [<-hkv,hkid])
 exact ⟨hb,hF,k 0 (by decide),k 1 (by decide),k 2 (by decide)⟩
set_option maxHeartbeats 4000000 in
set_option maxRecDepth 100000 in
theorem lessNode_any (lv:Nat) (ih:∀ (w:World) (F:Nat->Prop) (_:∀ b,F b->b<w.heap.size) (p:Pg lv) (Ak:Option Addr) (k:Key) (nk ck:Nat) (_:Good w F lv p) (_:Seen w Ak k) (_:k.length=nk) (_:hasL k (flats lv p.els)=true) (_:p.els.length<=8) (_:lv≠0->2<=p.els.length),Calls Tryz.prog 123 #[pval lv p,.slice Ak nk ck] w (LessOut w F lv (flats lv p.els) p.els.length k))
 (w:World) (F:Nat->Prop) (hF:∀ b,F b->b<w.heap.size) (p:Pg (lv+1)) (Ak:Option Addr) (k:Key) (nk ck:Nat) (hp:Good w F (lv+1) p) (hsk0:Seen w Ak k) (hkl:k.length=nk) (hhas:hasL k (flats (lv+1) p.els)=true) (hn:p.els.length<=8) (hn2:2<=p.els.length):
 Calls Tryz.prog 123 #[pval (lv+1) p,.slice Ak nk ck] w (LessOut w F (lv+1) (flats (lv+1) p.els) p.els.length k):=by
 obtain ⟨f,A,els,c⟩:=p
 obtain ⟨n,hnn⟩:∃ n,n=els.length:=⟨_,rfl⟩
 have HPV:Hid (pval (lv+1) ⟨f,A,els,c⟩= .agg #[.slice f.1 f.2.1.length f.2.2,.slice none 0 0,.slice A n c]):=by rw [hnn];rfl
 obtain ⟨Af,hAf⟩:∃ Af,Af=f.1:=⟨_,rfl⟩
 obtain ⟨nf,hnf⟩:∃ nf,nf=f.2.1.length:=⟨_,rfl⟩
 obtain ⟨cf,hcf⟩:∃ cf,cf=f.2.2:=⟨_,rfl⟩
 rw [<-hAf,<-hnf,<-hcf] at HPV
 obtain ⟨w2,hw2⟩:∃ w2,w2=(w.alloc (.cells #[.slice Af nf cf,.slice none 0 0,.slice A n c] 156)).alloc (.cells #[.slice none 0 0,.slice none 0 0,.slice none 0 0] 156):=⟨_,rfl⟩
 have HBW:Hid (Below w.heap.size w w2):=by rw [hw2];exact ((Below.refl _ _).alloc (Nat.le_refl _) _).alloc (by simp) _
 have hok2:=EOk.wider hp.ok HBW.out
 have hF2:=Wider.lt hF HBW.out.size
 obtain ⟨F2,hF2e⟩:∃ F2,F2=Wider w w2 F:=⟨_,rfl⟩
 have HF2:=Lib.hid hF2e
 rw [<-hF2e] at hok2 hF2
 have hp2:Good w2 F2 (lv+1) ⟨f,A,els,c⟩:=⟨hok2,hp.inner,hp.srt,hp.few,hp.some_⟩
 have hsk:Seen w2 Ak k:=hsk0.below HBW.out
 dsimp only at hn hn2 hhas ⊢
 obtain ⟨i,hi,hr,hlo,hhi⟩:=route lv k els (fun x hx=>hp.inner.full hx) hp.srt (by omega)
 have HU:Hid (∀ W,Below w2.heap.size w2 W->Calls Tryz.prog 130 #[.agg #[.slice Af nf cf,.slice none 0 0,.slice A n c],.slice Ak nk ck] W fun e w'=>e= .returned (.int .i64 i)/\Below W.heap.size W w'):=fun W hW=>by
  have:=under_good W F2 lv ⟨f,A,els,c⟩ i Ak k nk ck (hp2.below hW) hi hr (hsk.below hW) hkl
  rw [HPV.out] at this
  exact this
 -- the pages below:half full,and what they have
 have hkids:∀ t (ht:t<els.length),∃ kid:Pg lv,kid=els[t]/\(4<=kid.els.length/\kid.els.length<=8)/\Good w2 F2 lv kid:=fun t ht=>⟨els[t],rfl,(hp.inner.full (List.getElem_mem ht)).1,hp2.kid t ht⟩
 obtain ⟨kid,hkid,hk48,hg⟩:=hkids i hi
 obtain ⟨K0,k0,e0,K1,k1,e1,K2,k2,e2,hkv⟩:=page_form lv kid
 have HKV:Hid (pval lv kid= .agg #[.slice K0 k0 e0,.slice K1 k1 e1,.slice K2 k2 e2]):=by show pval lv kid=_;unfold pval;rw [hkv]
 have hkhas:hasL k (flats lv kid.els)=true:=by
  rw [flats_split (lv+1) els i hi,mid_has hlo hhi,<-hkid] at hhas
  exact hhas
 have HIH:Hid (∀ W,Below w2.heap.size w2 W->Calls Tryz.prog 123 #[.agg #[.slice K0 k0 e0,.slice K1 k1 e1,.slice K2 k2 e2],.slice Ak nk ck] W (LessOut W F2 lv (flats lv kid.els) kid.els.length k)):=fun W hW=>by
  have:=ih W F2 (fun b hb=>Nat.lt_of_lt_of_le (hF2 b hb) hW.size) kid Ak k nk ck (hg.below hW) (hsk.below hW) hkl hkhas hk48.2 (fun _=>by omega)
  rw [HKV.out] at this
  exact this
 have HREP:Hid (∀ (a b:Nat) (x y:Int),(a:Int)=x->(b:Int)=y->a<=n->b<=n->∀ W,Below w2.heap.size w2 W->∀ q:Pg lv,EOk W F2 (lv+1) q->Inner (lv+1) q->4<=q.els.length->q.els.length<=16->Calls Tryz.prog 148 #[.agg #[.slice Af nf cf,.slice none 0 0,.slice A n c],.int .i64 x,.int .i64 y,pval lv q] W (ReplOut W F2 lv els a b q)):=fun a b x y hx hy ha hb W hW q h1 h2 h3 h4=>by
  subst hx hy
  have:=replace_any lv W F2 (fun b hb=>Nat.lt_of_lt_of_le (hF2 b hb) hW.size) ⟨f,A,els,c⟩ a b q (hok2.below hW) hp.inner h1 h2 h3 h4 (by dsimp only;omega) (by dsimp only;omega) (by dsimp only;omega)
  rw [HPV.out] at this
  exact this
 obtain ⟨b,off,rfl,hb,hFb,hdead⟩:=(hok2.2.1).elem i hi
 clear hdead
 have HCELL:Hid (∀ t (ht:t<els.length) (kid:Pg lv) (_:kid=els[t]) (v0 v1 v2:Value) (_:ecells (lv+1) kid=[v0,v1,v2]),w2.cell? ⟨b,off+t*3,none⟩=some v0/\w2.cell? ⟨b,off+t*3+1,none⟩=some v1/\w2.cell? ⟨b,off+t*3+2,none⟩=some v2):=fun t ht kid hk v0 v1 v2 hv=>(kid_cells hok2.2.1 t ht kid hk hv).2.2
 obtain ⟨z0,z1,z2⟩:=HCELL.out i hi kid hkid _ _ _ hkv
 have HZ:Hid (w2.cell? ⟨b,off+i*3,none⟩=some (.slice K0 k0 e0)/\w2.cell? ⟨b,off+i*3+1,none⟩=some (.slice K1 k1 e1)/\w2.cell? ⟨b,off+i*3+2,none⟩=some (.slice K2 k2 e2)):=⟨z0,z1,z2⟩
 have HBF:Hid (b≠w.heap.size+1):=by
  intro e
  apply hFb
  rw [HF2.out]
  refine .inr ⟨by omega,?_⟩
  rw [e,hw2];simp
 have HB0':Hid (b<w2.heap.size):=hb
 have HKIDS:=Lib.hid hkids
 have HLEN:Hid (n=els.length):=hnn
 rw [HPV.out]
 have HW:Hid ((w.alloc (.cells #[.slice Af nf cf,.slice none 0 0,.slice (some ⟨b,off,none⟩) n c] 156)).alloc (.cells #[.slice none 0 0,.slice none 0 0,.slice none 0 0] 156)=w2):=hw2.symm
 have HB0:Hid (Blk w2 w.heap.size [.slice Af nf cf,.slice none 0 0,.slice (some ⟨b,off,none⟩) n c] 156):=by rw [hw2];exact (Blk.new w _ _).alloc _
 have HB2:Hid (Blk w2 (w.heap.size+1) [.slice none 0 0,.slice none 0 0,.slice none 0 0] 156):=by
  have:=Blk.new (w.alloc (.cells #[.slice Af nf cf,.slice none 0 0,.slice (some ⟨b,off,none⟩) n c] 156)) [.slice none 0 0,.slice none 0 0,.slice none 0 0] 156
  rw [show (w.alloc (.cells #[.slice Af nf cf,.slice none 0 0,.slice (some ⟨b,off,none⟩) n c] 156)).heap.size=w.heap.size+1 by simp] at this
  rw [hw2];exact this
 have HSZ:Hid (w2.heap.size=w.heap.size+1+1):=by rw [hw2];show _=_;simp
 -- what is the same behind more,and behind a store into the result's variable
 have HPB:Hid (∀ W,(∃ w8,Below w2.heap.size w2 w8/\Spared w8 W (fun g=>g=w.heap.size+1))->W.cell? ⟨w.heap.size,0,none⟩=some (.slice Af nf cf)/\W.cell? ⟨w.heap.size,1,none⟩=some (.slice none 0 0)/\W.cell? ⟨w.heap.size,2,none⟩=some (.slice (some ⟨b,off,none⟩) n c)/\∀ o,W.cell? ⟨b,o,none⟩=w2.cell? ⟨b,o,none⟩):=by
  rintro W ⟨w8,hW,hs⟩
  have h0:=hs.blk (HB0.out.below hW HB0.out.lt) (by omega)
  have hb8:b<w8.heap.size:=Nat.lt_of_lt_of_le HB0'.out hW.size
  have hz:∀ o,W.cell? ⟨b,o,none⟩=w8.cell? ⟨b,o,none⟩:=fun o=>World.cell?_of_block (a:=⟨b,o,none⟩) (hs.block b hb8 HBF.out)
  exact ⟨h0.cell (i:=0) (by simp),h0.cell (i:=1) (by simp),h0.cell (i:=2) (by simp),fun o=>(hz o).trans (hW.cell (p:=⟨b,o,none⟩) HB0'.out)⟩
 obtain ⟨FL,hFL⟩:∃ FL,FL=flats (lv+1) els:=⟨_,rfl⟩
 have HA:Hid (∀ (q:Pg lv) (ps:List (El (lv+1))),flats lv q.els=delL k (flats lv kid.els)->q.els.length<=8->flats (lv+1) ps=flats lv q.els->ps.length=(if q.els.length<=8 then 1 else 2)->flats (lv+1) (els.take i++ps++els.drop (i+1))=delL k FL/\(n<=(els.take i++ps++els.drop (i+1)).length+1/\(els.take i++ps++els.drop (i+1)).length<=n)):=fun q ps hq h8 hps hpl=>by
  rw [if_pos h8] at hpl
  constructor
  · rw [hFL,flats_append,flats_append,hps,hq,flats_split (lv+1) els i hi,mid_del hlo hhi,<-hkid]
    rfl
  · rw [List.length_append,List.length_append,List.length_take,List.length_drop,hpl]
    omega
 have HB:Hid (∀ (q q2:Pg lv) (ps:List (El (lv+1))) (kl:Pg lv) (h0:0<i) (hx:i-1<els.length),kl=els[i-1]->flats lv q.els=delL k (flats lv kid.els)->q2.els=kl.els++q.els->flats (lv+1) ps=flats lv q2.els->ps.length=(if q2.els.length<=8 then 1 else 2)->flats (lv+1) (els.take (i-1)++ps++els.drop (i+1))=delL k FL/\(n<=(els.take (i-1)++ps++els.drop (i+1)).length+1/\(els.take (i-1)++ps++els.drop (i+1)).length<=n)):=fun q q2 ps kl h0 hx hkl hq hq2 hps hpl=>by
  constructor
  · have e1:flats (lv+1) (els.take i)=flats (lv+1) (els.take (i-1))++eflat (lv+1) els[i-1]:=by
     conv=>lhs;rw [show i=(i-1)+1 by omega,List.take_succ_eq_append_getElem (by omega),flats_append,flats_single]
    have e3:flats lv (kl.els++q.els)=eflat (lv+1) els[i-1]++delL k (flats lv kid.els):=by
     rw [flats_append,hq,<-hkl];rfl
    rw [hFL,flats_append,flats_append,hps,hq2,e3,flats_split (lv+1) els i hi,mid_del hlo hhi,<-hkid,e1]
    simp only [List.append_assoc]
    rfl
  · rw [List.length_append,List.length_append,List.length_take,List.length_drop,hpl]
    split<;>omega
 have HC:Hid (∀ (q q2:Pg lv) (ps:List (El (lv+1))) (kr:Pg lv) (h0:i=0) (h1:i+1<els.length),kr=els[i+1]->flats lv q.els=delL k (flats lv kid.els)->q2.els=q.els++kr.els->flats (lv+1) ps=flats lv q2.els->ps.length=(if q2.els.length<=8 then 1 else 2)->flats (lv+1) (els.take i++ps++els.drop (i+2))=delL k FL/\(n<=(els.take i++ps++els.drop (i+2)).length+1/\(els.take i++ps++els.drop (i+2)).length<=n)):=fun q q2 ps kr h0 h1 hkr hq hq2 hps hpl=>by
  constructor
  · have e1:flats (lv+1) (els.drop (i+1))=eflat (lv+1) els[i+1]++flats (lv+1) (els.drop (i+2)):=by
     rw [List.drop_eq_getElem_cons h1,flats_cons]
    have e3:flats lv (q.els++kr.els)=delL k (flats lv kid.els)++eflat (lv+1) els[i+1]:=by
     rw [flats_append,hq,<-hkr];rfl
    rw [hFL,flats_append,flats_append,hps,hq2,e3,flats_split (lv+1) els i hi,mid_del hlo hhi,<-hkid,e1]
    simp only [List.append_assoc]
    rfl
  · rw [List.length_append,List.length_append,List.length_take,List.length_drop,hpl]
    split<;>omega
 have HKL:Hid (4<=kid.els.length/\kid.els.length<=8):=hk48
 have HFB2:Hid (∀ b,F2 b->b<w2.heap.size):=hF2
 rw [<-hFL]
 rw [<-hnn]
 have hi0:(0:Int)<=(i:Int):=by omega
 have hi1:(i:Int)<(n:Int):=by omega
 have hn0:0<n:=by omega
 have hn8:n<=8:=by omega
 have hn22:2<=n:=by omega
 have HPC:Hid (∀ W,Below w2.heap.size w2 W->W.cell? ⟨w.heap.size,0,none⟩=some (.slice Af nf cf)/\W.cell? ⟨w.heap.size,1,none⟩=some (.slice none 0 0)/\W.cell? ⟨w.heap.size,2,none⟩=some (.slice (some ⟨b,off,none⟩) n c)/\∀ o,W.cell? ⟨b,o,none⟩=w2.cell? ⟨b,o,none⟩):=fun W hW=>HPB.out W ⟨W,hW,Spared.refl W _⟩
 obtain ⟨x0,x1,x2,hdead⟩:=HPC.out w2 (Below.refl _ _)
 clear hdead
 clear hF2e hF hp hAf hnf hcf hnn hok2 hF2 hp2 hsk hkl hn hn2 hi hr hlo hhi hkid hg hk48 hkv HPV HKV hb hFb hw2 hFL ih hkids hhas hkhas z0 z1 z2 hsk0
 go_enter Tryz.func123,Tryz.ntmps123
 go_wp2_with fail
 rw [HW.out]
 with_reducible refine (isLeaf_no _ Af none (some ⟨b,off,none⟩) nf cf 0 0 n c hn0).mono ?_
 rintro e w3 ⟨rfl,hb3⟩
 have bd3:Below w2.heap.size w2 w3:=hb3
 clear x0 x1 x2 hb3
 obtain ⟨x0,x1,x2,hdead⟩:=HPC.out w3 bd3
 clear hdead
 go_wp2_with fail
 with_reducible refine (HU.out _ bd3).mono ?_
 rintro e w4 ⟨rfl,hb4⟩
 have bd4:Below w2.heap.size w2 w4:=hop bd3 hb4
 clear x0 x1 x2 hb4
 obtain ⟨x0,x1,x2,hz⟩:=HPC.out w4 bd4
 have z0:=(hz (off+i*3)).trans HZ.out.1
 have z1:=(hz (off+i*3+1)).trans HZ.out.2.1
 have z2:=(hz (off+i*3+2)).trans HZ.out.2.2
 clear hz
 go_wp2_with fail
 with_reducible refine (HIH.out _ bd4).mono ?_
 rintro e w5 ⟨⟨q,rfl,hq1,hq2,hq3,hq4⟩,hb5⟩
 have bd5:Below w2.heap.size w2 w5:=hop bd4 hb5
 have Q1:=Lib.hid hq1
 have Q2:=Lib.hid hq2
 have Q3:=Lib.hid hq3
 have Q4:=Lib.hid hq4
 obtain ⟨q0,p0,t0,q1,p1,t1,q2,p2,t2,hqf,hqn⟩:=page_full lv q
 have HQV0:Hid (pval lv q= .agg #[.slice q0 p0 t0,.slice q1 p1 t1,.slice q2 p2 t2]):=by show pval _ _=_;unfold pval;rw [hqf]
 have HQN:=Lib.hid hqn
 rw [HQV0.out]
 clear x0 x1 x2 z0 z1 z2 hb5 hq1 hq2 hq3 hq4 hqf hqn
 obtain ⟨w6,hw6⟩:∃ w6,w6=w5.alloc (.cells #[.slice q0 p0 t0,.slice q1 p1 t1,.slice q2 p2 t2] 156):=⟨_,rfl⟩
 have HW6:Hid (w5.alloc (.cells #[.slice q0 p0 t0,.slice q1 p1 t1,.slice q2 p2 t2] 156)=w6):=hw6.symm
 have hb6:Below w5.heap.size w5 w6:=by rw [hw6];exact (Below.refl _ _).alloc (Nat.le_refl _) _
 have bd6:Below w2.heap.size w2 w6:=hop bd5 hb6
 have HM6:Hid (Blk w6 w5.heap.size [.slice q0 p0 t0,.slice q1 p1 t1,.slice q2 p2 t2] 156):=by rw [hw6];exact Blk.new w5 _ _
 have Q1':=Lib.hid (Q1.out.below hb6)
 have HMF:Hid (w5.heap.size≠w.heap.size+1):=by have:=bd5.size;have:=HSZ.out;show _≠_;omega
 clear hw6 hb6
 have m0:=HM6.out.cell (i:=0) (by simp)
 have m1:=HM6.out.cell (i:=1) (by simp)
 have m2:=HM6.out.cell (i:=2) (by simp)
 simp only [List.getElem_cons_zero,List.getElem_cons_succ] at m0 m1 m2
 have hp1:p1<=8:=by have:=HQN.out;have:=Q4.out;have:=HKL.out;omega
 have hp2:p2<=8:=by have:=HQN.out;have:=Q4.out;have:=HKL.out;omega
 go_wp2_with fail
 rw [HW6.out]
 with_reducible refine (count_any _ q0 q1 q2 p0 t0 p1 t1 p2 t2 (by omega) (by omega)).mono ?_
 rintro e w7 ⟨rfl,hb7⟩
 have bd7:Below w2.heap.size w2 w7:=hop bd6 hb7
 have M7:=Lib.hid (HM6.out.below hb7 HM6.out.lt)
 have Q7:=Lib.hid (Q1'.out.below hb7)
 clear m0 m1 m2 hb7
 have HPM:Hid (∀ W,(∃ w8,Below w7.heap.size w7 w8/\Spared w8 W (fun g=>g=w.heap.size+1))->(W.cell? ⟨w.heap.size,0,none⟩=some (.slice Af nf cf)/\W.cell? ⟨w.heap.size,1,none⟩=some (.slice none 0 0)/\W.cell? ⟨w.heap.size,2,none⟩=some (.slice (some ⟨b,off,none⟩) n c))/\(W.cell? ⟨w5.heap.size,0,none⟩=some (.slice q0 p0 t0)/\W.cell? ⟨w5.heap.size,1,none⟩=some (.slice q1 p1 t1)/\W.cell? ⟨w5.heap.size,2,none⟩=some (.slice q2 p2 t2))/\∀ o,W.cell? ⟨b,o,none⟩=w2.cell? ⟨b,o,none⟩):=by
  rintro W ⟨w8,hW,hs⟩
  obtain ⟨g0,g1,g2,g3⟩:=HPB.out W ⟨w8,hop bd7 hW,hs⟩
  have hm:=hs.blk (M7.out.below hW M7.out.lt) HMF.out
  exact ⟨⟨g0,g1,g2⟩,⟨hm.cell (i:=0) (by simp),hm.cell (i:=1) (by simp),hm.cell (i:=2) (by simp)⟩,g3⟩
 have hsp:∀ (W:World) (u0 u1 u2:Value),Spared W (((W.setCell ⟨w.heap.size+1,0,none⟩ u0).setCell ⟨w.heap.size+1,1,none⟩ u1).setCell ⟨w.heap.size+1,2,none⟩ u2) (fun g=>g=w.heap.size+1):=fun W u0 u1 u2=>
  (((Spared.refl W (fun g=>g=w.heap.size+1)).setCell (g:=w.heap.size+1) rfl _ _).setCell (g:=w.heap.size+1) rfl _ _).setCell (g:=w.heap.size+1) rfl _ _
 have HSP:=Lib.hid hsp
 clear hsp
 by_cases h4:4<=p1+p2
 · -- full enough:in its place
   have hge:(4:Int)<=(p1:Int)+(p2:Int):=by omega
   obtain ⟨⟨x0,x1,x2⟩,⟨y0,y1,y2⟩,hdead⟩:=HPM.out w7 ⟨w7,Below.refl _ _,Spared.refl _ _⟩
   clear hdead
   have HR1:=Lib.hid (HREP.out i (i+1) (i:Int) ((i:Int)+1) rfl (by omega) (by omega) (by omega) w7 bd7 q Q7.out Q2.out (by have:=HQN.out;omega) (by have:=HQN.out;omega))
   rw [HQV0.out] at HR1
   go_wp2_with fail
   with_reducible refine HR1.out.mono ?_
   rintro e w9 ⟨⟨r,ps,rfl,hr,hps,hpl⟩,hb9⟩
   have bd9:Below w2.heap.size w2 w9:=hop bd7 hb9
   have R9:=Lib.hid hr
   have P1:=Lib.hid hps
   have P2:=Lib.hid hpl
   clear hb9 hr hps hpl
   obtain ⟨a0,m0,d0,a1,n1,d1,a2,m2',d2,hxf⟩:=page_form (lv+1) r
   have XF:=Lib.hid hxf
   unfold pval
   rw [hxf]
   clear hxf
   have r0:=(HB2.out.below bd9 HB2.out.lt).cell (i:=0) (by simp)
   have r1:=(HB2.out.below bd9 HB2.out.lt).cell (i:=1) (by simp)
   have r2:=(HB2.out.below bd9 HB2.out.lt).cell (i:=2) (by simp)
   have f0:=(HB2.out.below bd9 HB2.out.lt).free 0
   have f1:=(HB2.out.below bd9 HB2.out.lt).free 1
   have f2:=(HB2.out.below bd9 HB2.out.lt).free 2
   have HQM:Hid (flats (lv+1) r.els=delL k FL/\(n<=r.els.length+1/\r.els.length<=n)):=by
    rw [R9.out.els]
    exact HA.out q ps Q3.out (by have:=Q4.out;have:=HKL.out;omega) P1.out P2.out
   have HBE:Hid (∀ u0 u1 u2:Value,Below w.heap.size w (((w9.setCell ⟨w.heap.size+1,0,none⟩ u0).setCell ⟨w.heap.size+1,1,none⟩ u1).setCell ⟨w.heap.size+1,2,none⟩ u2)):=fun u0 u1 u2=>(((hop HBW.out bd9).setCell (by simp) _).setCell (by simp) _).setCell (by simp) _
   have HQE:Hid (∀ u0 u1 u2:Value,EOk (((w9.setCell ⟨w.heap.size+1,0,none⟩ u0).setCell ⟨w.heap.size+1,1,none⟩ u1).setCell ⟨w.heap.size+1,2,none⟩ u2) F (lv+2) r):=fun u0 u1 u2=>by
    have:=R9.out.ok
    rw [HF2.out] at this
    have hsz:=HSZ.out
    exact this.narrow ((((Spared.refl w9 _).setCell (by omega) _ _).setCell (by omega) _ _).setCell (by omega) _ _)
   have HQV:Hid (pval (lv+1) r= .agg #[.slice a0 m0 d0,.slice a1 n1 d1,.slice a2 m2' d2]):=by show pval _ _=_;unfold pval;rw [XF.out]
   simp only [List.getElem_cons_zero,List.getElem_cons_succ] at r0 r1 r2
   go_wp2_with fail
   exact bodyPost_ret (v:=pval (lv+1) r) (by rw [HQV.out];simp [results,Tryz.results123,go_sem,r0,r1,r2]) rfl ⟨⟨r,rfl,HQE.out _ _ _,R9.out.inner,HQM.out.1,HQM.out.2⟩,HBE.out _ _ _⟩
 · have hge: ¬ (4:Int)<=(p1:Int)+(p2:Int):=by omega
   by_cases hi2:0<i
   · -- joined with the neighbor ahead
     have hi3:(0:Int)<(i:Int):=by omega
     obtain ⟨kl,hkl,hkl48,hgl⟩:=HKIDS.out (i-1) (by have:=HLEN.out;omega)
     obtain ⟨L0,l0,g0,L1,l1,g1,L2,l2,g2,hlf⟩:=page_form lv kl
     have HLV:Hid (pval lv kl= .agg #[.slice L0 l0 g0,.slice L1 l1 g1,.slice L2 l2 g2]):=by show pval _ _=_;unfold pval;rw [hlf]
     have HLC:=Lib.hid (HCELL.out (i-1) (by have:=HLEN.out;omega) kl hkl _ _ _ hlf)
     have HKLE:=Lib.hid hkl
     have HKL48:=Lib.hid hkl48
     have bd:Below w7.heap.size w7 w7.drew:=(Below.refl _ _).drew
     have HJ:Hid (∀ W,Below w7.heap.size w7 W->Calls Tryz.prog 149 #[.agg #[.slice L0 l0 g0,.slice L1 l1 g1,.slice L2 l2 g2],.agg #[.slice q0 p0 t0,.slice q1 p1 t1,.slice q2 p2 t2]] W (PageOut W F2 lv (kl.els++q.els))):=fun W hW=>by
      have:=joined_any lv W F2 (fun b hb=>Nat.lt_of_lt_of_le (HFB2.out b hb) (hop bd7 hW).size) kl q (hgl.ok.below (hop bd7 hW)) hgl.inner (Q7.out.below hW) Q2.out (by omega) (by have:=Q4.out;have:=HKL.out;omega) (by omega)
      rw [HLV.out,HQV0.out] at this
      exact this
     have HKK:Hid (∀ W,(∃ w8,Below w7.heap.size w7 w8/\Spared w8 W (fun g=>g=w.heap.size+1))->W.cell? ⟨w.heap.size,0,none⟩=some (.slice Af nf cf)/\W.cell? ⟨w.heap.size,1,none⟩=some (.slice none 0 0)/\W.cell? ⟨w.heap.size,2,none⟩=some (.slice (some ⟨b,off,none⟩) n c)/\W.cell? ⟨w5.heap.size,0,none⟩=some (.slice q0 p0 t0)/\W.cell? ⟨w5.heap.size,1,none⟩=some (.slice q1 p1 t1)/\W.cell? ⟨w5.heap.size,2,none⟩=some (.slice q2 p2 t2)/\W.cell? ⟨b,off+(i-1)*3,none⟩=some (.slice L0 l0 g0)/\W.cell? ⟨b,off+(i-1)*3+1,none⟩=some (.slice L1 l1 g1)/\W.cell? ⟨b,off+(i-1)*3+2,none⟩=some (.slice L2 l2 g2)):=fun W hW=>by
      obtain ⟨⟨x0,x1,x2⟩,⟨y0,y1,y2⟩,hz⟩:=HPM.out W hW
      exact ⟨x0,x1,x2,y0,y1,y2,(hz _).trans HLC.out.1,(hz _).trans HLC.out.2.1,(hz _).trans HLC.out.2.2⟩
     have hwr:IntKind.i64.wrap ((i:Int)+1)=(i:Int)+1:=by rw [IntKind.wrap_i64];omega
     have hwm:IntKind.i64.wrap ((i:Int)-1)=(i:Int)-1:=by rw [IntKind.wrap_i64];omega
     have him0:(0:Int)<=(i:Int)-1:=by omega
     have him1:(i:Int)-1<(n:Int):=by omega
     have him2:((i:Int)-1).toNat=i-1:=by omega
     clear hkl hlf hgl hkl48
     go_wp2_with fail
     go_region_held_law (fun W=>W.cell? ⟨w.heap.size,0,none⟩=some (.slice Af nf cf)/\W.cell? ⟨w.heap.size,1,none⟩=some (.slice none 0 0)/\W.cell? ⟨w.heap.size,2,none⟩=some (.slice (some ⟨b,off,none⟩) n c)/\W.cell? ⟨w5.heap.size,0,none⟩=some (.slice q0 p0 t0)/\W.cell? ⟨w5.heap.size,1,none⟩=some (.slice q1 p1 t1)/\W.cell? ⟨w5.heap.size,2,none⟩=some (.slice q2 p2 t2)/\W.cell? ⟨b,off+(i-1)*3,none⟩=some (.slice L0 l0 g0)/\W.cell? ⟨b,off+(i-1)*3+1,none⟩=some (.slice L1 l1 g1)/\W.cell? ⟨b,off+(i-1)*3+2,none⟩=some (.slice L2 l2 g2))
      (first | exact HKK.out _ ⟨_,bd,Spared.refl _ _⟩ | exact HKK.out _ ⟨_,bj8,Spared.refl _ _⟩ | exact HKK.out _ ⟨_,bj9,Spared.refl _ _⟩ | exact HKK.out _ ⟨_,bj9,HSP.out _ _ _ _⟩)
      (first
       | (go_at_call 149;(with_reducible refine (HJ.out _ bd).mono ?_);rintro e w8 ⟨⟨s,rfl,hs⟩,hb8⟩;have bj8:Below w7.heap.size w7 w8:=hop bd hb8;have bd8:Below w2.heap.size w2 w8:=hop bd7 bj8;have S8:=Lib.hid hs;clear hb8 hs)
       | (go_at_call 148;(with_reducible refine (HREP.out (i-1) (i+1) ((i:Int)-1) ((i:Int)+1) (by omega) (by omega) (by omega) (by omega) _ bd8 s S8.out.ok S8.out.inner (by rw [S8.out.els,List.length_append];have:=HKL48.out;omega) (by rw [S8.out.els,List.length_append];have:=HKL48.out;have:=Q4.out;have:=HKL.out;omega)).mono ?_);rintro e w9 ⟨⟨r,ps,rfl,hr,hps,hpl⟩,hb9⟩;have bd9:Below w2.heap.size w2 w9:=hop bd8 hb9;have R9:=Lib.hid hr;have P1:=Lib.hid hps;have P2:=Lib.hid hpl;have bj9:Below w7.heap.size w7 w9:=hop bj8 hb9;clear hb9 hr hps hpl;obtain ⟨a0,m0,d0,a1,n1,d1,a2,m2',d2,hxf⟩:=page_form (lv+1) r;have XF:=Lib.hid hxf;unfold pval;rw [hxf];clear hxf;have r0:=(HB2.out.below bd9 HB2.out.lt).cell (i:=0) (by simp);have r1:=(HB2.out.below bd9 HB2.out.lt).cell (i:=1) (by simp);have r2:=(HB2.out.below bd9 HB2.out.lt).cell (i:=2) (by simp);have f0:=(HB2.out.below bd9 HB2.out.lt).free 0;have f1:=(HB2.out.below bd9 HB2.out.lt).free 1;have f2:=(HB2.out.below bd9 HB2.out.lt).free 2))
     have HQM:Hid (flats (lv+1) r.els=delL k FL/\(n<=r.els.length+1/\r.els.length<=n)):=by
      rw [R9.out.els]
      exact HB.out q s ps kl hi2 (by have:=HLEN.out;omega) HKLE.out Q3.out S8.out.els P1.out P2.out
     have HBE:Hid (∀ u0 u1 u2:Value,Below w.heap.size w (((w9.setCell ⟨w.heap.size+1,0,none⟩ u0).setCell ⟨w.heap.size+1,1,none⟩ u1).setCell ⟨w.heap.size+1,2,none⟩ u2)):=fun u0 u1 u2=>(((hop HBW.out bd9).setCell (by simp) _).setCell (by simp) _).setCell (by simp) _
     have HQE:Hid (∀ u0 u1 u2:Value,EOk (((w9.setCell ⟨w.heap.size+1,0,none⟩ u0).setCell ⟨w.heap.size+1,1,none⟩ u1).setCell ⟨w.heap.size+1,2,none⟩ u2) F (lv+2) r):=fun u0 u1 u2=>by
      have:=R9.out.ok
      rw [HF2.out] at this
      have hsz:=HSZ.out
      exact this.narrow ((((Spared.refl w9 _).setCell (by omega) _ _).setCell (by omega) _ _).setCell (by omega) _ _)
     have HQV:Hid (pval (lv+1) r= .agg #[.slice a0 m0 d0,.slice a1 n1 d1,.slice a2 m2' d2]):=by show pval _ _=_;unfold pval;rw [XF.out]
     simp only [List.getElem_cons_zero,List.getElem_cons_succ] at r0 r1 r2
     go_wp2_with fail
     exact bodyPost_ret (v:=pval (lv+1) r) (by rw [HQV.out];simp [results,Tryz.results123,go_sem,r0,r1,r2]) rfl ⟨⟨r,rfl,HQE.out _ _ _,R9.out.inner,HQM.out.1,HQM.out.2⟩,HBE.out _ _ _⟩
   · -- joined with the neighbor behind
     have hi3: ¬ (0:Int)<(i:Int):=by omega
     obtain ⟨kr,hkr,hkr48,hgr⟩:=HKIDS.out (i+1) (by have:=HLEN.out;omega)
     obtain ⟨L0,l0,g0,L1,l1,g1,L2,l2,g2,hlf⟩:=page_form lv kr
     have HLV:Hid (pval lv kr= .agg #[.slice L0 l0 g0,.slice L1 l1 g1,.slice L2 l2 g2]):=by show pval _ _=_;unfold pval;rw [hlf]
     have HLC:=Lib.hid (HCELL.out (i+1) (by have:=HLEN.out;omega) kr hkr _ _ _ hlf)
     have HKLE:=Lib.hid hkr
     have HKL48:=Lib.hid hkr48
     have bd:Below w7.heap.size w7 w7.drew:=(Below.refl _ _).drew
     have HJ:Hid (∀ W,Below w7.heap.size w7 W->Calls Tryz.prog 149 #[.agg #[.slice q0 p0 t0,.slice q1 p1 t1,.slice q2 p2 t2],.agg #[.slice L0 l0 g0,.slice L1 l1 g1,.slice L2 l2 g2]] W (PageOut W F2 lv (q.els++kr.els))):=fun W hW=>by
      have:=joined_any lv W F2 (fun b hb=>Nat.lt_of_lt_of_le (HFB2.out b hb) (hop bd7 hW).size) q kr (Q7.out.below hW) Q2.out (hgr.ok.below (hop bd7 hW)) hgr.inner (by have:=Q4.out;have:=HKL.out;omega) (by omega) (by have:=Q4.out;have:=HKL.out;omega)
      rw [HLV.out,HQV0.out] at this
      exact this
     have HKK:Hid (∀ W,(∃ w8,Below w7.heap.size w7 w8/\Spared w8 W (fun g=>g=w.heap.size+1))->W.cell? ⟨w.heap.size,0,none⟩=some (.slice Af nf cf)/\W.cell? ⟨w.heap.size,1,none⟩=some (.slice none 0 0)/\W.cell? ⟨w.heap.size,2,none⟩=some (.slice (some ⟨b,off,none⟩) n c)/\W.cell? ⟨w5.heap.size,0,none⟩=some (.slice q0 p0 t0)/\W.cell? ⟨w5.heap.size,1,none⟩=some (.slice q1 p1 t1)/\W.cell? ⟨w5.heap.size,2,none⟩=some (.slice q2 p2 t2)/\W.cell? ⟨b,off+(i+1)*3,none⟩=some (.slice L0 l0 g0)/\W.cell? ⟨b,off+(i+1)*3+1,none⟩=some (.slice L1 l1 g1)/\W.cell? ⟨b,off+(i+1)*3+2,none⟩=some (.slice L2 l2 g2)):=fun W hW=>by
      obtain ⟨⟨x0,x1,x2⟩,⟨y0,y1,y2⟩,hz⟩:=HPM.out W hW
      exact ⟨x0,x1,x2,y0,y1,y2,(hz _).trans HLC.out.1,(hz _).trans HLC.out.2.1,(hz _).trans HLC.out.2.2⟩
     have hwr:IntKind.i64.wrap ((i:Int)+1)=(i:Int)+1:=by rw [IntKind.wrap_i64];omega
     have hwm:IntKind.i64.wrap ((i:Int)+2)=(i:Int)+2:=by rw [IntKind.wrap_i64];omega
     have him0:(0:Int)<=(i:Int)+1:=by omega
     have him1:(i:Int)+1<(n:Int):=by omega
     have him2:((i:Int)+1).toNat=i+1:=by omega
     clear hkr hlf hgr hkr48
     go_wp2_with fail
     go_region_held_law (fun W=>W.cell? ⟨w.heap.size,0,none⟩=some (.slice Af nf cf)/\W.cell? ⟨w.heap.size,1,none⟩=some (.slice none 0 0)/\W.cell? ⟨w.heap.size,2,none⟩=some (.slice (some ⟨b,off,none⟩) n c)/\W.cell? ⟨w5.heap.size,0,none⟩=some (.slice q0 p0 t0)/\W.cell? ⟨w5.heap.size,1,none⟩=some (.slice q1 p1 t1)/\W.cell? ⟨w5.heap.size,2,none⟩=some (.slice q2 p2 t2)/\W.cell? ⟨b,off+(i+1)*3,none⟩=some (.slice L0 l0 g0)/\W.cell? ⟨b,off+(i+1)*3+1,none⟩=some (.slice L1 l1 g1)/\W.cell? ⟨b,off+(i+1)*3+2,none⟩=some (.slice L2 l2 g2))
      (first | exact HKK.out _ ⟨_,bd,Spared.refl _ _⟩ | exact HKK.out _ ⟨_,bj8,Spared.refl _ _⟩ | exact HKK.out _ ⟨_,bj9,Spared.refl _ _⟩ | exact HKK.out _ ⟨_,bj9,HSP.out _ _ _ _⟩)
      (first
       | (go_at_call 149;(with_reducible refine (HJ.out _ bd).mono ?_);rintro e w8 ⟨⟨s,rfl,hs⟩,hb8⟩;have bj8:Below w7.heap.size w7 w8:=hop bd hb8;have bd8:Below w2.heap.size w2 w8:=hop bd7 bj8;have S8:=Lib.hid hs;clear hb8 hs)
       | (go_at_call 148;(with_reducible refine (HREP.out i (i+2) (i:Int) ((i:Int)+2) (by omega) (by omega) (by omega) (by omega) _ bd8 s S8.out.ok S8.out.inner (by rw [S8.out.els,List.length_append];have:=HKL48.out;omega) (by rw [S8.out.els,List.length_append];have:=HKL48.out;have:=Q4.out;have:=HKL.out;omega)).mono ?_);rintro e w9 ⟨⟨r,ps,rfl,hr,hps,hpl⟩,hb9⟩;have bd9:Below w2.heap.size w2 w9:=hop bd8 hb9;have R9:=Lib.hid hr;have P1:=Lib.hid hps;have P2:=Lib.hid hpl;have bj9:Below w7.heap.size w7 w9:=hop bj8 hb9;clear hb9 hr hps hpl;obtain ⟨a0,m0,d0,a1,n1,d1,a2,m2',d2,hxf⟩:=page_form (lv+1) r;have XF:=Lib.hid hxf;unfold pval;rw [hxf];clear hxf;have r0:=(HB2.out.below bd9 HB2.out.lt).cell (i:=0) (by simp);have r1:=(HB2.out.below bd9 HB2.out.lt).cell (i:=1) (by simp);have r2:=(HB2.out.below bd9 HB2.out.lt).cell (i:=2) (by simp);have f0:=(HB2.out.below bd9 HB2.out.lt).free 0;have f1:=(HB2.out.below bd9 HB2.out.lt).free 1;have f2:=(HB2.out.below bd9 HB2.out.lt).free 2))
     have HQM:Hid (flats (lv+1) r.els=delL k FL/\(n<=r.els.length+1/\r.els.length<=n)):=by
      rw [R9.out.els]
      exact HC.out q s ps kr (by omega) (by have:=HLEN.out;omega) HKLE.out Q3.out S8.out.els P1.out P2.out
     have HBE:Hid (∀ u0 u1 u2:Value,Below w.heap.size w (((w9.setCell ⟨w.heap.size+1,0,none⟩ u0).setCell ⟨w.heap.size+1,1,none⟩ u1).setCell ⟨w.heap.size+1,2,none⟩ u2)):=fun u0 u1 u2=>(((hop HBW.out bd9).setCell (by simp) _).setCell (by simp) _).setCell (by simp) _
     have HQE:Hid (∀ u0 u1 u2:Value,EOk (((w9.setCell ⟨w.heap.size+1,0,none⟩ u0).setCell ⟨w.heap.size+1,1,none⟩ u1).setCell ⟨w.heap.size+1,2,none⟩ u2) F (lv+2) r):=fun u0 u1 u2=>by
      have:=R9.out.ok
      rw [HF2.out] at this
      have hsz:=HSZ.out
      exact this.narrow ((((Spared.refl w9 _).setCell (by omega) _ _).setCell (by omega) _ _).setCell (by omega) _ _)
     have HQV:Hid (pval (lv+1) r= .agg #[.slice a0 m0 d0,.slice a1 n1 d1,.slice a2 m2' d2]):=by show pval _ _=_;unfold pval;rw [XF.out]
     simp only [List.getElem_cons_zero,List.getElem_cons_succ] at r0 r1 r2
     go_wp2_with fail
     exact bodyPost_ret (v:=pval (lv+1) r) (by rw [HQV.out];simp [results,Tryz.results123,go_sem,r0,r1,r2]) rfl ⟨⟨r,rfl,HQE.out _ _ _,R9.out.inner,HQM.out.1,HQM.out.2⟩,HBE.out _ _ _⟩
theorem less_any:(lv:Nat)->∀ (w:World) (F:Nat->Prop) (_:∀ b,F b->b<w.heap.size) (p:Pg lv) (Ak:Option Addr) (k:Key) (nk ck:Nat) (_:Good w F lv p) (_:Seen w Ak k) (_:k.length=nk) (_:hasL k (flats lv p.els)=true) (_:p.els.length<=8) (_:lv≠0->2<=p.els.length),Calls Tryz.prog 123 #[pval lv p,.slice Ak nk ck] w (LessOut w F lv (flats lv p.els) p.els.length k)
 | 0=>fun w F hF p Ak k nk ck hp hsk hkl hh hn _=>lessLeaf_any w F hF p hp.ok hp.srt (by omega) Ak k nk ck hsk hkl hh
 | lv+1=>fun w F hF p Ak k nk ck hp hsk hkl hh hn h2=>lessNode_any lv (less_any lv) w F hF p Ak k nk ck hp hsk hkl hh hn (h2 (by omega))
end Go.Proofs.YtdaahapbpnjkfaaGreat
