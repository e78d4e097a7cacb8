/-
Put. Conditions: at most 99,999 pairs so far, of at most 1,000,000,000 bytes a key and a value.
-/
import Derived.Test.YtdaahapbpnjkfaaGreatCTrScan
import Derived.Deep.Cut
namespace Go.Proofs.YtdaahapbpnjkfaaGreat
open Go.RowKit
def TopOut (w:World) (F:Nat->Prop) (L:List Kv) (e:Ending) (w':World):Prop:=(∃ (h:Nat) (p:Pg h),e= .returned (pval h p)/\Root w' F h p L)/\Below w.heap.size w w'
theorem top_any (w:World) (F:Nat->Prop) (hF:∀ b,F b->b<w.heap.size) (h:Nat) (q:Pg h) (A:Option Addr) (c m:Nat) (ps:List (El (h+1))) (L:List Kv) (hq:EOk w F (h+1) q) (hi:Inner (h+1) q) (hs:Srt L) (hl:flats h q.els=L) (h2:h≠0->2<=q.els.length) (hps:PartsAt w F h q A c ps) (hm:ps.length=m):
 Calls Tryz.prog 125 #[.slice A m c] w (TopOut w F L):=by
 subst hm
 rcases hps.split with ⟨h8,rfl⟩ | ⟨h8,hp2,hf⟩
 · refine (top_one w F h q A c hps.cells).mono ?_
   rintro e w' ⟨rfl,hb⟩
   exact ⟨⟨h,q,rfl,hq.below hb,hi,hl,hs,h8,h2⟩,hb⟩
 · refine (top_two w F hF h A c ps.length ps hps.cells hps.ok hf rfl hp2 hps.cap).mono ?_
   rintro e w' ⟨⟨r,rfl,hr⟩,hb⟩
   refine ⟨⟨h+1,r,rfl,hr.ok,hr.inner,?_,hs,?_,fun _=> ?_⟩,hb⟩
   · rw [hr.els,hps.flat];exact hl
   · rw [hr.els,hp2];omega
   · rw [hr.els,hp2];omega
def WithAt (F:Nat->Prop) (h:Nat) (L:List Kv) (n:Nat) (k v:Key) (w5:World) (M:Nat) (q:Pg h) (wx:World):Prop:=
 Below w5.heap.size w5 wx/\Blk wx M (ecells (h+1) q) 156/\EOk wx F (h+1) q/\Inner (h+1) q/\flats h q.els=putT k v L/\(n<=q.els.length/\q.els.length<=n+1/\0<q.els.length)
def PutOut (w:World) (F:Nat->Prop) (g:Nat) (room:Int) (L:List Kv) (k v:Key) (e:Ending) (w':World):Prop:=
 Spared w w' (fun b=>b=g)/\((room<(sizeT (putT k v L):Int)/\e= .returned (.int .i64 4)/\TreeAt w' F g room L)\/((sizeT (putT k v L):Int)<=room/\e= .returned (.int .i64 0)/\TreeAt w' F g room (putT k v L)))
theorem Small.put {L:List Kv} (h:Small L) (hl:L.length<=99999) {k v:Key} (hs:Srt L) (hk:k.length<=1000000000) (hv:v.length<=1000000000):Small (putT k v L):=by
 refine ⟨?_,fun x hx=> ?_⟩
 · have h1:=(sizeL_put k v L).2
   cases hh:hasL k L
   · rw [delL_not hs hh] at h1;omega
   · have:=(sizeL_has hs hh).2;omega
 · unfold putT at hx
   rcases List.mem_append.1 hx with hx | hx
   · exact h.2 x (low_lt hx).1
   · rcases List.mem_cons.1 hx with rfl | hx
     · exact ⟨hk,hv⟩
     · exact h.2 x (high_lt hx).1
set_option maxHeartbeats 4000000 in
set_option maxRecDepth 100000 in
theorem tput_any (w:World) (F:Nat->Prop) (hF:∀ b,F b->b<w.heap.size) (g:Nat) (room:Int) (L:List Kv) (B V:Option Addr) (k v:Key) (m d mv dv:Nat) (t:TreeAt w F g room L) (hl:L.length<=99999) (hk:Seen w B k) (hm:k.length=m) (hv:Seen w V v) (hmv:v.length=mv) (hm9:m<=1000000000) (hv9:mv<=1000000000):
 Calls Tryz.prog 90 #[.pointer (some ⟨g,0,none⟩),.slice B m d,.slice V mv dv] w (PutOut w F g room L k v):=by
 have HT:=Lib.hid t
 have hsm:=t.2.1
 have HSM:=Lib.hid hsm
 obtain ⟨h,p,A0,A1,A2,n0,c0,n1,c1,n2,c2,hr,hpv,hpc,hb⟩:=tree_open t
 have HFI:=Lib.hid (find_any w F h p B k m d hr.good hk hm)
 rw [hpv,hr.flat] at HFI
 have HSRT:=Lib.hid hr.srt
 have HSMP:=Lib.hid (hsm.put hl hr.srt (k:=k) (v:=v) (by omega) (by omega))
 -- sizes
 have HSP:=Lib.hid (sizeL_put k v L)
 have hS:=hsm.size
 have hSP:=(hsm.put hl hr.srt (k:=k) (v:=v) (by omega) (by omega)).size
 obtain ⟨S,hSe⟩:∃ S,S=sizeT L:=⟨_,rfl⟩
 obtain ⟨S2,hS2e⟩:∃ S2,S2=sizeT (putT k v L):=⟨_,rfl⟩
 rw [<-hSe] at hS hb
 rw [<-hS2e] at hSP
 -- with
 have hgood:=hr.good
 have hflat:=hr.flat
 have HWITH:Hid (∀ W,Below w.heap.size w W->∀ F2:Nat->Prop,(∀ b,F2 b->F b\/w.heap.size<=b)->(∀ b,F2 b->b<W.heap.size)->∀ a b:Piece,a.2.1=k->PieceIn W F2 a->b.2.1=v->PieceIn W F2 b->Calls Tryz.prog 124 #[.agg #[.slice A0 n0 c0,.slice A1 n1 c1,.slice A2 n2 c2],.agg #[.slice a.1 a.2.1.length a.2.2,.slice b.1 b.2.1.length b.2.2]] W (WithOut W F2 h L p.els.length k v)):=fun W hW F2 hF2 hF3 a b ha1 ha hb1 hb=>by
  have hg2:Good W F2 h p:=⟨EOk.moved (.of_below hW F) hF2 (h+1) p hgood.ok,hgood.inner,hgood.srt,hgood.few,hgood.some_⟩
  have:=with_any h W F2 hF3 p (mkPair a b) hg2 ⟨ha,hb⟩ hr.top
  rw [hpv,hflat] at this
  have e1:(epiece 0 (mkPair a b)).2.1=k:=ha1
  have e2:(eval0 (mkPair a b)).2.1=v:=hb1
  rw [e1,e2] at this
  exact this
 have hF9:=hF
 have HF:=Lib.hid hF
 have HGF:Hid (F g):=t.1
 have HOWN:Hid (∀ W,Below w.heap.size w W->Calls Tryz.prog 99 #[.agg #[.slice B m d,.slice V mv dv]] W fun e w'=>(∃ a b:Piece,e= .returned (.agg #[.slice a.1 a.2.1.length a.2.2,.slice b.1 b.2.1.length b.2.2])/\NewPiece W w' k a/\NewPiece W w' v b)/\Below W.heap.size W w'):=fun W hW=>
  own_any W B V k v m d mv dv hm hmv hm9 hv9 (hk.below hW) (hv.below hW)
 have HTWO:Hid (h≠0->2<=p.els.length):=hr.two
 have HTOP:Hid (p.els.length<=8):=hr.top
 have HB:=Lib.hid hb
 have HSE:Hid (S=sizeT L):=hSe
 have HS2E:Hid (S2=sizeT (putT k v L)):=hS2e
 have HM:=Lib.hid hm
 have HMV:=Lib.hid hmv
 have HLC:Hid ((putT k v L).length=(if hasL k L then L.length else L.length+1)):=by
  show _=_
  have h1:=(sizeL_put k v L).2
  cases hh:hasL k L
  · rw [delL_not hr.srt hh] at h1;exact h1
  · have:=(sizeL_has hr.srt hh).2
    rw [if_pos rfl];omega
 have HSHAS:Hid (hasL k L=true->(S:Int)+(m:Int)+(mv:Int)-((m:Int)+((getT k L).length:Int))=(S2:Int)):=fun hh=>by
  have h1:=(sizeL_has hr.srt hh).1
  have h2:=HSP.out.1
  rw [<-hS2e] at h2
  rw [<-hSe] at h1
  omega
 have HSNOT:Hid (hasL k L=false->(S:Int)+(m:Int)+(mv:Int)=(S2:Int)):=fun hh=>by
  have h2:=HSP.out.1
  rw [delL_not hr.srt hh,<-hSe,<-hS2e] at h2
  omega
 obtain ⟨N,hN⟩:∃ N,N=L.length:=⟨_,rfl⟩
 have HNE:=Lib.hid hN
 rw [<-hN] at hb hl HB HLC
 have x0:=hb.cell (i:=0) (by simp)
 have x1:=hb.cell (i:=1) (by simp)
 have x2:=hb.cell (i:=2) (by simp)
 have x5:=hb.cell (i:=5) (by simp)
 simp only [List.getElem_cons_zero,List.getElem_cons_succ] at x0 x1 x2 x5
 clear hr hpv hpc hb hgood hflat hF hF9 hsm hSe hS2e hm hmv hk hv hN t
 go_enter Tryz.func90,Tryz.ntmps90
 go_wp2_with fail
 with_reducible refine HFI.out.mono ?_
 rintro e w3 ⟨hb3,hout⟩
 rcases hout with ⟨hh,q,rfl,hq,hkv⟩ | ⟨hh,rfl⟩
 · have HH:=Lib.hid hh
   have hk0:(epiece 0 q).2.1=k:=congrArg Prod.fst hkv
   have hv0:(eval0 q).2.1=getT k L:=congrArg Prod.snd hkv
   obtain ⟨nv,hnv⟩:∃ nv,nv=(getT k L).length:=⟨_,rfl⟩
   obtain ⟨KA,KC,hpk⟩:∃ X c,pv (epiece 0 q)= .slice X m c:=⟨(epiece 0 q).1,(epiece 0 q).2.2,by unfold pv;rw [hk0,HM.out]⟩
   obtain ⟨VA,VC,hpv⟩:∃ X c,pv (eval0 q)= .slice X nv c:=⟨(eval0 q).1,(eval0 q).2.2,by unfold pv;rw [hv0,hnv]⟩
   have hn9:nv<=1000000000:=by have h4:(eval0 q).2.1.length<=1000000000:=hq.2.2.2;rw [hv0,<-hnv] at h4;exact h4
   have hsz:(S:Int)+(m:Int)+(mv:Int)-((m:Int)+(nv:Int))=(S2:Int):=by have:=HSHAS.out hh;rw [<-hnv] at this;exact this
   rw [hpk,hpv]
   clear hpk hpv hk0 hv0 hq hkv hnv
   obtain ⟨w5,hw5⟩:∃ w5,w5=w3.alloc (.cells #[.slice KA m KC,.slice VA nv VC] 123):=⟨_,rfl⟩
   have hb5:Below w3.heap.size w3 w5:=by rw [hw5];exact (Below.refl _ _).alloc (Nat.le_refl _) _
   have HW5:Hid (w3.alloc (.cells #[.slice KA m KC,.slice VA nv VC] 123)=w5):=hw5.symm
   have bw5:Below w.heap.size w w5:=hop hb3 hb5
   have HG:=Lib.hid (HB.out.below bw5 HB.out.lt)
   have HLT:Hid (g<w3.heap.size):=Nat.lt_of_lt_of_le HB.out.lt hb3.size
   have hg3:Blk (w3.alloc (.cells #[.slice KA m KC,.slice VA nv VC] 123)) g [.slice A0 n0 c0,.slice A1 n1 c1,.slice A2 n2 c2,.int .i64 room,.int .i64 (N:Int),.int .i64 (S:Int)] 158:=by rw [HW5.out];exact HG.out
   have y3:=hg3.cell (i:=3) (by simp)
   have y5:=hg3.cell (i:=5) (by simp)
   simp only [List.getElem_cons_zero,List.getElem_cons_succ] at y3 y5
   have hgne:w3.heap.size≠g:=by have:=HLT.out;omega
   clear hh hw5 hb5 hb3 x0 x1 x2 x5 hg3
   by_cases hroom:room<(S2:Int)
   · go_wp2_with fail
     go_ret
     refine ⟨Spared.of_below ?_ _,.inl ⟨?_,rfl,?_⟩⟩
     · rw [HW5.out];exact bw5
     · rw [<-HS2E.out];exact hroom
     · rw [HW5.out];exact HT.out.below bw5
   · go_wp2_with fail
     rw [HW5.out]
     have HK:Hid (∀ W,Below w5.heap.size w5 W->W.cell? ⟨g,0,none⟩=some (.slice A0 n0 c0)/\W.cell? ⟨g,1,none⟩=some (.slice A1 n1 c1)/\W.cell? ⟨g,2,none⟩=some (.slice A2 n2 c2)):=fun W hW=>by
      have:=HG.out.below hW HG.out.lt
      exact ⟨this.cell (i:=0) (by simp),this.cell (i:=1) (by simp),this.cell (i:=2) (by simp)⟩
     have bd:Below w5.heap.size w5 w5.drew:=(Below.refl _ _).drew
     have HFZ:Hid (∀ b,(F b\/b=w5.heap.size)->F b\/w.heap.size<=b):=fun b hb=>hb.imp id (fun e=>by have:=bw5.size;omega)
     have HFZ2:Hid (∀ b,(F b\/b=w5.heap.size)->b<=w5.heap.size):=fun b hb=>hb.elim (fun h=>by have:=HF.out b h;have:=bw5.size;omega) (fun e=>by omega)
     have HFZ3:Hid (∀ b,(F b\/b=w5.heap.size)->b<(w5.alloc (.cells #[.slice none 0 0,.slice none 0 0,.slice none 0 0] 156)).drew.heap.size):=fun b hb=>by
      have:=HFZ2.out b hb
      simp;omega
     have HFY:Hid (∀ b,F b->b<w5.drew.heap.size):=fun b hb=>Nat.lt_of_lt_of_le (HF.out b hb) bw5.size
     have HKS:Hid (∀ W,Below w5.heap.size w5 W->∀ M,w5.heap.size<=M->∀ u0 u1 u2:Value,(((W.setCell ⟨M,0,none⟩ u0).setCell ⟨M,1,none⟩ u1).setCell ⟨M,2,none⟩ u2).cell? ⟨g,0,none⟩=some (.slice A0 n0 c0)/\(((W.setCell ⟨M,0,none⟩ u0).setCell ⟨M,1,none⟩ u1).setCell ⟨M,2,none⟩ u2).cell? ⟨g,1,none⟩=some (.slice A1 n1 c1)/\(((W.setCell ⟨M,0,none⟩ u0).setCell ⟨M,1,none⟩ u1).setCell ⟨M,2,none⟩ u2).cell? ⟨g,2,none⟩=some (.slice A2 n2 c2)):=fun W hW M hM u0 u1 u2=>by
      have hgM:g≠M:=by have:=HG.out.lt;omega
      have h1:=(((HG.out.below hW HG.out.lt).other ⟨M,0,none⟩ u0 hgM).other ⟨M,1,none⟩ u1 hgM).other ⟨M,2,none⟩ u2 hgM
      exact ⟨h1.cell (i:=0) (by simp),h1.cell (i:=1) (by simp),h1.cell (i:=2) (by simp)⟩
     have bz:Below w5.heap.size w5 (w5.alloc (.cells #[.slice none 0 0,.slice none 0 0,.slice none 0 0] 156)).drew:=((Below.refl _ _).alloc (Nat.le_refl _) _).drew
     have hzz:Blk (w5.alloc (.cells #[.slice none 0 0,.slice none 0 0,.slice none 0 0] 156)).drew w5.heap.size [.slice none 0 0,.slice none 0 0,.slice none 0 0] 156:=(Blk.new w5 _ _).drew
     have HZZ:=Lib.hid hzz
     clear hzz
     go_upto_region 9 with fail
     go_cut [10] from 11 (fun x wx=>∃ (M:Nat) (q:Pg h),x= .pointer (some ⟨M,0,none⟩)/\WithAt F h L p.els.length k v w5 M q wx)
     case first=>
      go_region_held_law (fun W=>W.cell? ⟨g,0,none⟩=some (.slice A0 n0 c0)/\W.cell? ⟨g,1,none⟩=some (.slice A1 n1 c1)/\W.cell? ⟨g,2,none⟩=some (.slice A2 n2 c2))
       (first | exact HK.out _ bd | exact HK.out _ bz | exact HK.out _ bd6 | exact HK.out _ bd7 | exact HK.out _ (bd6.alloc bd6.size _) | exact HK.out _ (bd7.alloc bd7.size _) | exact HKS.out _ bd7 _ (Nat.le_refl _) _ _ _ | exact HKS.out _ bd7 _ bd6.size _ _ _)
       (first
        | (go_at_call 99;first
         | ((with_reducible refine (HOWN.out _ (hop bw5 bd)).mono ?_);rintro e w6 ⟨⟨a,b,rfl,⟨ha1,ha2⟩,⟨hb1,hb2⟩⟩,hb6⟩;have QA1:=Lib.hid ha1;have QA2:=Lib.hid ha2;have QB1:=Lib.hid hb1;have QB2:=Lib.hid hb2;have bd6:Below w5.heap.size w5 w6:=hop bd hb6;clear hb6 ha1 ha2 hb1 hb2)
         | ((with_reducible refine (HOWN.out _ (hop bw5 bz)).mono ?_);rintro e w6 ⟨⟨a,b,rfl,⟨ha1,ha2⟩,⟨hb1,hb2⟩⟩,hb6⟩;have QA1:=Lib.hid ha1;have QA2:=Lib.hid ha2;have QB1:=Lib.hid hb1;have QB2:=Lib.hid hb2;have bd6:Below w5.heap.size w5 w6:=hop bz hb6;have HZ6:=Lib.hid (HZZ.out.below hb6 HZZ.out.lt);clear hb6 ha1 ha2 hb1 hb2))
        | (go_at_call 124;first
         | ((with_reducible refine (HWITH.out _ (hop bw5 bd6) (fun b=>F b\/b=w5.heap.size) HFZ.out (fun b hb=>by have h1:=HFZ2.out b hb;have h2:=HZ6.out.lt;have h3:=bd6.size;omega) a b QA1.out (QA2.out.mono HFZ3.out) QB1.out (QB2.out.mono HFZ3.out)).mono ?_);rintro e w7 ⟨⟨q,rfl,hq1,hq2,hq3,hq4⟩,hb7⟩;have bd7:Below w5.heap.size w5 w7:=hop bd6 hb7;have HZ7:=Lib.hid (HZ6.out.below hb7 HZ6.out.lt);have Q1:=Lib.hid hq1;have Q2:=Lib.hid hq2;have Q3:=Lib.hid hq3;have Q4:=Lib.hid hq4;clear hb7 hq1 hq2 hq3 hq4;obtain ⟨a0,m0,d0,a1,m1,d1,a2,m2,d2,hxf⟩:=page_form h q;have XF:=Lib.hid hxf;unfold pval;rw [hxf];clear hxf;have z0:=HZ7.out.cell (i:=0) (by simp);have z1:=HZ7.out.cell (i:=1) (by simp);have z2:=HZ7.out.cell (i:=2) (by simp);have f0:=HZ7.out.free 0;have f1:=HZ7.out.free 1;have f2:=HZ7.out.free 2)
         | ((with_reducible refine (HWITH.out _ (hop bw5 bd6) F (fun b hb=> .inl hb) (fun b hb=>Nat.lt_of_lt_of_le (HF.out b hb) (hop bw5 bd6).size) a b QA1.out (QA2.out.mono HFY.out) QB1.out (QB2.out.mono HFY.out)).mono ?_);rintro e w7 ⟨⟨q,rfl,hq1,hq2,hq3,hq4⟩,hb7⟩;have bd7:Below w5.heap.size w5 w7:=hop bd6 hb7;have Q1:=Lib.hid hq1;have Q2:=Lib.hid hq2;have Q3:=Lib.hid hq3;have Q4:=Lib.hid hq4;clear hb7 hq1 hq2 hq3 hq4;obtain ⟨a0,m0,d0,a1,m1,d1,a2,m2,d2,hxf⟩:=page_form h q;have XF:=Lib.hid hxf;unfold pval;rw [hxf];clear hxf)
         | ((with_reducible refine (HWITH.out _ (hop bw5 (bd6.alloc bd6.size _)) (fun b=>F b\/b=w6.heap.size) (fun b hb=>hb.imp id (fun e=>by have h1:=bw5.size;have h2:=bd6.size;omega)) (fun b hb=>by have h1:=HF.out;have h2:=(hop bw5 bd6).size;rcases hb with hb | hb;(have:=h1 b hb;simp;omega);(simp;omega)) a b QA1.out (QA2.out.moved (.of_below ((Below.refl _ _).alloc (Nat.le_refl _) _) _) (fun i hi=>hi.elim (fun h=> .inl (HFY.out i h)) (fun h=> .inr (by omega)))) QB1.out (QB2.out.moved (.of_below ((Below.refl _ _).alloc (Nat.le_refl _) _) _) (fun i hi=>hi.elim (fun h=> .inl (HFY.out i h)) (fun h=> .inr (by omega))))).mono ?_);rintro e w7 ⟨⟨q,rfl,hq1,hq2,hq3,hq4⟩,hb7⟩;have bd7:Below w5.heap.size w5 w7:=hop (bd6.alloc bd6.size _) hb7;have HZ7:=Lib.hid ((Blk.new w6 [.slice none 0 0,.slice none 0 0,.slice none 0 0] 156).below hb7 (Blk.new w6 [.slice none 0 0,.slice none 0 0,.slice none 0 0] 156).lt);have Q1:=Lib.hid hq1;have Q2:=Lib.hid hq2;have Q3:=Lib.hid hq3;have Q4:=Lib.hid hq4;clear hb7 hq1 hq2 hq3 hq4;obtain ⟨a0,m0,d0,a1,m1,d1,a2,m2,d2,hxf⟩:=page_form h q;have XF:=Lib.hid hxf;unfold pval;rw [hxf];clear hxf;have z0:=HZ7.out.cell (i:=0) (by simp);have z1:=HZ7.out.cell (i:=1) (by simp);have z2:=HZ7.out.cell (i:=2) (by simp);have f0:=HZ7.out.free 0;have f1:=HZ7.out.free 1;have f2:=HZ7.out.free 2)))
      all_goals go_wp2_with fail
      all_goals go_meet
      all_goals first
       | (refine ⟨w7.heap.size,q,rfl,bd7.alloc bd7.size _,?_,Q1.out.below ((Below.refl _ _).alloc (Nat.le_refl _) _),Q2.out,Q3.out,Q4.out⟩;rw [XF.out];exact Blk.new w7 _ _)
       | (refine ⟨w5.heap.size,q,rfl,((bd7.setCell (Nat.le_refl _) _).setCell (Nat.le_refl _) _).setCell (Nat.le_refl _) _,?_,EOk.moved ((((Spared.refl w7 (fun b=>F b\/b=w5.heap.size)).setCell (g:=w5.heap.size) (.inr rfl) _ _).setCell (g:=w5.heap.size) (.inr rfl) _ _).setCell (g:=w5.heap.size) (.inr rfl) _ _) (fun i hi=> .inl (.inl hi)) (h+1) q Q1.out,Q2.out,Q3.out,Q4.out⟩;rw [XF.out];exact ((HZ7.out.set 0 _).set 1 _).set 2 _)
       | (refine ⟨w6.heap.size,q,rfl,((bd7.setCell bd6.size _).setCell bd6.size _).setCell bd6.size _,?_,EOk.moved ((((Spared.refl w7 (fun b=>F b\/b=w6.heap.size)).setCell (g:=w6.heap.size) (.inr rfl) _ _).setCell (g:=w6.heap.size) (.inr rfl) _ _).setCell (g:=w6.heap.size) (.inr rfl) _ _) (fun i hi=> .inl (.inl hi)) (h+1) q Q1.out,Q2.out,Q3.out,Q4.out⟩;rw [XF.out];exact ((HZ7.out.set 0 _).set 1 _).set 2 _)
     case rest=>
      obtain ⟨M,q,rfl,hbx,hmk,hok,hin,hfl,hn1,hn2,hn3⟩:=hcut
      have BC:=Lib.hid (hop bw5 hbx)
      obtain ⟨a0,m0,d0,a1,m1,d1,a2,m2,d2,hxf⟩:=page_form h q
      have XV:pval h q= .agg #[.slice a0 m0 d0,.slice a1 m1 d1,.slice a2 m2 d2]:=by unfold pval;rw [hxf]
      rw [hxf] at hmk
      have z0:=hmk.cell (i:=0) (by simp)
      have z1:=hmk.cell (i:=1) (by simp)
      have z2:=hmk.cell (i:=2) (by simp)
      simp only [List.getElem_cons_zero,List.getElem_cons_succ] at z0 z1 z2
      have HP:=Lib.hid (parts_any h wc F (fun b hb=>Nat.lt_of_lt_of_le (HF.out b hb) BC.out.size) q hok hin (by have:=HTOP.out;omega))
      rw [XV] at HP
      have HT2:Hid (∀ (W:World) (A:Option Addr) (c m:Nat) (ps:List (El (h+1))),Below wc.heap.size wc W->PartsAt W F h q A c ps->ps.length=m->Calls Tryz.prog 125 #[.slice A m c] W (TopOut W F (putT k v L))):=fun W A c m ps hW hps hm=>top_any W F (fun b hb=>Nat.lt_of_lt_of_le (HF.out b hb) (hop BC.out hW).size) h q A c m ps (putT k v L) (hok.below hW) hin (Srt.put HSRT.out k v) hfl (fun h0=>by have:=HTWO.out h0;omega) hps hm
      have HGC:=Lib.hid (HG.out.below hbx HG.out.lt)
      clear hbx hmk hok hin hfl hn1 hn2 hn3 hxf XV
      go_wp2_with fail
      with_reducible refine HP.out.mono ?_
      rintro e w8 ⟨⟨A,c,ps,rfl,hps⟩,hb8⟩
      have HPS:=Lib.hid hps
      have B8:=Lib.hid hb8
      obtain ⟨np,hnp⟩:∃ np,np=ps.length:=⟨_,rfl⟩
      rw [<-hnp]
      have HNP:=Lib.hid hnp
      clear hps hb8 hnp
      go_wp2_with fail
      with_reducible refine (HT2.out w8 A c np ps B8.out HPS.out HNP.out.symm).mono ?_
      rintro e w9 ⟨⟨h2,p2,rfl,hroot⟩,hb9⟩
      have HROOT:=Lib.hid hroot
      have BD:=Lib.hid (hop BC.out (hop B8.out hb9))
      have HGD:=Lib.hid ((HGC.out.below B8.out HGC.out.lt).below hb9 (HGC.out.below B8.out HGC.out.lt).lt)
      obtain ⟨e0,n0,f0,e1,n1,f1,e2,n2,f2,hxf⟩:=page_form h2 p2
      have XF:=Lib.hid hxf
      have XV:pval h2 p2= .agg #[.slice e0 n0 f0,.slice e1 n1 f1,.slice e2 n2 f2]:=by unfold pval;rw [hxf]
      rw [XV]
      clear hroot hb9 hxf XV
      have q0:=HGD.out.cell (i:=0) (by simp)
      have q1:=HGD.out.cell (i:=1) (by simp)
      have q2:=HGD.out.cell (i:=2) (by simp)
      have q5:=HGD.out.cell (i:=5) (by simp)
      simp only [List.getElem_cons_zero,List.getElem_cons_succ] at q0 q1 q2 q5
      have r0:=HGD.out.free 0
      have r1:=HGD.out.free 1
      have r2:=HGD.out.free 2
      have r5:=HGD.out.free 5
      clear z0 z1 z2
      go_wp2_with fail
      go_ret
      have hl2:(putT k v L).length=N:=by rw [HLC.out,HH.out];rfl
      have SP:∀ (x0 x1 x2 x5:Value),Spared w ((((w9.setCell ⟨g,0,none⟩ x0).setCell ⟨g,1,none⟩ x1).setCell ⟨g,2,none⟩ x2).setCell ⟨g,5,none⟩ x5) (fun b=>b=g):=fun x0 x1 x2 x5=>((((Spared.of_below BD.out (fun b=>b=g)).setCell (g:=g) rfl _ _).setCell (g:=g) rfl _ _).setCell (g:=g) rfl _ _).setCell (g:=g) rfl _ _
      have SR:∀ (x0 x1 x2 x5:Value),Spared w9 ((((w9.setCell ⟨g,0,none⟩ x0).setCell ⟨g,1,none⟩ x1).setCell ⟨g,2,none⟩ x2).setCell ⟨g,5,none⟩ x5) F:=fun x0 x1 x2 x5=>((((Spared.refl w9 F).setCell HGF.out _ _).setCell HGF.out _ _).setCell HGF.out _ _).setCell HGF.out _ _
      refine ⟨SP _ _ _ _,.inr ⟨?_,rfl,?_⟩⟩
      · rw [<-HS2E.out];exact hroom
      · refine ⟨HGF.out,HSMP.out,h2,p2,HROOT.out.moved (SR _ _ _ _) (fun _ h=> .inl h),?_⟩
        unfold treeCells
        rw [XF.out,hl2,<-HS2E.out]
        exact (((HGD.out.set 0 _).set 1 _).set 2 _).set 5 _
 · have HH:=Lib.hid hh
   have hsz:=HSNOT.out hh
   obtain ⟨w5,hw5⟩:∃ w5,w5=w3.alloc (.cells #[.slice none 0 0,.slice none 0 0] 123):=⟨_,rfl⟩
   have hb5:Below w3.heap.size w3 w5:=by rw [hw5];exact (Below.refl _ _).alloc (Nat.le_refl _) _
   have HW5:Hid (w3.alloc (.cells #[.slice none 0 0,.slice none 0 0] 123)=w5):=hw5.symm
   have bw5:Below w.heap.size w w5:=hop hb3 hb5
   have HG:=Lib.hid (HB.out.below bw5 HB.out.lt)
   have HLT:Hid (g<w3.heap.size):=Nat.lt_of_lt_of_le HB.out.lt hb3.size
   have hg3:Blk (w3.alloc (.cells #[.slice none 0 0,.slice none 0 0] 123)) g [.slice A0 n0 c0,.slice A1 n1 c1,.slice A2 n2 c2,.int .i64 room,.int .i64 (N:Int),.int .i64 (S:Int)] 158:=by rw [HW5.out];exact HG.out
   have y3:=hg3.cell (i:=3) (by simp)
   have y5:=hg3.cell (i:=5) (by simp)
   simp only [List.getElem_cons_zero,List.getElem_cons_succ] at y3 y5
   have hgne:w3.heap.size≠g:=by have:=HLT.out;omega
   clear hh hw5 hb5 hb3 x0 x1 x2 x5 hg3
   by_cases hroom:room<(S2:Int)
   · go_wp2_with fail
     go_ret
     refine ⟨Spared.of_below ?_ _,.inl ⟨?_,rfl,?_⟩⟩
     · rw [HW5.out];exact bw5
     · rw [<-HS2E.out];exact hroom
     · rw [HW5.out];exact HT.out.below bw5
   · go_wp2_with fail
     rw [HW5.out]
     have HK:Hid (∀ W,Below w5.heap.size w5 W->W.cell? ⟨g,0,none⟩=some (.slice A0 n0 c0)/\W.cell? ⟨g,1,none⟩=some (.slice A1 n1 c1)/\W.cell? ⟨g,2,none⟩=some (.slice A2 n2 c2)):=fun W hW=>by
      have:=HG.out.below hW HG.out.lt
      exact ⟨this.cell (i:=0) (by simp),this.cell (i:=1) (by simp),this.cell (i:=2) (by simp)⟩
     have bd:Below w5.heap.size w5 w5.drew:=(Below.refl _ _).drew
     have HFZ:Hid (∀ b,(F b\/b=w5.heap.size)->F b\/w.heap.size<=b):=fun b hb=>hb.imp id (fun e=>by have:=bw5.size;omega)
     have HFZ2:Hid (∀ b,(F b\/b=w5.heap.size)->b<=w5.heap.size):=fun b hb=>hb.elim (fun h=>by have:=HF.out b h;have:=bw5.size;omega) (fun e=>by omega)
     have HFZ3:Hid (∀ b,(F b\/b=w5.heap.size)->b<(w5.alloc (.cells #[.slice none 0 0,.slice none 0 0,.slice none 0 0] 156)).drew.heap.size):=fun b hb=>by
      have:=HFZ2.out b hb
      simp;omega
     have HFY:Hid (∀ b,F b->b<w5.drew.heap.size):=fun b hb=>Nat.lt_of_lt_of_le (HF.out b hb) bw5.size
     have HKS:Hid (∀ W,Below w5.heap.size w5 W->∀ M,w5.heap.size<=M->∀ u0 u1 u2:Value,(((W.setCell ⟨M,0,none⟩ u0).setCell ⟨M,1,none⟩ u1).setCell ⟨M,2,none⟩ u2).cell? ⟨g,0,none⟩=some (.slice A0 n0 c0)/\(((W.setCell ⟨M,0,none⟩ u0).setCell ⟨M,1,none⟩ u1).setCell ⟨M,2,none⟩ u2).cell? ⟨g,1,none⟩=some (.slice A1 n1 c1)/\(((W.setCell ⟨M,0,none⟩ u0).setCell ⟨M,1,none⟩ u1).setCell ⟨M,2,none⟩ u2).cell? ⟨g,2,none⟩=some (.slice A2 n2 c2)):=fun W hW M hM u0 u1 u2=>by
      have hgM:g≠M:=by have:=HG.out.lt;omega
      have h1:=(((HG.out.below hW HG.out.lt).other ⟨M,0,none⟩ u0 hgM).other ⟨M,1,none⟩ u1 hgM).other ⟨M,2,none⟩ u2 hgM
      exact ⟨h1.cell (i:=0) (by simp),h1.cell (i:=1) (by simp),h1.cell (i:=2) (by simp)⟩
     have bz:Below w5.heap.size w5 (w5.alloc (.cells #[.slice none 0 0,.slice none 0 0,.slice none 0 0] 156)).drew:=((Below.refl _ _).alloc (Nat.le_refl _) _).drew
     have hzz:Blk (w5.alloc (.cells #[.slice none 0 0,.slice none 0 0,.slice none 0 0] 156)).drew w5.heap.size [.slice none 0 0,.slice none 0 0,.slice none 0 0] 156:=(Blk.new w5 _ _).drew
     have HZZ:=Lib.hid hzz
     clear hzz
     go_upto_region 9 with fail
     go_cut [10] from 11 (fun x wx=>∃ (M:Nat) (q:Pg h),x= .pointer (some ⟨M,0,none⟩)/\WithAt F h L p.els.length k v w5 M q wx)
     case first=>
      go_region_held_law (fun W=>W.cell? ⟨g,0,none⟩=some (.slice A0 n0 c0)/\W.cell? ⟨g,1,none⟩=some (.slice A1 n1 c1)/\W.cell? ⟨g,2,none⟩=some (.slice A2 n2 c2))
       (first | exact HK.out _ bd | exact HK.out _ bz | exact HK.out _ bd6 | exact HK.out _ bd7 | exact HK.out _ (bd6.alloc bd6.size _) | exact HK.out _ (bd7.alloc bd7.size _) | exact HKS.out _ bd7 _ (Nat.le_refl _) _ _ _ | exact HKS.out _ bd7 _ bd6.size _ _ _)
       (first
        | (go_at_call 99;first
         | ((with_reducible refine (HOWN.out _ (hop bw5 bd)).mono ?_);rintro e w6 ⟨⟨a,b,rfl,⟨ha1,ha2⟩,⟨hb1,hb2⟩⟩,hb6⟩;have QA1:=Lib.hid ha1;have QA2:=Lib.hid ha2;have QB1:=Lib.hid hb1;have QB2:=Lib.hid hb2;have bd6:Below w5.heap.size w5 w6:=hop bd hb6;clear hb6 ha1 ha2 hb1 hb2)
         | ((with_reducible refine (HOWN.out _ (hop bw5 bz)).mono ?_);rintro e w6 ⟨⟨a,b,rfl,⟨ha1,ha2⟩,⟨hb1,hb2⟩⟩,hb6⟩;have QA1:=Lib.hid ha1;have QA2:=Lib.hid ha2;have QB1:=Lib.hid hb1;have QB2:=Lib.hid hb2;have bd6:Below w5.heap.size w5 w6:=hop bz hb6;have HZ6:=Lib.hid (HZZ.out.below hb6 HZZ.out.lt);clear hb6 ha1 ha2 hb1 hb2))
        | (go_at_call 124;first
         | ((with_reducible refine (HWITH.out _ (hop bw5 bd6) (fun b=>F b\/b=w5.heap.size) HFZ.out (fun b hb=>by have h1:=HFZ2.out b hb;have h2:=HZ6.out.lt;have h3:=bd6.size;omega) a b QA1.out (QA2.out.mono HFZ3.out) QB1.out (QB2.out.mono HFZ3.out)).mono ?_);rintro e w7 ⟨⟨q,rfl,hq1,hq2,hq3,hq4⟩,hb7⟩;have bd7:Below w5.heap.size w5 w7:=hop bd6 hb7;have HZ7:=Lib.hid (HZ6.out.below hb7 HZ6.out.lt);have Q1:=Lib.hid hq1;have Q2:=Lib.hid hq2;have Q3:=Lib.hid hq3;have Q4:=Lib.hid hq4;clear hb7 hq1 hq2 hq3 hq4;obtain ⟨a0,m0,d0,a1,m1,d1,a2,m2,d2,hxf⟩:=page_form h q;have XF:=Lib.hid hxf;unfold pval;rw [hxf];clear hxf;have z0:=HZ7.out.cell (i:=0) (by simp);have z1:=HZ7.out.cell (i:=1) (by simp);have z2:=HZ7.out.cell (i:=2) (by simp);have f0:=HZ7.out.free 0;have f1:=HZ7.out.free 1;have f2:=HZ7.out.free 2)
         | ((with_reducible refine (HWITH.out _ (hop bw5 bd6) F (fun b hb=> .inl hb) (fun b hb=>Nat.lt_of_lt_of_le (HF.out b hb) (hop bw5 bd6).size) a b QA1.out (QA2.out.mono HFY.out) QB1.out (QB2.out.mono HFY.out)).mono ?_);rintro e w7 ⟨⟨q,rfl,hq1,hq2,hq3,hq4⟩,hb7⟩;have bd7:Below w5.heap.size w5 w7:=hop bd6 hb7;have Q1:=Lib.hid hq1;have Q2:=Lib.hid hq2;have Q3:=Lib.hid hq3;have Q4:=Lib.hid hq4;clear hb7 hq1 hq2 hq3 hq4;obtain ⟨a0,m0,d0,a1,m1,d1,a2,m2,d2,hxf⟩:=page_form h q;have XF:=Lib.hid hxf;unfold pval;rw [hxf];clear hxf)
         | ((with_reducible refine (HWITH.out _ (hop bw5 (bd6.alloc bd6.size _)) (fun b=>F b\/b=w6.heap.size) (fun b hb=>hb.imp id (fun e=>by have h1:=bw5.size;have h2:=bd6.size;omega)) (fun b hb=>by have h1:=HF.out;have h2:=(hop bw5 bd6).size;rcases hb with hb | hb;(have:=h1 b hb;simp;omega);(simp;omega)) a b QA1.out (QA2.out.moved (.of_below ((Below.refl _ _).alloc (Nat.le_refl _) _) _) (fun i hi=>hi.elim (fun h=> .inl (HFY.out i h)) (fun h=> .inr (by omega)))) QB1.out (QB2.out.moved (.of_below ((Below.refl _ _).alloc (Nat.le_refl _) _) _) (fun i hi=>hi.elim (fun h=> .inl (HFY.out i h)) (fun h=> .inr (by omega))))).mono ?_);rintro e w7 ⟨⟨q,rfl,hq1,hq2,hq3,hq4⟩,hb7⟩;have bd7:Below w5.heap.size w5 w7:=hop (bd6.alloc bd6.size _) hb7;have HZ7:=Lib.hid ((Blk.new w6 [.slice none 0 0,.slice none 0 0,.slice none 0 0] 156).below hb7 (Blk.new w6 [.slice none 0 0,.slice none 0 0,.slice none 0 0] 156).lt);have Q1:=Lib.hid hq1;have Q2:=Lib.hid hq2;have Q3:=Lib.hid hq3;have Q4:=Lib.hid hq4;clear hb7 hq1 hq2 hq3 hq4;obtain ⟨a0,m0,d0,a1,m1,d1,a2,m2,d2,hxf⟩:=page_form h q;have XF:=Lib.hid hxf;unfold pval;rw [hxf];clear hxf;have z0:=HZ7.out.cell (i:=0) (by simp);have z1:=HZ7.out.cell (i:=1) (by simp);have z2:=HZ7.out.cell (i:=2) (by simp);have f0:=HZ7.out.free 0;have f1:=HZ7.out.free 1;have f2:=HZ7.out.free 2)))
      all_goals go_wp2_with fail
      all_goals go_meet
      all_goals first
       | (refine ⟨w7.heap.size,q,rfl,bd7.alloc bd7.size _,?_,Q1.out.below ((Below.refl _ _).alloc (Nat.le_refl _) _),Q2.out,Q3.out,Q4.out⟩;rw [XF.out];exact Blk.new w7 _ _)
       | (refine ⟨w5.heap.size,q,rfl,((bd7.setCell (Nat.le_refl _) _).setCell (Nat.le_refl _) _).setCell (Nat.le_refl _) _,?_,EOk.moved ((((Spared.refl w7 (fun b=>F b\/b=w5.heap.size)).setCell (g:=w5.heap.size) (.inr rfl) _ _).setCell (g:=w5.heap.size) (.inr rfl) _ _).setCell (g:=w5.heap.size) (.inr rfl) _ _) (fun i hi=> .inl (.inl hi)) (h+1) q Q1.out,Q2.out,Q3.out,Q4.out⟩;rw [XF.out];exact ((HZ7.out.set 0 _).set 1 _).set 2 _)
       | (refine ⟨w6.heap.size,q,rfl,((bd7.setCell bd6.size _).setCell bd6.size _).setCell bd6.size _,?_,EOk.moved ((((Spared.refl w7 (fun b=>F b\/b=w6.heap.size)).setCell (g:=w6.heap.size) (.inr rfl) _ _).setCell (g:=w6.heap.size) (.inr rfl) _ _).setCell (g:=w6.heap.size) (.inr rfl) _ _) (fun i hi=> .inl (.inl hi)) (h+1) q Q1.out,Q2.out,Q3.out,Q4.out⟩;rw [XF.out];exact ((HZ7.out.set 0 _).set 1 _).set 2 _)
     case rest=>
      obtain ⟨M,q,rfl,hbx,hmk,hok,hin,hfl,hn1,hn2,hn3⟩:=hcut
      have BC:=Lib.hid (hop bw5 hbx)
      obtain ⟨a0,m0,d0,a1,m1,d1,a2,m2,d2,hxf⟩:=page_form h q
      have XV:pval h q= .agg #[.slice a0 m0 d0,.slice a1 m1 d1,.slice a2 m2 d2]:=by unfold pval;rw [hxf]
      rw [hxf] at hmk
      have z0:=hmk.cell (i:=0) (by simp)
      have z1:=hmk.cell (i:=1) (by simp)
      have z2:=hmk.cell (i:=2) (by simp)
      simp only [List.getElem_cons_zero,List.getElem_cons_succ] at z0 z1 z2
      have HP:=Lib.hid (parts_any h wc F (fun b hb=>Nat.lt_of_lt_of_le (HF.out b hb) BC.out.size) q hok hin (by have:=HTOP.out;omega))
      rw [XV] at HP
      have HT2:Hid (∀ (W:World) (A:Option Addr) (c m:Nat) (ps:List (El (h+1))),Below wc.heap.size wc W->PartsAt W F h q A c ps->ps.length=m->Calls Tryz.prog 125 #[.slice A m c] W (TopOut W F (putT k v L))):=fun W A c m ps hW hps hm=>top_any W F (fun b hb=>Nat.lt_of_lt_of_le (HF.out b hb) (hop BC.out hW).size) h q A c m ps (putT k v L) (hok.below hW) hin (Srt.put HSRT.out k v) hfl (fun h0=>by have:=HTWO.out h0;omega) hps hm
      have HGC:=Lib.hid (HG.out.below hbx HG.out.lt)
      clear hbx hmk hok hin hfl hn1 hn2 hn3 hxf XV
      go_wp2_with fail
      with_reducible refine HP.out.mono ?_
      rintro e w8 ⟨⟨A,c,ps,rfl,hps⟩,hb8⟩
      have HPS:=Lib.hid hps
      have B8:=Lib.hid hb8
      obtain ⟨np,hnp⟩:∃ np,np=ps.length:=⟨_,rfl⟩
      rw [<-hnp]
      have HNP:=Lib.hid hnp
      clear hps hb8 hnp
      go_wp2_with fail
      with_reducible refine (HT2.out w8 A c np ps B8.out HPS.out HNP.out.symm).mono ?_
      rintro e w9 ⟨⟨h2,p2,rfl,hroot⟩,hb9⟩
      have HROOT:=Lib.hid hroot
      have BD:=Lib.hid (hop BC.out (hop B8.out hb9))
      have HGD:=Lib.hid ((HGC.out.below B8.out HGC.out.lt).below hb9 (HGC.out.below B8.out HGC.out.lt).lt)
      obtain ⟨e0,n0,f0,e1,n1,f1,e2,n2,f2,hxf⟩:=page_form h2 p2
      have XF:=Lib.hid hxf
      have XV:pval h2 p2= .agg #[.slice e0 n0 f0,.slice e1 n1 f1,.slice e2 n2 f2]:=by unfold pval;rw [hxf]
      rw [XV]
      clear hroot hb9 hxf XV
      have q0:=HGD.out.cell (i:=0) (by simp)
      have q1:=HGD.out.cell (i:=1) (by simp)
      have q2:=HGD.out.cell (i:=2) (by simp)
      have q4:=HGD.out.cell (i:=4) (by simp)
      have q5:=HGD.out.cell (i:=5) (by simp)
      simp only [List.getElem_cons_zero,List.getElem_cons_succ] at q0 q1 q2 q4 q5
      have r0:=HGD.out.free 0
      have r1:=HGD.out.free 1
      have r2:=HGD.out.free 2
      have r4:=HGD.out.free 4
      have r5:=HGD.out.free 5
      have hw1:IntKind.i64.wrap ((N:Int)+1)=(N:Int)+1:=by rw [IntKind.wrap_i64];omega
      clear z0 z1 z2
      go_wp2_with fail
      go_ret
      have hl2:(putT k v L).length=N+1:=by rw [HLC.out,HH.out];rfl
      have SP:∀ (x0 x1 x2 x5 x4:Value),Spared w (((((w9.setCell ⟨g,0,none⟩ x0).setCell ⟨g,1,none⟩ x1).setCell ⟨g,2,none⟩ x2).setCell ⟨g,5,none⟩ x5).setCell ⟨g,4,none⟩ x4) (fun b=>b=g):=fun x0 x1 x2 x5 x4=>(((((Spared.of_below BD.out (fun b=>b=g)).setCell (g:=g) rfl _ _).setCell (g:=g) rfl _ _).setCell (g:=g) rfl _ _).setCell (g:=g) rfl _ _).setCell (g:=g) rfl _ _
      have SR:∀ (x0 x1 x2 x5 x4:Value),Spared w9 (((((w9.setCell ⟨g,0,none⟩ x0).setCell ⟨g,1,none⟩ x1).setCell ⟨g,2,none⟩ x2).setCell ⟨g,5,none⟩ x5).setCell ⟨g,4,none⟩ x4) F:=fun x0 x1 x2 x5 x4=>(((((Spared.refl w9 F).setCell HGF.out _ _).setCell HGF.out _ _).setCell HGF.out _ _).setCell HGF.out _ _).setCell HGF.out _ _
      refine ⟨SP _ _ _ _ _,.inr ⟨?_,rfl,?_⟩⟩
      · rw [<-HS2E.out];exact hroom
      · refine ⟨HGF.out,HSMP.out,h2,p2,HROOT.out.moved (SR _ _ _ _ _) (fun _ h=> .inl h),?_⟩
        unfold treeCells
        rw [XF.out,hl2,<-HS2E.out]
        exact ((((HGD.out.set 0 _).set 1 _).set 2 _).set 5 _).set 4 _
end Go.Proofs.YtdaahapbpnjkfaaGreat
