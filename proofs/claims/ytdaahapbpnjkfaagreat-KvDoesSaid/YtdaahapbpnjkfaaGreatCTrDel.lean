/-
Delete. Conditions: at most 100,000 pairs, of at most 1,000,000,000 bytes a key and a value.
-/
import Derived.Test.YtdaahapbpnjkfaaGreatCTrScan
import Derived.Test.YtdaahapbpnjkfaaGreatCTrLess
namespace Go.Proofs.YtdaahapbpnjkfaaGreat
open Go.RowKit
theorem less_root {w:World} {F:Nat->Prop} {L:List Kv}:(lv:Nat)->(q:Pg lv)->EOk w F (lv+1) q->Inner (lv+1) q->flats lv q.els=L->Srt L->q.els.length<=8->(lv≠0->1<=q.els.length)->
 ∃ A0 n0 c0 A1 n1 c1 A2 n2 c2,ecells (lv+1) q=[.slice A0 n0 c0,.slice A1 n1 c1,.slice A2 n2 c2]/\n2<=8/\((n2≠1/\Root w F lv q L)\/(n2=1/\∃ (l2:Nat) (r:Pg l2) (b off:Nat) (B0:Option Addr) (m0 d0:Nat) (B1:Option Addr) (m1 d1:Nat) (B2:Option Addr) (m2 d2:Nat),A2=some ⟨b,off,none⟩/\b<w.heap.size/\ ¬ F b/\Root w F l2 r L/\ecells (l2+1) r=[.slice B0 m0 d0,.slice B1 m1 d1,.slice B2 m2 d2]/\w.cell? ⟨b,off,none⟩=some (.slice B0 m0 d0)/\w.cell? ⟨b,off+1,none⟩=some (.slice B1 m1 d1)/\w.cell? ⟨b,off+2,none⟩=some (.slice B2 m2 d2)))
 | 0,q,hok,hin,hfl,hs,h8,_=>⟨_,_,_,_,_,_,_,_,_,rfl,by omega,.inl ⟨by decide,⟨hok,hin,hfl,hs,h8,fun h=>absurd rfl h⟩⟩⟩
 | l+1,q,hok,hin,hfl,hs,h8,h1=>by
  refine ⟨_,_,_,_,_,_,_,_,_,rfl,h8,?_⟩
  have h1:=h1 (by omega)
  by_cases h:q.els.length=1
  · refine .inr ⟨h,?_⟩
    obtain ⟨f,A,els,c⟩:=q
    dsimp only at *
    obtain ⟨x,rfl⟩:=List.length_eq_one_iff.1 h
    obtain ⟨B0,m0,d0,B1,m1,d1,B2,m2,d2,hx⟩:=page_form l x
    have hc:=hok.2.1
    obtain ⟨b,off,hA,hb,hF,hcell⟩:=hc.elem 0 (by exact Nat.zero_lt_one)
    have hfu:Full (l+1) x:=hin.full (List.mem_singleton.2 rfl)
    have hkid:EOk w F (l+1) x:=hok.2.2.2 x (List.mem_singleton.2 rfl)
    have k:∀ j,j<3->w.cell? ⟨b,off+0*3+j,none⟩=([.slice B0 m0 d0,.slice B1 m1 d1,.slice B2 m2 d2]:List Value)[j]? :=fun j hj=>(hcell j hj).trans (by rw [<-hx];rfl)
    have hf2:flats l (PG.els x)=L:=by rw [<-hfl];exact (flats_single (l+1) x).symm
    have k0:=k 0 (by decide)
    have k1:=k 1 (by decide)
    have k2:=k 2 (by decide)
    rw [Nat.zero_mul,Nat.add_zero] at k0 k1 k2
    exact ⟨l,x,b,off,B0,m0,d0,B1,m1,d1,B2,m2,d2,hA,hb,hF,⟨hkid,hfu.2,hf2,hs,hfu.1.2,fun _=>by have:=hfu.1.1;exact Nat.le_trans (by decide) this⟩,hx,k0,k1,k2⟩
  · exact .inl ⟨h,⟨hok,hin,hfl,hs,h8,fun _=>by omega⟩⟩
def DelOut (w:World) (F:Nat->Prop) (g:Nat) (room:Int) (L:List Kv) (k:Key) (e:Ending) (w':World):Prop:=
 Spared w w' (fun b=>b=g)/\((hasL k L=true/\e= .returned (.bool true)/\TreeAt w' F g room (delL k L))\/(hasL k L=false/\e= .returned (.bool false)/\TreeAt w' F g room L))
theorem Small.del {L:List Kv} (h:Small L) (k:Key):Small (delL k L):=by
 refine ⟨Nat.le_trans ?_ h.1,fun x hx=> ?_⟩
 · have:=(List.length_filter_le (fun y:Kv=>ltK y.1 k) L)
   have h2:delL k L=low k L++high k L:=rfl
   have h3:(low k L).length+(high k L).length<=L.length:=by
    have:∀ l:List Kv,(low k l).length+(high k l).length<=l.length:=by
     intro l
     induction l with
     | nil=>exact Nat.le_refl _
     | cons x l ih=>
      unfold low high at ih ⊢
      rw [List.filter_cons,List.filter_cons]
      by_cases h1:ltK x.1 k=true
      · have h2:ltK k x.1=false:=by
         cases h2:ltK k x.1
         · rfl
         · exact absurd h2 (by simp [ltK_asymm h1])
        rw [if_pos h1,if_neg (by simp [h2])]
        simp only [List.length_cons];omega
      · rw [if_neg h1]
        split<;>simp only [List.length_cons]<;>omega
    exact this L
   rw [h2,List.length_append];exact h3
 · have h2:delL k L=low k L++high k L:=rfl
   rw [h2] at hx
   rcases List.mem_append.1 hx with hx | hx
   · exact h.2 x (low_lt hx).1
   · exact h.2 x (high_lt hx).1
set_option maxHeartbeats 4000000 in
set_option maxRecDepth 100000 in
theorem del_any (w:World) (F:Nat->Prop) (hF:∀ b,F b->b<w.heap.size) (g:Nat) (room:Int) (L:List Kv) (B:Option Addr) (k:Key) (m d:Nat) (t:TreeAt w F g room L) (hk:Seen w B k) (hm:k.length=m) (hm9:m<=1000000000):
 Calls Tryz.prog 89 #[.pointer (some ⟨g,0,none⟩),.slice B m d] w (DelOut w F g room L k):=by
 have HT:=Lib.hid t
 have hsm:=t.2.1
 have HSMD:=Lib.hid (hsm.del k)
 obtain ⟨h,p,A0,A1,A2,n0,c0,n1,c1,n2,c2,hr,hpv,hpc,hb⟩:=tree_open t
 have HFI:=Lib.hid (find_any w F h p B k m d hr.good hk hm)
 rw [hpv,hr.flat] at HFI
 have HSRT:=Lib.hid hr.srt
 have HSHAS:=Lib.hid (fun hh=>sizeL_has hr.srt (k:=k) hh)
 have hS:=hsm.size
 obtain ⟨S,hSe⟩:∃ S,S=sizeT L:=⟨_,rfl⟩
 obtain ⟨S2,hS2e⟩:∃ S2,S2=sizeT (delL k L):=⟨_,rfl⟩
 rw [<-hSe] at hS hb HSHAS
 rw [<-hS2e] at HSHAS
 have HS2E:Hid (S2=sizeT (delL k L)):=hS2e
 obtain ⟨N,hN⟩:∃ N,N=L.length:=⟨_,rfl⟩
 rw [<-hN] at hb HSHAS
 have hN1:N<=100000:=by rw [hN];exact hsm.1
 obtain ⟨N2,hN2⟩:∃ N2,N2=(delL k L).length:=⟨_,rfl⟩
 rw [<-hN2] at HSHAS
 have HN2:Hid (N2=(delL k L).length):=hN2
 have hgood:=hr.good
 have hflat:=hr.flat
 have HLESS:Hid (hasL k L=true->∀ W,Below w.heap.size w W->Calls Tryz.prog 123 #[.agg #[.slice A0 n0 c0,.slice A1 n1 c1,.slice A2 n2 c2],.slice B m d] W (LessOut W F h L p.els.length k)):=fun hh W hW=>by
  have:=less_any h W F (fun b hb=>Nat.lt_of_lt_of_le (hF b hb) hW.size) p B k m d (hgood.below hW) (hk.below hW) hm (by rw [hflat];exact hh) hr.top hr.two
  rw [hpv,hflat] at this
  exact this
 have HGF:Hid (F g):=t.1
 have HTWO:Hid (h≠0->2<=p.els.length):=hr.two
 have HTOP:Hid (p.els.length<=8):=hr.top
 have HB:=Lib.hid hb
 have HM:=Lib.hid hm
 have x0:=hb.cell (i:=0) (by simp)
 have x1:=hb.cell (i:=1) (by simp)
 have x2:=hb.cell (i:=2) (by simp)
 simp only [List.getElem_cons_zero,List.getElem_cons_succ] at x0 x1 x2
 clear hr hpv hpc hb hgood hflat hF hsm hSe hS2e hm hk hN hN2 t
 go_enter Tryz.func89,Tryz.ntmps89
 go_wp2_with fail
 with_reducible refine HFI.out.mono ?_
 rintro e w3 ⟨hb3,hout⟩
 rcases hout with ⟨hh,q,rfl,hq,hkv⟩ | ⟨hh,rfl⟩
 · have HH:=Lib.hid hh
   have hk0:(epiece 0 q).2.1=k:=congrArg Prod.fst hkv
   have hv0:(eval0 q).2.1=getT k L:=congrArg Prod.snd hkv
   obtain ⟨nv,hnv⟩:∃ nv,nv=(getT k L).length:=⟨_,rfl⟩
   obtain ⟨KA,KC,hpk⟩:∃ X c,pv (epiece 0 q)= .slice X m c:=⟨(epiece 0 q).1,(epiece 0 q).2.2,by unfold pv;rw [hk0,HM.out]⟩
   obtain ⟨VA,VC,hpv⟩:∃ X c,pv (eval0 q)= .slice X nv c:=⟨(eval0 q).1,(eval0 q).2.2,by unfold pv;rw [hv0,hnv]⟩
   have hn9:nv<=1000000000:=by have h4:(eval0 q).2.1.length<=1000000000:=hq.2.2.2;rw [hv0,<-hnv] at h4;exact h4
   have hsz:(S:Int)-((m:Int)+(nv:Int))=(S2:Int):=by have:=(HSHAS.out hh).1;rw [<-hnv,HM.out] at this;omega
   have hnn:(N:Int)-1=(N2:Int):=by have:=(HSHAS.out hh).2;omega
   rw [hpk,hpv]
   clear hpk hpv hk0 hv0 hq hkv hnv
   obtain ⟨w5,hw5⟩:∃ w5,w5=w3.alloc (.cells #[.slice KA m KC,.slice VA nv VC] 123):=⟨_,rfl⟩
   have hb5:Below w3.heap.size w3 w5:=by rw [hw5];exact (Below.refl _ _).alloc (Nat.le_refl _) _
   have HW5:Hid (w3.alloc (.cells #[.slice KA m KC,.slice VA nv VC] 123)=w5):=hw5.symm
   have bw5:Below w.heap.size w w5:=hop hb3 hb5
   have HG:=Lib.hid (HB.out.below bw5 HB.out.lt)
   have HBOX:Hid (Blk w5 w3.heap.size [.slice KA m KC,.slice VA nv VC] 123):=by rw [hw5];exact Blk.new w3 _ _
   have hgne:g≠w3.heap.size:=by have:=HB.out.lt;have:=hb3.size;omega
   have HL:=Lib.hid (HLESS.out hh w5 bw5)
   have hg3:Blk (w3.alloc (.cells #[.slice KA m KC,.slice VA nv VC] 123)) g [.slice A0 n0 c0,.slice A1 n1 c1,.slice A2 n2 c2,.int .i64 room,.int .i64 (N:Int),.int .i64 (S:Int)] 158:=by rw [HW5.out];exact HG.out
   have y0:=hg3.cell (i:=0) (by simp)
   have y1:=hg3.cell (i:=1) (by simp)
   have y2:=hg3.cell (i:=2) (by simp)
   simp only [List.getElem_cons_zero,List.getElem_cons_succ] at y0 y1 y2
   clear hh hw5 hb5 hb3 x0 x1 x2 hg3
   go_wp2_with fail
   rw [HW5.out]
   with_reducible refine HL.out.mono ?_
   rintro e w6 ⟨⟨q,rfl,hq1,hq2,hq3,hq4⟩,hb6⟩
   have BD:=Lib.hid (hop bw5 hb6)
   have HGD:=Lib.hid (HG.out.below hb6 HG.out.lt)
   have HBD:=Lib.hid (HBOX.out.below hb6 HBOX.out.lt)
   obtain ⟨e0,n0,f0,e1,n1,f1,e2,n2,f2,hxf,hn28,hroot⟩:=less_root h q hq1 hq2 hq3 (HSRT.out.del k) (by have:=HTOP.out;omega) (fun h0=>by have:=HTWO.out h0;omega)
   have XF:=Lib.hid hxf
   have XV:pval h q= .agg #[.slice e0 n0 f0,.slice e1 n1 f1,.slice e2 n2 f2]:=by unfold pval;rw [hxf]
   rw [XV]
   clear hxf XV hq1 hq2 hq3 hq4 hb6 y0 y1 y2
   have q0:=HGD.out.cell (i:=0) (by simp)
   have q1:=HGD.out.cell (i:=1) (by simp)
   have q2:=HGD.out.cell (i:=2) (by simp)
   have q4:=HGD.out.cell (i:=4) (by simp)
   have q5:=HGD.out.cell (i:=5) (by simp)
   have z0:=HBD.out.cell (i:=0) (by simp)
   have z1:=HBD.out.cell (i:=1) (by simp)
   simp only [List.getElem_cons_zero,List.getElem_cons_succ] at q0 q1 q2 q4 q5 z0 z1
   have r0:=HGD.out.free 0
   have r1:=HGD.out.free 1
   have r2:=HGD.out.free 2
   have r4:=HGD.out.free 4
   have r5:=HGD.out.free 5
   have hw1:IntKind.i64.wrap ((N:Int)-1)=(N2:Int):=by rw [IntKind.wrap_i64];omega
   rcases hroot with ⟨hne,hroot⟩ | ⟨rfl,l2,r,b,off,R0,m0,d0,R1,m1,d1,R2,m2,d2,rfl,hbl,hbF,hroot,hrc,y0,y1,y2⟩
   · have HROOT:=Lib.hid hroot
     have hne2:((n2:Int)==1)=false:=by rw [beq_eq_false_iff_ne];omega
     clear hroot hne
     have SP:∀ (x0 x1 x2 x3 x4:Value),Spared w (((((w6.setCell ⟨g,0,none⟩ x0).setCell ⟨g,1,none⟩ x1).setCell ⟨g,2,none⟩ x2).setCell ⟨g,5,none⟩ x3).setCell ⟨g,4,none⟩ x4).drew (fun b=>b=g):=fun x0 x1 x2 x3 x4=>((((((Spared.of_below BD.out (fun b=>b=g)).setCell (g:=g) rfl _ _).setCell (g:=g) rfl _ _).setCell (g:=g) rfl _ _).setCell (g:=g) rfl _ _).setCell (g:=g) rfl _ _).trans (.of_below (Below.refl _ _).drew _) (fun _ h=> .inl h)
     have SR:∀ (x0 x1 x2 x3 x4:Value),Spared w6 (((((w6.setCell ⟨g,0,none⟩ x0).setCell ⟨g,1,none⟩ x1).setCell ⟨g,2,none⟩ x2).setCell ⟨g,5,none⟩ x3).setCell ⟨g,4,none⟩ x4).drew F:=fun x0 x1 x2 x3 x4=>((((((Spared.refl w6 F).setCell HGF.out _ _).setCell HGF.out _ _).setCell HGF.out _ _).setCell HGF.out _ _).setCell HGF.out _ _).trans (.of_below (Below.refl _ _).drew _) (fun _ h=> .inl h)
     have hdl:=HN2.out
     have hds:=HS2E.out
     go_wp2_with fail
     go_region_with fail
     all_goals go_wp2_with fail
     all_goals go_ret
     all_goals
      refine ⟨SP _ _ _ _ _,.inl ⟨HH.out,rfl,⟨HGF.out,HSMD.out,h,q,HROOT.out.moved (SR _ _ _ _ _) (fun _ h=> .inl h),?_⟩⟩⟩
      unfold treeCells
      rw [XF.out,<-hdl,<-hds]
      exact (((((HGD.out.set 0 _).set 1 _).set 2 _).set 5 _).set 4 _).drew
   · have HROOT:=Lib.hid hroot
     have HRC:=Lib.hid hrc
     have hbg:b≠g:=fun e=>hbF (e ▸ HGF.out)
     clear hroot hrc
     have SP:∀ (x0 x1 x2 x3 x4 x5 x6 x7:Value),Spared w ((((((((w6.setCell ⟨g,0,none⟩ x0).setCell ⟨g,1,none⟩ x1).setCell ⟨g,2,none⟩ x2).setCell ⟨g,0,none⟩ x3).setCell ⟨g,1,none⟩ x4).setCell ⟨g,2,none⟩ x5).setCell ⟨g,5,none⟩ x6).setCell ⟨g,4,none⟩ x7).drew (fun b=>b=g):=fun x0 x1 x2 x3 x4 x5 x6 x7=>(((((((((Spared.of_below BD.out (fun b=>b=g)).setCell (g:=g) rfl _ _).setCell (g:=g) rfl _ _).setCell (g:=g) rfl _ _).setCell (g:=g) rfl _ _).setCell (g:=g) rfl _ _).setCell (g:=g) rfl _ _).setCell (g:=g) rfl _ _).setCell (g:=g) rfl _ _).trans (.of_below (Below.refl _ _).drew _) (fun _ h=> .inl h)
     have SR:∀ (x0 x1 x2 x3 x4 x5 x6 x7:Value),Spared w6 ((((((((w6.setCell ⟨g,0,none⟩ x0).setCell ⟨g,1,none⟩ x1).setCell ⟨g,2,none⟩ x2).setCell ⟨g,0,none⟩ x3).setCell ⟨g,1,none⟩ x4).setCell ⟨g,2,none⟩ x5).setCell ⟨g,5,none⟩ x6).setCell ⟨g,4,none⟩ x7).drew F:=fun x0 x1 x2 x3 x4 x5 x6 x7=>(((((((((Spared.refl w6 F).setCell HGF.out _ _).setCell HGF.out _ _).setCell HGF.out _ _).setCell HGF.out _ _).setCell HGF.out _ _).setCell HGF.out _ _).setCell HGF.out _ _).setCell HGF.out _ _).trans (.of_below (Below.refl _ _).drew _) (fun _ h=> .inl h)
     have hdl:=HN2.out
     have hds:=HS2E.out
     go_wp2_with fail
     go_region_with fail
     all_goals go_wp2_with fail
     all_goals go_ret
     all_goals
      refine ⟨SP _ _ _ _ _ _ _ _,.inl ⟨HH.out,rfl,⟨HGF.out,HSMD.out,l2,r,HROOT.out.moved (SR _ _ _ _ _ _ _ _) (fun _ h=> .inl h),?_⟩⟩⟩
      unfold treeCells
      rw [HRC.out,<-hdl,<-hds]
      exact ((((((((HGD.out.set 0 _).set 1 _).set 2 _).set 0 _).set 1 _).set 2 _).set 5 _).set 4 _).drew
 · have HH:=Lib.hid hh
   have B3:=Lib.hid hb3
   clear hh hb3
   go_wp2_with fail
   go_ret
   have hb5:=(Below.refl w3.heap.size w3).alloc (Nat.le_refl _) (.cells #[.slice none 0 0,.slice none 0 0] 123)
   exact ⟨Spared.of_below (hop B3.out hb5) _,.inr ⟨HH.out,rfl,HT.out.below (hop B3.out hb5)⟩⟩
end Go.Proofs.YtdaahapbpnjkfaaGreat
