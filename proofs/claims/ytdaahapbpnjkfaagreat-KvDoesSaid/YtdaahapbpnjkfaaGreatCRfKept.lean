/-
The document's disk, on the way of being made. No program is run here.
-/
import Derived.Test.YtdaahapbpnjkfaaGreatCLgRead
import Derived.Test.YtdaahapbpnjkfaaGreatCLgOpen
import Derived.Test.YtdaahapbpnjkfaaGreatCRefDecF
import Derived.Deep.CutRange
import Derived.Test.YtdaahapbpnjkfaaGreatCCatch
import Derived.Deep.AppendLies
import Derived.Deep.RegionLaw
import Derived.Deep.DrawnRows
namespace Go.Proofs.YtdaahapbpnjkfaaGreat
open Go.RowKit
def RFound (w:World) (r:Nat) (G:Nat->Prop) (f N:Nat) (gen:Int) (ds:List (List UInt8)) (e:Ending) (w':World):Prop:=
 ∃ b ps v,e= .returned (.tuple #[.pointer (some ⟨b,0,none⟩),v,.int .i64 0])/\bytesOf ps=ds/\w.heap.size<=b/\Blk w' b (lgCells r (Lg.found f N gen ds)) 102/\RecsAt w' 22 (fun k=>(G k\/k<w.heap.size)\/k=b) ps v/\Below w.heap.size w w'
def ROpenOut (w:World) (r:Nat) (G:Nat->Prop) (s:Dsk) (f N:Int) (e:Ending) (w':World):Prop:=
 (¬ OnDisk s f N/\e= .returned (.tuple #[.pointer none,.slice none 0 0,.int .i64 1])/\Below w.heap.size w w')\/
 (OnDisk s f N/\s.off=true/\e= .returned (.tuple #[.pointer none,.slice none 0 0,.int .i64 5])/\Below w.heap.size w w')\/
 (OnDisk s f N/\s.off=false/\openL (s.bytes f.toNat N.toNat)=none/\e= .returned (.tuple #[.pointer none,.slice none 0 0,.int .i64 13])/\Below w.heap.size w w')\/
 (OnDisk s f N/\s.off=false/\∃ gen ds,openL (s.bytes f.toNat N.toNat)=some (gen,ds)/\RFound w r G f.toNat N.toNat gen ds e w')
theorem refDecode_named (A:Option Addr) (b:List UInt8) (n c:Nat) (w:World) (hn:b.length=n) (hs:Seen w A b) (hc:n<=c) (hb:n<=140737488351232):
 Calls Tryz.prog 79 #[.slice A n c] w (DecNamed w (decF b)):=
 (refDecode_made A b n c w hn hc hb hs).mono fun _ _ ⟨A',n',c',he,hm⟩=>⟨_,_,_,_,A',n',c',⟨rfl,rfl,rfl,rfl⟩,he,hm⟩
def RHalf (bs:List UInt8) (gen:Int) (k e:Nat) (ps:List Piece):Prop:=
 (k=0/\e=0/\gen=0/\ps=[])\/(1<=k/\1<=gen/\openL bs=some (gen,bytesOf ps++scanL gen k (bs.drop e))/\(framesL gen 0 (bytesOf ps)).length=e/\ps.length=k)
theorem RHalf.le {bs:List UInt8} {gen:Int} {k e:Nat} {ps:List Piece} (h:RHalf bs gen k e ps):k<=e/\0<=gen/\gen<=1152921504606846976:=by
 rcases h with ⟨h1,h2,h3,_⟩ | ⟨_,h1,h4,h2,h3⟩
 · omega
 · have:=framesL_seq gen (bytesOf ps) 0
   rw [length_bytesOf,h3,h2] at this
   have:=(open_some h4).2.1
   omega
theorem RHalf.none {bs:List UInt8} {gen:Int} {e:Nat} {ps:List Piece} {og os:Int} {od:List UInt8} {oz:Nat} (h:RHalf bs gen 0 e ps) (hd:DecIs (decF (bs.drop e)) og os od oz) (hn:oz=0\/og<1\/os≠0):openL bs=none:=by
 rcases h with ⟨_,rfl,_⟩ | ⟨h,_⟩
 · exact open_not (by rw [List.drop_zero] at hd;exact hd) hn
 · omega
theorem RHalf.some {bs:List UInt8} {gen:Int} {k e:Nat} {ps:List Piece} {og os:Int} {od:List UInt8} {oz:Nat} (h:RHalf bs gen k e ps) (hk:1<=k) (hd:DecIs (decF (bs.drop e)) og os od oz) (hn:oz=0\/og<1\/os≠(k:Int)\/og≠gen):openL bs=some (gen,bytesOf ps)/\(framesL gen 0 (bytesOf ps)).length=e:=by
 rcases h with ⟨h,_⟩ | ⟨_,h1,h2,h3,_⟩
 · omega
 · rw [scan_not hd (by rcases hn with hn | hn | hn | hn;(· exact .inl hn);(· exact .inr (.inl (by omega)));(· exact .inr (.inr hn));(· exact .inr (.inl hn))),List.append_nil] at h2
   exact ⟨h2,h3⟩
theorem RHalf.more {bs:List UInt8} {gen:Int} {k e:Nat} {ps:List Piece} {og:Int} {od:List UInt8} {oz:Nat} {A:Option Addr} {c:Nat} (h:RHalf bs gen k e ps) (hd:DecIs (decF (bs.drop e)) og (k:Int) od oz) (h0:0<oz) (h1: ¬ og<1) (h2:k=0\/og=gen):RHalf bs og (k+1) (e+oz) (ps++[(A,od,c)])/\oz<=(bs.drop e).length:=by
 have hsc:=scan_yes hd h0
 have hb:bytesOf (ps++[(A,od,c)])=bytesOf ps++[od]:=by simp [bytesOf]
 refine ⟨.inr ⟨by omega,by omega,?_,?_,?_⟩,hsc.2.2⟩
 · rcases h with ⟨rfl,rfl,rfl,rfl⟩ | ⟨hk,hg,ho,_⟩
   · have e1:=open_yes (bs:=bs) (by rw [List.drop_zero] at hd;exact hd) h0 h1 rfl
     have e2:=hsc.1
     rw [List.drop_zero] at e2
     rw [e1,e2,hb]
     simp only [Nat.zero_add]
     rfl
   · obtain rfl:og=gen:=h2.resolve_left (by omega)
     rw [ho,hsc.1,hb,List.drop_drop,List.append_assoc]
     rfl
 · rw [hb,framesL_append,List.length_append,Nat.zero_add,length_bytesOf]
   have hl:ps.length=k/\(framesL og 0 (bytesOf ps)).length=e:=by
    rcases h with ⟨rfl,rfl,rfl,rfl⟩ | ⟨hk,hg,ho,h3,h4⟩
    · exact ⟨rfl,rfl⟩
    · obtain rfl:og=gen:=h2.resolve_left (by omega)
      exact ⟨h4,h3⟩
   rw [hl.1,hl.2]
   simp only [framesL,List.append_nil]
   rw [hsc.2.1]
 · rw [List.length_append]
   rcases h with ⟨rfl,_,_,rfl⟩ | ⟨_,_,_,_,h⟩
   · rfl
   · rw [h];rfl
structure ROpenAt (w6:World) (r bL f N:Nat) (F:Nat->Prop) (gen:Int) (bs:List UInt8) (wr:World) (k e:Nat) (ps:List Piece) (v:Value):Prop where
 recs:RecsAt wr 22 (fun q=>F q\/q=bL) ps v
 own:∀ q,v.ownBlock=some q->w6.heap.size<=q
 len:ps.length=k
 half:RHalf bs gen k e ps
 fits:e<=N*64
 lg:Blk wr bL (lgCells r ⟨f,N,gen,k,e,false⟩) 102
 spared:Spared w6 wr (fun q=>q=bL)
section
variable {w6:World} {r bL f N:Nat} {F:Nat->Prop} {gen:Int} {bs:List UInt8} {wr:World} {k e:Nat} {ps:List Piece} {v:Value}
theorem ROpenAt.more {w1 wq w7:World} {og:Int} {od:List UInt8} {oz:Nat} {A:Option Addr} {n c gk c5:Nat} (h:ROpenAt w6 r bL f N F gen bs wr k e ps v) (hd:DecIs (decF (bs.drop e)) og (k:Int) od oz) (h0:0<oz) (h1: ¬ og<1) (h2:k=0\/og=gen)
 (hF:∀ q,F q->q<w6.heap.size) (hLb:bL<w6.heap.size) (hlen:bs.length=N*64) (hm:MadeN 5 wr od A n c w1) (hs:Spared w1 wq (fun q=>q=bL)) (hb:Blk wq bL (lgCells r ⟨f,N,og,k+1,e+oz,false⟩) 102)
 (hown:w7.ownsRow 0 22 1 (.slice (some ⟨gk,0,none⟩) (k+1) c5) (k+1) (ps.map pv++[.slice A n c])) (hgr:(wq.alloc (.cells #[.slice A n c] 22)).grownBy w7 v.ownBlock) (hat:v.ownBlock=some gk\/gk=wq.heap.size+1):
 ROpenAt w6 r bL f N F og bs w7 (k+1) (e+oz) (ps++[(A,od,c)]) (.slice (some ⟨gk,0,none⟩) (k+1) c5):=by
 have hh:=h.half.more (A:=A) (c:=c) hd h0 h1 h2
 have hle:=hh.2
 rw [List.length_drop,hlen] at hle
 have hfits:=h.fits
 have e1:pv (A,od,c)= .slice A n c:=by show Value.slice A od.length c=_;rw [hm.1]
 have hsz:w6.heap.size<=wr.heap.size:=h.spared.size
 have hsr:wr.heap.size<=w1.heap.size:=hm.2.2.size
 have hs1:w1.heap.size<=wq.heap.size:=hs.size
 have hGlt:∀ q,(F q\/q=bL)->q<wr.heap.size:=fun q hq=>by
  rcases hq with hq | hq
  · exact Nat.lt_of_lt_of_le (hF q hq) hsz
  · omega
 have hsub:∀ q,q=bL->(F q\/q=bL):=fun q hq=> .inr hq
 have hrq:RecsAt wq 22 (fun q=>F q\/q=bL) ps v:=(h.recs.still hm.2.2).moved (hs.mono hsub) (fun _ h=> .inl h)
 have hp:PieceAt wq (fun q=>(F q\/q=bL)\/v.ownBlock=some q) (A,od,c):=by
  refine ⟨?_,cap_of hm.2,?_⟩
  · refine ((Made.past hm.2).mono (G:=fun q=>(F q\/q=bL)\/v.ownBlock=some q) (fun q hq=> ?_)).moved (hs.mono (fun q hq=> .inl (.inr hq))) (fun _ h=> .inl h)
    rcases hq with hq | hq
    · exact hGlt q hq
    · exact h.recs.lt q hq
  · have h2:=(hd.some h0).1
    have h3:=(mayB_true (decF_some h2).2.1).2.2.2.2
    exact Nat.le_trans h3 (by decide)
 obtain ⟨hrec,hs7⟩:=hrq.more (w5:=w7) (g:=gk) (c:=c5) hp (fun q hq=>Nat.lt_of_lt_of_le (hGlt q hq) (by omega)) (by rw [h.len,e1];exact hown) (by rw [e1];exact hgr) hat
 rw [h.len] at hrec
 refine ⟨hrec,fun q hq=> ?_,by rw [List.length_append,h.len];rfl,hh.1,by omega,hs7.blk hb (fun hq=>h.recs.far _ hq (.inr rfl)),?_⟩
 · injection hq with hq
   change gk=q at hq
   subst hq
   rcases hat with e2 | e2
   · exact h.own gk e2
   · omega
 · have h1:=(h.spared.trans (.of_below hm.2.2 (fun q=>q=bL)) (fun _ h=> .inl h)).trans hs (fun _ h=> .inl h)
   exact h1.trans hs7 (fun q hq=> .inr (h.own q hq))
end
set_option maxRecDepth 100000 in
set_option maxHeartbeats 4000000 in
theorem refOpen_any (w:World) (r:Nat) (G:Nat->Prop) (s:Dsk) (f N:Int) (h:RefAt w r G s):
 Calls Tryz.prog 45 #[.pointer (some ⟨r,0,none⟩),.int .i64 f,.int .i64 N] w (ROpenOut w r G s f N):=by
 have hK4:=h.ok.hi
 have OK:=Lib.hid h.ok
 have H:=Lib.hid h
 have HV:=Lib.hid (refArea_any w r G s f N h)
 obtain ⟨v,hv⟩:∃ v,v=decide (0<=f/\1<=N/\N<=(s.K.length:Int)-f):=⟨_,rfl⟩
 rw [<-hv] at HV
 have HVD:=Lib.hid hv
 clear hv h
 by_cases hv':v=true
 · subst hv'
   have hod:0<=f/\1<=N/\N<=(s.K.length:Int)-f:=of_decide_eq_true HVD.out.symm
   have HOD:Hid (OnDisk s f N):=hod
   obtain ⟨f,rfl⟩:∃ k:Nat,f=(k:Int):=⟨f.toNat,by omega⟩
   obtain ⟨N,rfl⟩:∃ k:Nat,N=(k:Int):=⟨N.toNat,by omega⟩
   have hN1:1<=N:=by omega
   have hfN:f+N<=s.K.length:=by omega
   have hN4:N<=4096:=by omega
   have HLEN:=Lib.hid (bytes_length OK.out hfN)
   have HBY:Hid (s.bytes f N=((s.view.drop f).take N).flatten):=rfl
   have HVL:Hid (s.view.length=s.K.length):=view_length s
   have HV64:=Lib.hid (view_len OK.out)
   obtain ⟨i0,hi,hz0,hz1,hz2⟩:=info_parts info8p
   clear hod HVD
   go_enter Tryz.func45,Tryz.ntmps45
   go_wp2_with fail
   refine HV.out.mono ?_
   rintro e w2 ⟨rfl,hb2⟩
   have HB2:=Lib.hid hb2
   clear hb2 HV
   go_wp2
   go_loopw [10,11] (fun v a wr=>∃ k n A c:Nat,∃ B:Option Addr,n=k*64/\k<=N/\a= .int .i64 k/\(k=0\/s.off=false)/\v= .slice B n c/\MadeN 5 w ((s.view.drop f).take k).flatten B n c wr) (fun _ a _=>N-(intOf a).toNat)
   case atStart=>exact ⟨0,0,0,0,none,rfl,Nat.zero_le _,rfl,.inl rfl,rfl,madeN_start HB2.out⟩
   case round=>
   obtain ⟨k,n,_,c,B,hn,hk,rfl,hoff,rfl,hm⟩:=hrel
   have HM:=Lib.hid hm
   have HOF:=Lib.hid hoff
   clear hm hoff
   by_cases hlt:k<N
   · have hkl:(k:Int)<(N:Int):=by omega
     have hRD:=Lib.hid (refRead_any wr r G s ((f+k:Nat):Int) (H.out.still HM.out.2.2))
     rw [show ((f+k:Nat):Int)=(f:Int)+(k:Int) by omega] at hRD
     have hw1:IntKind.i64.wrap ((f:Int)+(k:Int))=(f:Int)+(k:Int):=by rw [IntKind.wrap_i64];omega
     go_wp2_with fail
     refine hRD.out.mono ?_
     rintro e w6 ⟨hb6,⟨hx,_⟩ | ⟨_,ho,rfl⟩ | ⟨_,ho,x,A6,c6,hx,hs6,rfl⟩⟩
     · exact absurd ⟨by omega,by omega⟩ hx
     · have HO:=Lib.hid ho
       have HB6:=Lib.hid (hop HM.out.2.2 hb6)
       clear ho hb6 hRD
       go_wp2
       go_ret3
       exact .inr (.inl ⟨HOD.out,HO.out,rfl,HB6.out⟩)
     · have HO:=Lib.hid ho
       have HM6:=Lib.hid (HM.out.below hb6)
       rw [show ((f:Int)+(k:Int)).toNat=f+k by omega] at hx
       have hv:=last_view OK.out hx
       have hfk:f+k<s.view.length:=by rw [HVL.out];omega
       rw [List.getElem?_eq_getElem hfk] at hv
       injection hv with hv
       have HT:Hid (((s.view.drop f).take (k+1)).flatten=((s.view.drop f).take k).flatten++x):=by show _=_;rw [<-hv];exact (bytes_step hfk).symm
       have H64:Hid (x.length=64):=by show _=_;rw [<-hv];exact HV64.out _ (List.getElem_mem hfk)
       have HS:=Lib.hid hs6
       have hnb:n+64<=140737488355328:=by omega
       have HNK:=Lib.hid hn
       generalize ((s.view.drop f).take k).flatten=d at *
       obtain ⟨d',hd'⟩:∃ d',d'=((s.view.drop f).take (k+1)).flatten:=⟨_,rfl⟩
       rw [<-hd'] at HT
       have HD':=Lib.hid hd'
       clear hd'
       clear ho hb6 hRD hx hv hfk hs6 hn
       go_wp2_with (at_builtin;refine wpList_append_to _ rfl (.tmp 40) (.tmp 41) 22 rfl 5 i0 (.int .u8 0) Tryz.underlying22 hi hz0 hz1 hz2 rfl w B n c d A6 64 c6 x d' (n+64) rfl rfl HM6 HS H64 HT (show Hid (n+64=n+64) from rfl) hnb ?_)
       intro A7 c7 w7 hm7 hb7
       go_wp2
       go_roundw
       case rel=>exact ⟨k+1,n+64,0,c7,A7,by have:=HNK.out;omega,by omega,by go_num,.inr HO.out,rfl,by rw [<-HD'.out];exact hm7.out⟩
       case measure=>simp [intOf];omega
   obtain rfl:k=N:=by omega
   subst hn
   have HO:Hid (s.off=false):=HOF.out.resolve_left (by omega)
   rw [<-HBY.out] at HM
   obtain ⟨bs,hbs⟩:∃ bs,bs=s.bytes f k:=⟨_,rfl⟩
   rw [<-hbs] at HLEN HM
   have HBS:Hid (bs=s.bytes ((f:Int)).toNat ((k:Int)).toNat):=hbs
   have hc3:k*64<=c:=by have:=cap_of HM.out.2;rw [HM.out.1] at this;exact this
   have hN64:k*64<=262144:=by omega
   clear hbs HBY HVL HV64
   -- the log's own block
   obtain ⟨w6,hw6⟩:∃ w6,w6=wr.alloc (.cells #[.pointer (some ⟨r,0,none⟩),.int .i64 (f:Int),.int .i64 (k:Int),.int .i64 0,.int .i64 0,.int .i64 0,.bool false] 102):=⟨_,rfl⟩
   have B6:Below wr.heap.size wr w6:=by rw [hw6];exact (Below.refl _ _).alloc (Nat.le_refl _) _
   have HSZ6:Hid (w6.heap.size=wr.heap.size+1):=by show _=_;rw [hw6];simp
   have HBW6:=Lib.hid (hop HM.out.2.2 B6)
   have HLB:Hid (Blk w6 wr.heap.size (lgCells r ⟨f,k,0,0,0,false⟩) 102):=by
    show Blk _ _ _ _
    rw [hw6];exact Blk.new wr (lgCells r ⟨f,k,0,0,0,false⟩) _
   have HFLT:Hid (∀ q,(G q\/q<w.heap.size)->q<wr.heap.size):=fun q hq=>Nat.lt_of_lt_of_le (hq.elim (H.out.lt q) id) HM.out.2.2.size
   have HAW6:Hid (Away w6 (fun q=>q=wr.heap.size) B bs):=by
    have:=Away.of_seen (F:=fun q=>wr.heap.size<=q) HM.out.seen (fun b off _ hb hk=>by omega)
    exact this.moved (.of_below B6 _) (fun k hk=>by exact .inl (by omega))
   have HW6:Hid (wr.alloc (.cells #[.pointer (some ⟨r,0,none⟩),.int .i64 (f:Int),.int .i64 (k:Int),.int .i64 0,.int .i64 0,.int .i64 0,.bool false] 102)=w6):=hw6.symm
   have HR0:Hid (ROpenAt w6 r wr.heap.size f k (fun q=>G q\/q<w.heap.size) 0 bs w6 0 0 [] (.slice none 0 0)):=
    ⟨RecsAt.nil _ _ _,(fun q e=>by cases e),rfl,.inl ⟨rfl,rfl,rfl,rfl⟩,Nat.zero_le _,HLB.out,.refl _ _⟩
   have HWS:Hid (w.heap.size<=wr.heap.size):=HM.out.2.2.size
   obtain ⟨iB,hiB,hzB,hsB,hbB⟩:=info_parts infoBL
   obtain ⟨bL,hbL⟩:∃ bL,bL=wr.heap.size:=⟨_,rfl⟩
   have hkl: ¬ (k:Int)<(k:Int):=by omega
   clear hw6 B6 HLB hlt HOF
   go_wp2
   rw [HW6.out]
   rw [<-hbL] at HSZ6 HFLT HAW6 HR0 HWS ⊢
   clear HW6 HM hbL
   go_loopw [15] (fun v wr=>∃ j e ps gen,ROpenAt w6 r bL f k (fun q=>G q\/q<w.heap.size) gen bs wr j e ps v) (fun v _=>k*64+1-lenOf v)
   case atStart=>exact ⟨0,0,[],0,HR0.out⟩
   case round=>
   clear HR0
   obtain ⟨j,e,ps,gen,hat⟩:=hrel
   have hle:=hat.half.le
   have hfits:=hat.fits
   have HFORM:=hat.recs.form
   obtain ⟨AR,cR,hv⟩:=HFORM
   subst hv
   have hlen:=hat.len
   rw [hlen] at hat ⊢
   have HR:=Lib.hid hat
   have HJ:=Lib.hid hlen
   have HBW:Hid (Below w.heap.size w wr):=hat.spared.below HBW6.out (fun q hq=>by rw [hq];exact HWS.out)
   obtain ⟨A9,hcut,hseen⟩:=tail_cut_all B bs (k*64) c e (e:Int) rfl HLEN.out hfits hc3
   have HS9:=Lib.hid (hseen wr (HAW6.out.moved hat.spared (G:=fun q=>q=bL) (fun _ h=> .inl h)).seen)
   have HL9:Hid ((bs.drop e).length=k*64-e):=by show _=_;rw [List.length_drop,HLEN.out]
   have hcut9:k*64-e<=c-e:=by omega
   have HC9:=Lib.hid hcut9
   obtain ⟨_,_,_,l3,l4,l5,_⟩:=lg_cells hat.lg
   clear hat hlen hseen hcut9
   go_wp2_with fail
   refine (refDecode_named A9 (bs.drop e) _ _ _ HL9.out HS9.out HC9.out (by omega)).mono ?_
   rintro ee w1 ⟨og,os,od,oz,A,n,c9,hdec,rfl,hmd⟩
   have HDC:=Lib.hid hdec
   have HMD:=Lib.hid hmd
   have HB1:=Lib.hid hmd.2.2
   have HLG:=Lib.hid (HR.out.lg.below hmd.2.2 HR.out.lg.lt)
   obtain ⟨_,_,_,l3,l4,l5,_⟩:=lg_cells HLG.out
   have f3:=HLG.out.free 3
   have f4:=HLG.out.free 4
   have f5:=HLG.out.free 5
   clear hdec hmd hcut
   have HEND:Hid ((oz=0\/og<1\/os≠(j:Int)\/(0<j/\og≠gen))->∀ w',Below w1.heap.size w1 w'->(j=0->ROpenOut w r G s (f:Int) (k:Int) (.returned (.tuple #[.pointer none,.slice none 0 0,.int .i64 13])) w')/\(0<j->ROpenOut w r G s (f:Int) (k:Int) (.returned (.tuple #[.pointer (some ⟨bL,0,none⟩),.slice AR j cR,.int .i64 0])) w')):=fun hn w' hb=>by
    have hbw:=hop (hop HBW.out HB1.out) hb
    refine ⟨fun h0=> ?_,fun h0=> ?_⟩
    · have hno:openL bs=none:=by
       have h1:=HR.out.half
       rw [h0] at h1
       exact h1.none HDC.out (by rcases hn with hn | hn | hn | hn;(· exact .inl hn);(· exact .inr (.inl hn));(· exact .inr (.inr (by rw [h0] at hn;exact hn)));(· omega))
      exact .inr (.inr (.inl ⟨HOD.out,HO.out,by rw [<-HBS.out];exact hno,rfl,hbw⟩))
    · have hy:=HR.out.half.some h0 HDC.out (by rcases hn with hn | hn | hn | hn;(· exact .inl hn);(· exact .inr (.inl hn));(· exact .inr (.inr (.inl hn)));(· exact .inr (.inr (.inr hn.2))))
      refine .inr (.inr (.inr ⟨HOD.out,HO.out,gen,bytesOf ps,by rw [<-HBS.out];exact hy.1,bL,ps,_,rfl,rfl,HWS.out,?_,?_,hbw⟩))
      · have e1:Lg.found f k gen (bytesOf ps)=⟨f,k,gen,j,e,false⟩:=by
         unfold Lg.found
         rw [hy.2,length_bytesOf,HJ.out]
        show Blk w' bL (lgCells r (Lg.found f k gen (bytesOf ps))) _
        rw [e1]
        exact HLG.out.below hb HLG.out.lt
      · exact (HR.out.recs.still HB1.out).still hb
   obtain ⟨w5,hw5⟩:∃ w5,w5=w1.alloc (.cells #[.int .i64 og,.int .i64 os,.slice A n c9] 134):=⟨_,rfl⟩
   have HB5:Hid (Below w1.heap.size w1 w5):=by show Below _ _ _;rw [hw5];exact (Below.refl _ _).alloc (Nat.le_refl _) _
   have HX5:Hid (Blk w5 w1.heap.size (frCells og os A n c9) 134):=by show Blk _ _ _ _;rw [hw5];exact Blk.new w1 (frCells og os A n c9) _
   have HW5:Hid (w1.alloc (.cells #[.int .i64 og,.int .i64 os,.slice A n c9] 134)=w5):=hw5.symm
   have HL5:=Lib.hid (HLG.out.below HB5.out HLG.out.lt)
   obtain ⟨b0,b1,b2⟩:=fr_cells HX5.out
   obtain ⟨_,_,_,m3,m4,m5,_⟩:=lg_cells HL5.out
   clear hw5
   obtain ⟨stop,hst⟩:∃ b:Bool,b=decide (oz=0\/og<1\/os≠(j:Int)\/(0<j/\og≠gen)):=⟨_,rfl⟩
   have HST:=Lib.hid hst
   have HYES:Hid (∀ P:Prop,(P->oz=0\/og<1\/os≠(j:Int)\/(0<j/\og≠gen))->P->stop=true):=fun P h hp=>HST.out.trans (decide_eq_true (h hp))
   clear hst
   go_upto_region 15 with fail
   rw [HW5.out]
   go_cut [89] from 48 to 115 (fun v wx=>v= .bool stop/\Below w5.heap.size w5 wx)
   case first=>
    by_cases h0:oz=0
    · have HE:=Lib.hid (HST.out.trans (decide_eq_true (.inl h0)))
      have d1:((oz:Int)==0)=true:=by rw [h0];rfl
      clear h0 hle hfits
      go_quiet (fail)
      go_wp2
      go_meet
      exact ⟨congrArg Value.bool HE.out.symm,below_drewN (Below.refl _ _) _⟩
    have d1:((oz:Int)==0)=false:=by rw [beq_eq_false_iff_ne];omega
    by_cases h1:os=(j:Int)
    · have d2:(os==(j:Int))=true:=by rw [beq_iff_eq];exact h1
      have d2':(os != (j:Int))=false:=by rw [bne,d2];rfl
      by_cases h2:og<1
      · have HE:=Lib.hid (HST.out.trans (decide_eq_true (.inr (.inl h2))))
        have d3:decide (og<1)=true:=decide_eq_true h2
        clear h0 h1 h2 hle hfits
        go_quiet (fail)
        go_wp2
        go_meet
        exact ⟨congrArg Value.bool HE.out.symm,below_drewN (Below.refl _ _) _⟩
      have d3:decide (og<1)=false:=decide_eq_false h2
      by_cases h3:0<j
      · have d4:decide ((0:Int)<(j:Int))=true:=decide_eq_true (by omega)
        have d4':decide (0<j)=true:=decide_eq_true h3
        by_cases h4:og=gen
        · have HE:=Lib.hid (HST.out.trans (decide_eq_false (fun h=>by rcases h with h | h | h | h;(· exact h0 h);(· exact h2 h);(· exact h h1);(· exact h.2 h4))))
          have d5:(og==gen)=true:=by rw [beq_iff_eq];exact h4
          have d5':(og != gen)=false:=by rw [bne,d5];rfl
          clear h0 h1 h2 h3 h4 hle hfits
          go_quiet (fail)
          go_wp2
          go_meet
          exact ⟨congrArg Value.bool HE.out.symm,below_drewN (Below.refl _ _) _⟩
        · have HE:=Lib.hid (HST.out.trans (decide_eq_true (.inr (.inr (.inr ⟨h3,h4⟩)))))
          have d5:(og==gen)=false:=by rw [beq_eq_false_iff_ne];exact h4
          have d5':(og != gen)=true:=by rw [bne,d5];rfl
          clear h0 h1 h2 h3 h4 hle hfits
          go_quiet (fail)
          go_wp2
          go_meet
          exact ⟨congrArg Value.bool HE.out.symm,below_drewN (Below.refl _ _) _⟩
      · have d4:decide ((0:Int)<(j:Int))=false:=decide_eq_false (by omega)
        have d4':decide (0<j)=false:=decide_eq_false h3
        have HE:=Lib.hid (HST.out.trans (decide_eq_false (fun h=>by rcases h with h | h | h | h;(· exact h0 h);(· exact h2 h);(· exact h h1);(· exact h3 h.1))))
        clear h0 h1 h2 h3 hle hfits
        go_quiet (fail)
        go_wp2
        go_meet
        exact ⟨congrArg Value.bool HE.out.symm,below_drewN (Below.refl _ _) _⟩
    · have HE:=Lib.hid (HST.out.trans (decide_eq_true (.inr (.inr (.inl h1)))))
      have d2:(os==(j:Int))=false:=by rw [beq_eq_false_iff_ne];exact h1
      have d2':(os != (j:Int))=true:=by rw [bne,d2];rfl
      clear h0 h1 hle hfits
      go_quiet (fail)
      go_wp2
      go_meet
      exact ⟨congrArg Value.bool HE.out.symm,below_drewN (Below.refl _ _) _⟩
   case rest=>
   obtain ⟨rfl,hbc⟩:=hcut
   have HBC:=Lib.hid (hop HB5.out hbc)
   have HLC:=Lib.hid (HL5.out.below hbc HL5.out.lt)
   obtain ⟨b0,b1,b2⟩:=fr_cells (HX5.out.below hbc HX5.out.lt)
   obtain ⟨_,_,_,m3,m4,m5,_⟩:=lg_cells HLC.out
   have f3:=HLC.out.free 3
   have f4:=HLC.out.free 4
   have f5:=HLC.out.free 5
   clear hbc b1
   by_cases hs:stop=true
   · have HE:=Lib.hid (HEND.out (of_decide_eq_true (HST.out.symm.trans hs)) _ HBC.out)
     subst hs
     by_cases hj:j=0
     · have dj:((j:Int)==0)=true:=by rw [hj];rfl
       have dj':(j:Int)=0:=by omega
       have HE':=Lib.hid (HE.out.1 hj)
       clear hj HE HEND
       go_wp2
       go_ret3
       exact HE'.out
     · have dj:((j:Int)==0)=false:=by rw [beq_eq_false_iff_ne];omega
       have dj': ¬ (j:Int)=0:=by omega
       have HE':=Lib.hid (HE.out.2 (by omega))
       clear hj HE HEND
       go_wp2
       go_ret3
       exact HE'.out
   · have hs':stop=false:=by simpa using hs
     have hno:=of_decide_eq_false (HST.out.symm.trans hs')
     subst hs'
     have h0:0<oz:=by rcases Nat.eq_zero_or_pos oz with h | h;(· exact absurd (.inl h) hno);(· exact h)
     have h1: ¬ og<1:=fun h=>hno (.inr (.inl h))
     have h2:os=(j:Int):=Decidable.byContradiction (fun h=>hno (.inr (.inr (.inl h))))
     have h3:j=0\/og=gen:=by
      rcases Nat.eq_zero_or_pos j with h | h
      · exact .inl h
      · exact .inr (Decidable.byContradiction (fun h'=>hno (.inr (.inr (.inr ⟨h,h'⟩)))))
     subst h2
     have hmo:=HR.out.half.more (A:=A) (c:=c9) HDC.out h0 h1 h3
     have hl9:=hmo.2
     rw [HL9.out] at hl9
     have hw1:IntKind.i64.wrap ((j:Int)+1)=(j:Int)+1:=by rw [IntKind.wrap_i64];omega
     have hw2:IntKind.i64.wrap ((e:Int)+(oz:Int))=(e:Int)+(oz:Int):=by rw [IntKind.wrap_i64];omega
     obtain ⟨w8,hw8⟩:∃ w8,w8=((wc.setCell ⟨bL,3,none⟩ (.int .i64 og)).setCell ⟨bL,4,none⟩ (.int .i64 ((j:Int)+1))).setCell ⟨bL,5,none⟩ (.int .i64 ((e:Int)+(oz:Int))):=⟨_,rfl⟩
     have HS8:Hid (Spared w1 w8 (fun q=>q=bL)):=by
      show Spared _ _ _
      rw [hw8]
      exact ((((Spared.of_below HBC.out (fun q=>q=bL))).setCell rfl 3 _).setCell rfl 4 _).setCell rfl 5 _
     have HL8:Hid (Blk w8 bL (lgCells r ⟨f,k,og,j+1,e+oz,false⟩) 102):=by
      show Blk _ _ _ _
      rw [hw8]
      have:=((HLC.out.set 3 (.int .i64 og)).set 4 (.int .i64 ((j:Int)+1))).set 5 (.int .i64 ((e:Int)+(oz:Int)))
      have e1:((j+1:Nat):Int)=(j:Int)+1:=by omega
      have e2:((e+oz:Nat):Int)=(e:Int)+(oz:Int):=by omega
      have ee:lgCells r ⟨f,k,og,j+1,e+oz,false⟩=(((lgCells r ⟨f,k,gen,j,e,false⟩).set 3 (.int .i64 og)).set 4 (.int .i64 ((j:Int)+1))).set 5 (.int .i64 ((e:Int)+(oz:Int))):=by
       simp only [lgCells,e1,e2,List.set_cons_succ,List.set_cons_zero]
      rw [ee];exact this
     have HRE8:=Lib.hid ((HR.out.recs.still HB1.out).moved (HS8.out.mono (fun q hq=> .inr hq)) (fun _ h=> .inl h))
     have HOWN:Hid ((w8.alloc (.cells #[.slice A n c9] 22)).ownsRow 0 22 1 (.slice AR j cR) j (ps.map pv)):=by
      have h1:=HRE8.out.list
      rw [HJ.out] at h1
      exact h1.alloc _
     have HX:=Lib.hid (fun (w7:World) (gk c5:Nat) h4 h5 h6=>HR.out.more (w1:=w1) (wq:=w8) (w7:=w7) (gk:=gk) (c5:=c5) HDC.out h0 h1 h3 (fun q hq=>by have:=HFLT.out q hq;rw [HSZ6.out];omega) (by rw [HSZ6.out];omega) HLEN.out HMD.out HS8.out HL8.out h4 h5 h6)
     have HW8:Hid (((wc.setCell ⟨bL,3,none⟩ (.int .i64 og)).setCell ⟨bL,4,none⟩ (.int .i64 ((j:Int)+1))).setCell ⟨bL,5,none⟩ (.int .i64 ((e:Int)+(oz:Int)))=w8):=hw8.symm
     have hjb:j<=262144:=by omega
     have hjk:j+1<=k*64:=by omega
     have HSZ8:Hid (w8.heap.size=wc.heap.size):=by show _=_;rw [hw8];simp
     have HNEW:Hid ((w8.alloc (.cells #[.slice A n c9] 22)).heap[wc.heap.size]? =some (.cells #[.slice A n c9] 22)):=by show _=_;rw [<-HSZ8.out];exact heap_alloc_new _ _
     have HAS:Hid ((w8.alloc (.cells #[.slice A n c9] 22)).heap.size=wc.heap.size+1):=by show _=_;rw [<-HSZ8.out];simp
     clear hno hmo hl9 hw8 h3 hs HEND
     go_wp2_with (at_builtin;rw [HW8.out];refine wpList_append_lies _ rfl (.tmp 111) (.tmp 114) 47 rfl 0 22 iB (.slice none 0 0) 1 24 Tryz.underlying47 hiB hzB hsB hbB rfl (by decide) (.slice AR j cR) j (ps.map pv) rfl HOWN.out ⟨wc.heap.size,0,none⟩ 1 1 [.slice A n c9] rfl rfl (World.news_of_block HNEW.out) (by intro u hu;rw [List.mem_singleton.1 hu];rfl) (by decide) (by unfold maxLen;omega) (by omega) (Nat.zero_le _) (wc.heap.size+1) HAS.out ?_);intro gk cap5 w7 hown5 hgr5 hat5 hlt5
     have HOW5:=Lib.hid hown5
     have HGR5:=Lib.hid hgr5
     have HAT5:=Lib.hid hat5
     clear hown5 hgr5 hat5 hlt5 m3 m4 m5 f3 f4 f5 b0 b2
     go_wp2
     go_roundw
     case rel=>exact ⟨j+1,e+oz,ps++[(A,od,c9)],og,HX.out w7 gk cap5 HOW5.out HGR5.out (by rw [HSZ8.out];exact HAT5.out)⟩
     case measure=>show k*64+1-(j+1)<k*64+1-j;omega
 · have hv0:v=false:=by simpa using hv'
   subst hv0
   have hnod: ¬ (0<=f/\1<=N/\N<=(s.K.length:Int)-f):=of_decide_eq_false HVD.out.symm
   have HNOD:Hid (¬ OnDisk s f N):=hnod
   clear hnod
   go_enter Tryz.func45,Tryz.ntmps45
   go_wp2_with fail
   refine HV.out.mono ?_
   rintro e w2 ⟨rfl,hb2⟩
   have HB2:=Lib.hid hb2
   clear hb2 HV
   go_wp2
   go_ret3
   exact .inl ⟨HNOD.out,rfl,HB2.out⟩
theorem infoB:(Tryz.prog.info? 22).map (fun i=>(i.zero,i.size,i.bytes))=some (some (.slice none 0 0),1,24):=by kernel_rfl
section
variable {w w1 w5:World} {r gk cap':Nat} {vK:Value} {PK:List Piece} {G:Nat->Prop} {s:Dsk} {q:Piece}
theorem ref_kept (h:RefIn w r vK (.slice none 0 0) PK [] false 0 G s) (hb:Below w.heap.size w w1) (hgr:w1.grownBy w5 vK.ownBlock) (hl:q.2.1.length=64) (hM:s.M=[]) (hhi:s.K.length+1<=4096)
 (hq:∃ b,q.1=some ⟨b,0,none⟩/\w.heap.size<=b/\b<w1.heap.size/\∀ j (h:j<q.2.1.length),w1.cell? ⟨b,0+j,none⟩=some (.int .u8 (q.2.1[j].toNat:Int)))
 (hown:w5.ownsRow 0 22 1 (.slice (some ⟨gk,0,none⟩) (PK.length+1) cap') (PK.length+1) (PK.map pv++[pv q])) (hat:vK.ownBlock=some gk\/gk=w1.heap.size) (hlt:gk<w5.heap.size):
 RefIn (w5.setCell ⟨r,0,none⟩ (.slice (some ⟨gk,0,none⟩) (PK.length+1) cap')) r (.slice (some ⟨gk,0,none⟩) (PK.length+1) cap') (.slice none 0 0) (PK++[q]) [] false 0 (fun k=>G k\/(w.heap.size<=k/\k<w5.heap.size)) { s with K:=s.K++[q.2.1] }/\
 Spared w (w5.setCell ⟨r,0,none⟩ (.slice (some ⟨gk,0,none⟩) (PK.length+1) cap')) G/\w5.cell? ⟨r,0,none⟩=some vK/\w5.frozen? ⟨r,0,none⟩=false:=by
 have hr1:Blk w1 r _ _:=h.blk.below hb h.blk.lt
 have hrK:vK.ownBlock≠some r:=fun e=>(h.gK r e).2 rfl
 have hr5:Blk w5 r (rfCells vK (.slice none 0 0) s.off false 0 s.calls) 50:=(hgr.block r hr1.lt (fun e=>hrK e.symm)).trans hr1
 have hmr:gk≠r:=by
  rcases hat with e | e
  · exact (h.gK gk e).2
  · have:=hr1.lt;omega
 have hsz:w.heap.size<=w5.heap.size:=Nat.le_trans hb.size hgr.size
 have hsz':w5.heap.size=(w5.setCell ⟨r,0,none⟩ (.slice (some ⟨gk,0,none⟩) (PK.length+1) cap')).heap.size:=by simp [World.setCell]
 have hk:∀ b,b<w.heap.size->b≠r->vK.ownBlock≠some b->(w5.setCell ⟨r,0,none⟩ (.slice (some ⟨gk,0,none⟩) (PK.length+1) cap')).heap[b]? =w.heap[b]? :=fun b hlt hbr hbM=>
  (heap_setCell_other w5 ⟨r,0,none⟩ b _ (fun e=>hbr e)).trans ((hgr.block b (Nat.lt_of_lt_of_le hlt hb.size) (fun e=>hbM e.symm)).trans (hb.block b hlt))
 have hgmb:∀ b,b<w.heap.size->vK.ownBlock≠some b->gk≠b:=fun b hlt hbM e=>by
  rcases hat with e2 | e2
  · exact hbM (by rw [e2,e])
  · have:=hb.size;omega
 have hs1:Spared w w5 G:=(Spared.of_below hb G).trans (.of_grown hgr (F:=G) (fun k e _=>(h.gK k e).1)) (fun _ h=> .inl h)
 have hnew:Hold (w5.setCell ⟨r,0,none⟩ (.slice (some ⟨gk,0,none⟩) (PK.length+1) cap')) r (.slice (some ⟨gk,0,none⟩) (PK.length+1) cap') (.slice none 0 0) (fun k=>G k\/(w.heap.size<=k/\k<w5.heap.size)) q:=by
  obtain ⟨b,e,hle,hlt1,hc⟩:=hq
  have hbr:b≠r:=by have:=h.blk.lt;omega
  have hbM:vK.ownBlock≠some b:=fun e=>by have:=h.lt b (h.gK b e).1;omega
  refine ⟨hl,b,0,e,?_,.inr ⟨hle,Nat.lt_of_lt_of_le hlt1 hgr.size⟩,hbr,fun e=> ?_,(fun e=>by cases e),fun j hj=> ?_⟩
  · rw [<-hsz'];exact Nat.lt_of_lt_of_le hlt1 hgr.size
  · injection e with e
    rcases hat with e2 | e2
    · exact hbM (by rw [e2];exact congrArg some e)
    · have e':gk=b:=e;omega
  · exact (World.cell?_of_block (a:=⟨b,0+j,none⟩) ((heap_setCell_other w5 ⟨r,0,none⟩ b _ (fun e=>hbr e)).trans (hgr.block b hlt1 (fun e=>hbM e.symm)))).trans (hc j hj)
 refine ⟨⟨hr5.set 0 _,?_,World.ownsRow_nil _ _ _ _,?_,h.eqM,.inl h.gr,?_,(fun k e=>by cases e),(fun k _ e=>by cases e),?_,(fun q hq=>by simp at hq),?_,?_,?_,h.arm⟩,hs1.setCell h.gr _ _,hr5.cell (i:=0) (by simp [rfCells]),hr5.free 0⟩
 · have e:(PK++[q]).length=PK.length+1:=by simp
   rw [e,List.map_append]
   exact own_kept hown (fun k e _=>heap_setCell_other w5 ⟨r,0,none⟩ k _ (fun e'=>by injection e with e;exact hmr (e.trans e')))
 · rw [List.map_append,h.eqK];rfl
 · intro k e
   injection e with e
   subst e
   refine ⟨?_,hmr⟩
   rcases hat with e2 | e2
   · exact .inl (h.gK _ e2).1
   · exact .inr ⟨by show w.heap.size<=gk;rw [e2];exact hb.size,hlt⟩
 · intro x hx
   rcases List.mem_append.1 hx with h1 | h1
   · exact (h.pK x h1).to (Nat.le_trans hsz (Nat.le_of_eq hsz')) (fun b hlt _ hbr hbM _=>hk b hlt hbr hbM) (fun _ h=> .inl h) (fun b hlt hbM e=>hgmb b hlt hbM (by injection e)) (fun _ _ h=>h)
   · rw [List.mem_singleton.1 h1];exact hnew
 · intro k hg
   rw [<-hsz']
   rcases hg with hg | hg
   · exact Nat.lt_of_lt_of_le (h.lt k hg) hsz
   · exact hg.2
 · intro p hp;rw [show ({ s with K:=s.K++[q.2.1] }:Dsk).M=s.M from rfl,hM] at hp;simp at hp
 · show (s.K++[q.2.1]).length<=_;rw [List.length_append];exact hhi
end
def RFresh (w:World) (s:Dsk) (e:Ending) (w':World):Prop:=
 ∃ r G,e= .returned (.pointer (some ⟨r,0,none⟩))/\RefAt w' r G s/\(∀ k,G k->w.heap.size<=k)/\Below w.heap.size w w'
theorem new_start (w:World):RefIn (w.alloc (.cells #[.slice none 0 0,.slice none 0 0,.bool false,.bool false,.int .i64 0,.int .i64 0] 50)) w.heap.size (.slice none 0 0) (.slice none 0 0) [] [] false 0 (· =w.heap.size) (Dsk.new 0):=
 ⟨Blk.new w (rfCells (.slice none 0 0) (.slice none 0 0) false false 0 0) _,World.ownsRow_nil _ _ _ _,World.ownsRow_nil _ _ _ _,rfl,rfl,rfl,(fun k e=>by cases e),(fun k e=>by cases e),(fun k e=>by cases e),(fun q hq=>by simp at hq),(fun q hq=>by simp at hq),(fun k e=>by simp;omega),(fun p hp=>by simp [Dsk.new] at hp),by simp [Dsk.new],fun _=>⟨rfl,fun h=>absurd h (by show ¬ 0<0;decide)⟩⟩
end Go.Proofs.YtdaahapbpnjkfaaGreat
