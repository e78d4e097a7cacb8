/-
The document's Open of a store. Conditions: at most 3,000 blocks; at most 700,000 calls.
-/
import Derived.Test.YtdaahapbpnjkfaaGreatCKpOpen
import Derived.Test.YtdaahapbpnjkfaaGreatCRkC
import Derived.Test.YtdaahapbpnjkfaaGreatCKvPairs
import Derived.Deep.QuietTactic
import Derived.BigQuiet
namespace Go.Proofs.YtdaahapbpnjkfaaGreat
open Go.RowKit
theorem ropen_recs {w:World} {r:Nat} {G:Nat->Prop} {s:Dsk} {f N E:Int} {lo:Option Lg} {ds:List (List UInt8)} (h:RefAt w r G s) (hb:OpTo s f N E lo ds):
 Calls Tryz.prog 45 #[.pointer (some ⟨r,0,none⟩),.int .i64 f,.int .i64 N] w fun e w'=>∃ b A ps n c,e= .returned (.tuple #[lp lo b,.slice A n c,.int .i64 E])/\ps.length=n/\bytesOf ps=ds/\RecsAt w' 22 (fun x=>x<w.heap.size) ps (.slice A n c)/\(∀ l,lo=some l->Blk w' b (lgCells r l) 102)/\w.heap.size<=b/\Below w.heap.size w w':=by
 refine (refOpen_any w r G s f N h).mono ?_
 rintro e w' (⟨k1,rfl,k3⟩ | ⟨k1,k2,rfl,k3⟩ | ⟨k1,k2,k4,rfl,k3⟩ | ⟨k1,k2,gen',ds',k4,b,ps,v,rfl,k5,k6,k7,k8,k3⟩)
 · rcases hb with ⟨_,rfl,rfl,rfl⟩ | ⟨j,_⟩ | ⟨j,_⟩ | ⟨j,_⟩
   · exact ⟨w.heap.size,none,[],0,0,rfl,rfl,rfl,.nil _ _ _,(fun l h=>by cases h),Nat.le_refl _,k3⟩
   all_goals exact absurd j k1
 · rcases hb with ⟨j,_⟩ | ⟨_,_,rfl,rfl,rfl⟩ | ⟨_,j,_⟩ | ⟨_,j,_⟩
   · exact absurd k1 j
   · exact ⟨w.heap.size,none,[],0,0,rfl,rfl,rfl,.nil _ _ _,(fun l h=>by cases h),Nat.le_refl _,k3⟩
   all_goals (rw [k2] at j;cases j)
 · rcases hb with ⟨j,_⟩ | ⟨_,j,_⟩ | ⟨_,_,_,rfl,rfl,rfl⟩ | ⟨_,_,_,j,_⟩
   · exact absurd k1 j
   · rw [k2] at j;cases j
   · exact ⟨w.heap.size,none,[],0,0,rfl,rfl,rfl,.nil _ _ _,(fun l h=>by cases h),Nat.le_refl _,k3⟩
   · rw [k4] at j;cases j
 · rcases hb with ⟨j,_⟩ | ⟨_,j,_⟩ | ⟨_,_,j,_⟩ | ⟨_,_,gen2,j,rfl,rfl⟩
   · exact absurd k1 j
   · rw [k2] at j;cases j
   · rw [k4] at j;cases j
   · rw [k4] at j
     injection j with j
     injection j with j1 j2
     subst j1 j2
     obtain ⟨A,c,hv⟩:=k8.form
     subst hv
     exact ⟨b,A,ps,ps.length,c,rfl,rfl,k5,k8.mono (fun x hx=> .inl (.inr hx)),(fun l h=>by injection h with h;rw [<-h];exact k7),k6,k3⟩
theorem ropen_none {w:World} {r:Nat} {G:Nat->Prop} {s:Dsk} {f N E:Int} (h:RefAt w r G s) (hb:OpTo s f N E none []):
 Calls Tryz.prog 45 #[.pointer (some ⟨r,0,none⟩),.int .i64 f,.int .i64 N] w fun e w'=>∃ A n c,e= .returned (.tuple #[.pointer none,.slice A n c,.int .i64 E])/\Below w.heap.size w w':=by
 refine (ropen_recs h hb).mono ?_
 rintro e w' ⟨b,A,ps,n,c,rfl,_,_,_,_,_,h5⟩
 exact ⟨A,n,c,rfl,h5⟩
theorem ropen_some {w:World} {r:Nat} {G:Nat->Prop} {s:Dsk} {f N E:Int} {l:Lg} {ds:List (List UInt8)} (h:RefAt w r G s) (hb:OpTo s f N E (some l) ds):
 Calls Tryz.prog 45 #[.pointer (some ⟨r,0,none⟩),.int .i64 f,.int .i64 N] w fun e w'=>∃ b A ps n c,e= .returned (.tuple #[.pointer (some ⟨b,0,none⟩),.slice A n c,.int .i64 E])/\ps.length=n/\bytesOf ps=ds/\RecsAt w' 22 (fun x=>x<w.heap.size) ps (.slice A n c)/\Blk w' b (lgCells r l) 102/\w.heap.size<=b/\Below w.heap.size w w':=by
 refine (ropen_recs h hb).mono ?_
 rintro e w' ⟨b,A,ps,n,c,rfl,h1,h2,h3,h4,h5,h6⟩
 exact ⟨b,A,ps,n,c,rfl,h1,h2,h3,h4 l rfl,h5,h6⟩
def ROMid (w wr:World) (r gm q:Nat) (lo:Option Lg) (a:Nat) (v:Value) (ds:List (List UInt8)):Prop:=
 Below w.heap.size w wr/\∃ bq A ps n c,v= .slice A n c/\Blk wr q [.pointer (some ⟨r,0,none⟩),lp lo bq,.int .i64 (a:Int),.pointer (some ⟨gm,0,none⟩),.bool false] 98/\(∀ l,lo=some l->Blk wr bq (lgCells r l) 102/\q<bq)/\Blk wr gm [.int .i64 1000000000,.slice none 0 0] 119/\ps.length=n/\bytesOf ps=ds/\RecsAt wr 22 (fun x=>x<=q) ps (.slice A n c)
theorem ROMid.still {w wr w':World} {r gm q:Nat} {lo:Option Lg} {a:Nat} {v:Value} {ds:List (List UInt8)} (h:ROMid w wr r gm q lo a v ds) (hb:Below wr.heap.size wr w'):ROMid w w' r gm q lo a v ds:=by
 obtain ⟨h1,bq,A,ps,n,c,h2,h3,h4,h5,h6,h7,h8⟩:=h
 exact ⟨hop h1 hb,bq,A,ps,n,c,h2,h3.below hb h3.lt,fun l e=>⟨(h4 l e).1.below hb (h4 l e).1.lt,(h4 l e).2⟩,h5.below hb h5.lt,h6,h7,h8.still hb⟩
theorem ROMid.take {w wr w1 w':World} {r gm q:Nat} {lo:Option Lg} {a a':Nat} {v:Value} {ds ds':List (List UInt8)} {l:Lg} {b:Nat} {A:Option Addr} {ps:List Piece} {n c:Nat} (h:ROMid w wr r gm q lo a v ds) (hq:w.heap.size<=q) (hg:gm<q) (hb1:Below wr.heap.size wr w1) (hl:Blk w1 b (lgCells r l) 102) (hbz:wr.heap.size<=b) (hn:ps.length=n) (hds:bytesOf ps=ds') (hr:RecsAt w1 22 (fun x=>x<wr.heap.size) ps (.slice A n c))
 (hw:w'=(w1.setCell ⟨q,1,none⟩ (.pointer (some ⟨b,0,none⟩))).setCell ⟨q,2,none⟩ (.int .i64 (a':Int))):ROMid w w' r gm q (some l) a' (.slice A n c) ds':=by
 obtain ⟨h1,bq,A0,ps0,n0,c0,h2,h3,h4,h5,h6,h7,h8⟩:=(h.still hb1)
 have hs0:Spared w1 (w1.setCell ⟨q,1,none⟩ (.pointer (some ⟨b,0,none⟩))) (· =q):=Spared.setCell (F:=(· =q)) (.refl w1 _) rfl 1 _
 have hs:Spared w1 w' (· =q):=by
  rw [hw]
  exact hs0.trans (Spared.setCell (F:=(· =q)) (.refl _ _) rfl 2 _) (fun _ h=> .inl h)
 have hqw:q<wr.heap.size:=by
  obtain ⟨_,_,_,_,_,_,_,k3,_⟩:=h
  exact k3.lt
 refine ⟨hs.below h1 (fun x hx=>by omega),b,A,ps,n,c,rfl,?_,fun l' e=> ?_,?_,hn,hds,?_⟩
 · rw [hw]
   exact (h3.set 1 (.pointer (some ⟨b,0,none⟩))).set 2 (.int .i64 (a':Int))
 · injection e with e
   subst e
   exact ⟨hs.blk hl (by omega),by omega⟩
 · exact hs.blk h5 (by omega)
 · exact (hr.mono (fun x (hx:x<=q)=>by show x<_;omega)).moved (hs.mono (fun x hx=>by show x<=q;omega)) (fun _ h=> .inl h)
theorem ROMid.taken {w wr w1 w':World} {r gm q:Nat} {lo:Option Lg} {a a' nq:Nat} {v:Value} {ds ds':List (List UInt8)} {l:Lg} {b:Nat} {A:Option Addr} {ps:List Piece} {n c:Nat} (h:ROMid w wr r gm q lo a v ds) (hq:w.heap.size<=q) (hg:gm<q) (hb1:Below wr.heap.size wr w1) (hl:Blk w1 b (lgCells r l) 102) (hbz:wr.heap.size<=b) (hn:ps.length=n) (hds:bytesOf ps=ds') (hr:RecsAt w1 22 (fun x=>x<wr.heap.size) ps (.slice A n c))
 (hw:w'=((w1.drewN nq).setCell ⟨q,1,none⟩ (.pointer (some ⟨b,0,none⟩))).setCell ⟨q,2,none⟩ (.int .i64 (a':Int))):ROMid w w' r gm q (some l) a' (.slice A n c) ds':=
 have hb:=below_drewN (Below.refl w1.heap.size w1) nq
 h.take hq hg (hop hb1 hb) (hl.below hb hl.lt) hbz hn hds (hr.still hb) hw
def RFirst (s:Dsk) (h:Nat) (lo:Option Lg) (a:Nat) (ds:List (List UInt8)):Prop:=
 (openL (s.bytes 0 h)=none/\lo=none/\a=0/\ds=[])\/∃ g,openL (s.bytes 0 h)=some (g,ds)/\lo=some (kvLog h 0 g ds)/\a=0
def RPick (s:Dsk) (h:Nat) (lo:Option Lg) (a:Nat) (ds:List (List UInt8)):Prop:=
 (pickL h s=none/\lo=none/\a=0/\ds=[])\/∃ g,pickL h s=some (a,g,ds)/\lo=some (kvLog h a g ds)/\a<=1
def ROpened (w:World) (T:Nat->Prop) (r:Nat) (G:Nat->Prop) (h:Nat) (s:Dsk) (e:Ending) (w':World):Prop:=
 ((openK h s).2.2=none/\e= .returned (.tuple #[.pointer none,.int .i64 (openK h s).1])/\∃ G',RefAt w' r G' (openK h s).2.1/\Spared w w' G/\∀ x,G' x->G x\/w.heap.size<=x)\/
 (∃ (k:KvS) (T':Nat->Prop) (q b gm:Nat) (G':Nat->Prop),(openK h s).2.2=some k/\e= .returned (.tuple #[.pointer (some ⟨q,0,none⟩),.int .i64 (openK h s).1])/\RSt w' T' q r b gm G' h (openK h s).2.1 k/\Spared w w' G/\(∀ x,T x->T' x)/\(∀ x,T' x->T x\/w.heap.size<=x)/\∀ x,(G' x\/x=b\/x=q\/x=gm)->G x\/w.heap.size<=x)
theorem ROpened.make {w W:World} {T:Nat->Prop} {r h q b gm:Nat} {G G':Nat->Prop} {s t:Dsk} {k:KvS} (hopen:openK h s=(0,t,some k)) (hT:∀ x,T x->x<w.heap.size) (hG:∀ x,G x->T x) (hsp:Spared w W G) (hd:RefAt W r G' t) (hG':∀ x,G' x->G x\/w.heap.size<=x) (hl:Blk W b (lgCells r k.lg) 102) (hx:Blk W q (rsCells r b gm k.a k.down) 98) (hm:MapAt W (fun x=>T x\/G' x\/x=q\/x=b\/x=gm) gm 1000000000 k.L)
 (hq:w.heap.size<=q) (hb:w.heap.size<=b) (hgm:w.heap.size<=gm) (nq: ¬ G' q) (nb: ¬ G' b) (nm: ¬ G' gm) (bq:b≠q) (bm:b≠gm) (qm:q≠gm) (fits:k.Fits h t) (half:h=t.K.length/2):ROpened w T r G h s (.returned (.tuple #[.pointer (some ⟨q,0,none⟩),.int .i64 0])) W:=by
 have hxl:=hx.lt
 refine .inr ⟨k,fun x=>T x\/G' x\/x=q\/x=b\/x=gm,q,b,gm,G',by rw [hopen],by rw [hopen],?_,hsp,fun x hx=> .inl hx,fun x hx=> ?_,fun x hx=> ?_⟩
 · rw [hopen]
   refine ⟨hd,hl,hx,hm,fun x hx=> ?_,fun x hx=> ?_,nb,nq,nm,bq,bm,qm,fits,half⟩
   · rcases hx with hx | hx | hx | hx
     · exact .inr (.inl hx)
     · exact .inr (.inr (.inr (.inl hx)))
     · exact .inr (.inr (.inl hx))
     · exact .inr (.inr (.inr (.inr hx)))
   · rcases hx with hx | hx | hx | hx | hx
     · exact Nat.lt_of_lt_of_le (hT x hx) hsp.size
     · exact hd.lt x hx
     · rw [hx];exact hxl
     · rw [hx];exact hl.lt
     · rw [hx];exact hm.lt
 · rcases hx with hx | hx | hx | hx | hx
   · exact .inl hx
   · exact (hG' x hx).imp (hG x) id
   · exact .inr (by omega)
   · exact .inr (by omega)
   · exact .inr (by omega)
 · rcases hx with hx | hx | hx | hx
   · exact hG' x hx
   · exact .inr (by omega)
   · exact .inr (by omega)
   · exact .inr (by omega)
set_option maxRecDepth 100000 in
set_option maxHeartbeats 4000000 in
theorem ropen_any (w:World) (T:Nat->Prop) (hT:∀ x,T x->x<w.heap.size) (r:Nat) (G:Nat->Prop) (hG:∀ x,G x->T x) (s:Dsk) (h m:Nat) (hd:RefAt w r G s) (hh:h=s.K.length/2) (hK:s.K.length<=3000) (hf:s.Few m) (hm:m<=700000):
 Calls Tryz.prog 14 #[.pointer (some ⟨r,0,none⟩)] w (ROpened w T r G h s):=by
 have HD:=Lib.hid hd
 have HT:=Lib.hid hT
 have HGT:=Lib.hid hG
 have HH:=Lib.hid hh
 have HFW:=Lib.hid hf
 have HMM:=Lib.hid hm
 have hdisk:=hd
 obtain ⟨vK,vM,PK,PM,armed,left,hrin⟩:=hdisk
 obtain ⟨⟨A0,c0,rfl,_⟩,_⟩:=hrin.forms
 have y0:=hrin.cells.1
 have hh4:h<=1500:=by omega
 have hfit2:h+h<=s.K.length:=by omega
 have HFIT2:=Lib.hid hfit2
 obtain ⟨N,hN⟩:∃ N,N=s.K.length:=⟨_,rfl⟩
 rw [<-hN] at y0 hh
 have hdiv:(N:Int)/2=(h:Int):=by omega
 clear hrin hd hT hG hf hm hK hN hh hfit2
 have HEM:=Lib.hid (rempty_any w)
 by_cases h1:h<1
 · have HO:Hid (openK h s=(1,s,none)):=if_pos h1
   have d1:(h:Int)<1:=by omega
   have d1':decide ((h:Int)<1)=true:=decide_eq_true d1
   go_enter Tryz.func14,Tryz.ntmps14
   go_wp2_with fail
   go_ret2
   exact .inl ⟨by rw [HO.out],by rw [HO.out];rfl,G,by rw [HO.out];exact HD.out,.refl _ _,fun x hx=> .inl hx⟩
 have h1':1<=h:=by omega
 have d1: ¬ (h:Int)<1:=by omega
 have d1':decide ((h:Int)<1)=false:=decide_eq_false d1
 go_enter Tryz.func14,Tryz.ntmps14
 go_wp2_with fail
 with_reducible refine HEM.out.mono ?_
 rintro e w1 ⟨rfl,hw1⟩
 go_wp2_with fail
 generalize hw2:(w.alloc _).alloc _=w2
 have hmid0:ROMid w w2 r w.heap.size (w.heap.size+1) none 0 (.slice none 0 0) []:=by
  have hb1:Below w.heap.size w w1:=by rw [hw1];exact (Below.refl _ _).alloc (Nat.le_refl _) _
  have hb2:Below w1.heap.size w1 w2:=by rw [<-hw2,<-hw1];exact (Below.refl _ _).alloc (Nat.le_refl _) _
  have hm1:Blk w1 w.heap.size [.int .i64 1000000000,.slice none 0 0] 119:=by rw [hw1];exact Blk.new _ _ _
  have hz:w1.heap.size=w.heap.size+1:=by rw [hw1];simp
  refine ⟨hop hb1 hb2,0,none,[],0,0,rfl,?_,(fun l e=>by cases e),hm1.below hb2 hm1.lt,rfl,rfl,.nil _ _ _⟩
  rw [<-hw2,<-hw1,<-hz]
  exact Blk.new _ _ _
 have HMID0:=Lib.hid hmid0
 clear hmid0 hw1
 obtain ⟨q,hq⟩:∃ q,q=w.heap.size+1:=⟨_,rfl⟩
 rw [<-hq] at HMID0 ⊢
 obtain ⟨gm,hgm⟩:∃ gm,gm=w.heap.size:=⟨_,rfl⟩
 rw [<-hgm] at HMID0 hq ⊢
 have HGM:Hid (w.heap.size=gm):=hgm.symm
 have HQ:Hid (q=gm+1):=hq
 clear hw2 hq hgm HEM y0
 go_loopw [6,7] (fun v x wr=>∃ (k:Nat) (lo:Option Lg) (a:Nat) (ds:List (List UInt8)),x= .int .i64 (k:Int)/\ROMid w wr r gm q lo a v ds/\((k=0/\lo=none/\a=0/\ds=[])\/(k=1/\s.off=false/\RFirst s h lo a ds)\/(k=2/\s.off=false/\RPick s h lo a ds))) (fun _ x _=>2-(intOf x).toNat)
 case atStart=>exact ⟨0,none,0,[],rfl,HMID0.out,.inl ⟨rfl,rfl,rfl,rfl⟩⟩
 case round=>
  rename World=>wr
  obtain ⟨k,lo,a,ds,rfl,hmid,hst⟩:=hrel
  have HMID:=Lib.hid hmid
  have hw0:IntKind.i64.wrap (0*(h:Int))=0:=by rw [Int.zero_mul];decide
  have hw1:IntKind.i64.wrap (1*(h:Int))=(h:Int):=by rw [Int.one_mul,IntKind.wrap_i64];omega
  rcases hst with ⟨rfl,rfl,rfl,rfl⟩ | ⟨rfl,hoff,hfst⟩ | ⟨rfl,hoff,hpk⟩
  · have HDR:=Lib.hid (HD.out.still HMID.out.1)
    by_cases ho:s.off=true
    · have HO:Hid (openK h s=(5,s,none)):=open_off h1' ho
      have HOP:=Lib.hid (ropen_none HDR.out (f:=0) (N:=(h:Int)) (.inr (.inl ⟨(on_first h1' HFIT2.out).1,ho,rfl,rfl,rfl⟩)))
      clear hmid ho
      go_wp2_with fail
      with_reducible refine HOP.out.mono ?_
      rintro e w5 ⟨A5,n5,c5,rfl,hb5⟩
      have B5:=Lib.hid (hop HMID.out.1 hb5)
      clear hb5
      go_wp2_with fail
      go_ret2
      exact .inl ⟨by rw [HO.out],by rw [HO.out];rfl,G,by rw [HO.out];exact HD.out.still B5.out,.of_below B5.out _,fun x hx=> .inl hx⟩
    · have ho:s.off=false:=by simpa using ho
      have HOFF:=Lib.hid ho
      have hblk:=HMID.out.2
      obtain ⟨bq,A9,ps9,n9,c9,rfl,hblk,_⟩:=hblk
      have hwi:IntKind.i64.wrap (0+1)=1:=by decide
      rcases hX:openL (s.bytes 0 h) with _ | ⟨g0,d0⟩
      · have HX:=Lib.hid hX
        have HOP:=Lib.hid (ropen_none HDR.out (f:=0) (N:=(h:Int)) (.inr (.inr (.inl ⟨(on_first h1' HFIT2.out).1,ho,hX,rfl,rfl,rfl⟩))))
        clear hmid hblk ho hX
        go_wp2_with fail
        with_reducible refine HOP.out.mono ?_
        rintro e w5 ⟨A5,n5,c5,rfl,hb5⟩
        have HM5:=Lib.hid (HMID.out.still hb5)
        clear hb5 HOP
        go_wp2_with fail
        go_quiet (fail)
        go_wp2_with fail
        go_roundw
        case rel=>exact ⟨1,none,0,[],by go_num,HM5.out.still (below_drewN (Below.refl _ _) _),.inr (.inl ⟨rfl,HOFF.out,.inl ⟨HX.out,rfl,rfl,rfl⟩⟩)⟩
        case measure=>simp [intOf]
      · have HX:=Lib.hid hX
        have HOP:=Lib.hid (ropen_some HDR.out (f:=0) (N:=(h:Int)) (.inr (.inr (.inr ⟨(on_first h1' HFIT2.out).1,ho,g0,hX,rfl,rfl⟩))))
        have HBK:=Lib.hid hblk
        clear hmid hblk ho hX
        go_wp2_with fail
        with_reducible refine HOP.out.mono ?_
        rintro e w5 ⟨b5,A5,ps5,n5,c5,rfl,hn5,hd5,hr5,hl5,hz5,hb5⟩
        have hbk5:=HBK.out.below hb5 HBK.out.lt
        have y1:w5.cell? ⟨q,1,none⟩=some (.pointer none):=hbk5.cell (i:=1) (by simp)
        have y2:w5.cell? ⟨q,2,none⟩=some (.int .i64 0):=hbk5.cell (i:=2) (by simp)
        have f1:=hbk5.free 1
        have f2:=hbk5.free 2
        have HT5:=Lib.hid (fun w' nq hw=>HMID.out.taken (a':=0) (nq:=nq) (w':=w') (by have:=HQ.out;have:=HGM.out;omega) (by have:=HQ.out;omega) hb5 hl5 hz5 hn5 hd5 hr5 hw)
        clear hn5 hd5 hr5 hl5 hz5 hb5 hbk5 HOP HBK
        go_wp2_with fail
        go_quiet (fail)
        go_wp2_with fail
        go_roundw
        case rel=>exact ⟨1,_,0,d0,by go_num,HT5.out _ _ rfl,.inr (.inl ⟨rfl,HOFF.out,.inr ⟨g0,HX.out,by unfold kvLog;rw [Nat.zero_mul];rfl,rfl⟩⟩)⟩
        case measure=>simp [intOf]
  · have HDR:=Lib.hid (HD.out.still HMID.out.1)
    have HOFF:=Lib.hid hoff
    have hblk:=HMID.out.2
    obtain ⟨bq,A9,ps9,n9,c9,rfl,hblk,hlg9,_⟩:=hblk
    have hwi:IntKind.i64.wrap (1+1)=2:=by decide
    have hon:=Lib.hid (on_first h1' HFIT2.out).2
    rcases hfst with ⟨hX,rfl,rfl,rfl⟩ | ⟨g0,hX,rfl,rfl⟩
    · clear hlg9
      rcases hY:openL (s.bytes h h) with _ | ⟨g1,d1⟩
      · have HPK:Hid (RPick s h none 0 []):= .inl ⟨by unfold pickL;rw [hX,hY],rfl,rfl,rfl⟩
        have HOP:=Lib.hid (ropen_none HDR.out (f:=(h:Int)) (N:=(h:Int)) (.inr (.inr (.inl ⟨hon.out,hoff,hY,rfl,rfl,rfl⟩))))
        clear hmid hblk hoff hX hY
        go_wp2_with fail
        with_reducible refine HOP.out.mono ?_
        rintro e w5 ⟨A5,n5,c5,rfl,hb5⟩
        have HM5:=Lib.hid (HMID.out.still hb5)
        clear hb5 HOP
        go_wp2_with fail
        go_quiet (fail)
        go_wp2_with fail
        go_roundw
        case rel=>exact ⟨2,_,_,_,by go_num,HM5.out.still (below_drewN (Below.refl _ _) _),.inr (.inr ⟨rfl,HOFF.out,HPK.out⟩)⟩
        case measure=>simp [intOf]
      · have HPK:Hid (RPick s h (some (Lg.found h h g1 d1)) 1 d1):= .inr ⟨g1,by unfold pickL;rw [hX,hY],by unfold kvLog;rw [Nat.one_mul],Nat.le_refl _⟩
        have HOP:=Lib.hid (ropen_some HDR.out (f:=(h:Int)) (N:=(h:Int)) (.inr (.inr (.inr ⟨hon.out,hoff,g1,hY,rfl,rfl⟩))))
        have HBK:=Lib.hid hblk
        clear hmid hblk hoff hX hY
        go_wp2_with fail
        with_reducible refine HOP.out.mono ?_
        rintro e w5 ⟨b5,A5,ps5,n5,c5,rfl,hn5,hd5,hr5,hl5,hz5,hb5⟩
        have hbk5:=HBK.out.below hb5 HBK.out.lt
        have y1:w5.cell? ⟨q,1,none⟩=some (.pointer none):=hbk5.cell (i:=1) (by simp)
        have y2:w5.cell? ⟨q,2,none⟩=some (.int .i64 0):=hbk5.cell (i:=2) (by simp)
        have f1:=hbk5.free 1
        have f2:=hbk5.free 2
        have HT5:=Lib.hid (fun w' nq hw=>HMID.out.taken (a':=1) (nq:=nq) (w':=w') (by have:=HQ.out;have:=HGM.out;omega) (by have:=HQ.out;omega) hb5 hl5 hz5 hn5 hd5 hr5 hw)
        have HS5:=Lib.hid (HMID.out.still hb5)
        clear hn5 hd5 hr5 hl5 hz5 hb5 hbk5 HOP HBK
        go_wp2_with fail
        go_quiet (fail)
        go_wp2_with fail
        go_roundw
        case rel=>exact ⟨2,_,1,d1,by go_num,HT5.out _ _ rfl,.inr (.inr ⟨rfl,HOFF.out,HPK.out⟩)⟩
        case measure=>simp [intOf]
    · have HLG:=Lib.hid (hlg9 _ rfl).1
      clear hlg9
      rcases hY:openL (s.bytes h h) with _ | ⟨g1,d1⟩
      · have HPK:Hid (RPick s h (some (kvLog h 0 g0 ds)) 0 ds):= .inr ⟨g0,by unfold pickL;rw [hX,hY],rfl,Nat.zero_le _⟩
        have HOP:=Lib.hid (ropen_none HDR.out (f:=(h:Int)) (N:=(h:Int)) (.inr (.inr (.inl ⟨hon.out,hoff,hY,rfl,rfl,rfl⟩))))
        clear hmid hblk hoff hX hY
        go_wp2_with fail
        with_reducible refine HOP.out.mono ?_
        rintro e w5 ⟨A5,n5,c5,rfl,hb5⟩
        have HM5:=Lib.hid (HMID.out.still hb5)
        clear hb5 HOP
        go_wp2_with fail
        go_quiet (fail)
        go_wp2_with fail
        go_roundw
        case rel=>exact ⟨2,_,_,_,by go_num,HM5.out.still (below_drewN (Below.refl _ _) _),.inr (.inr ⟨rfl,HOFF.out,HPK.out⟩)⟩
        case measure=>simp [intOf]
      · have HOP:=Lib.hid (ropen_some HDR.out (f:=(h:Int)) (N:=(h:Int)) (.inr (.inr (.inr ⟨hon.out,hoff,g1,hY,rfl,rfl⟩))))
        have HBK:=Lib.hid hblk
        by_cases hgg:g0<g1
        · have HPK:Hid (RPick s h (some (Lg.found h h g1 d1)) 1 d1):= .inr ⟨g1,by unfold pickL;rw [hX,hY];exact if_pos hgg,by unfold kvLog;rw [Nat.one_mul],Nat.le_refl _⟩
          have hgd:decide (g0<g1)=true:=decide_eq_true hgg
          clear hmid hblk hoff hX hY
          go_wp2_with fail
          with_reducible refine HOP.out.mono ?_
          rintro e w5 ⟨b5,A5,ps5,n5,c5,rfl,hn5,hd5,hr5,hl5,hz5,hb5⟩
          have hbk5:=HBK.out.below hb5 HBK.out.lt
          have y1:w5.cell? ⟨q,1,none⟩=some (.pointer (some ⟨bq,0,none⟩)):=hbk5.cell (i:=1) (by simp)
          have y2:w5.cell? ⟨q,2,none⟩=some (.int .i64 0):=hbk5.cell (i:=2) (by simp)
          have f1:=hbk5.free 1
          have f2:=hbk5.free 2
          have y3:w5.cell? ⟨bq,3,none⟩=some (.int .i64 g0):=(HLG.out.below hb5 HLG.out.lt).cell (i:=3) (by simp [lgCells])
          have y4:w5.cell? ⟨b5,3,none⟩=some (.int .i64 g1):=hl5.cell (i:=3) (by simp [lgCells])
          have HT5:=Lib.hid (fun w' nq hw=>HMID.out.taken (a':=1) (nq:=nq) (w':=w') (by have:=HQ.out;have:=HGM.out;omega) (by have:=HQ.out;omega) hb5 hl5 hz5 hn5 hd5 hr5 hw)
          have HS5:=Lib.hid (HMID.out.still hb5)
          clear hn5 hd5 hr5 hl5 hz5 hb5 hbk5 HOP HBK
          go_wp2_with fail
          go_quiet (fail)
          go_wp2_with fail
          go_roundw
          case rel=>exact ⟨2,_,1,d1,by go_num,HT5.out _ _ rfl,.inr (.inr ⟨rfl,HOFF.out,HPK.out⟩)⟩
          case measure=>simp [intOf]
        · have HPK:Hid (RPick s h (some (kvLog h 0 g0 ds)) 0 ds):= .inr ⟨g0,by unfold pickL;rw [hX,hY];exact if_neg hgg,rfl,Nat.zero_le _⟩
          have hgd:decide (g0<g1)=false:=decide_eq_false hgg
          clear hmid hblk hoff hX hY hgg
          go_wp2_with fail
          with_reducible refine HOP.out.mono ?_
          rintro e w5 ⟨b5,A5,ps5,n5,c5,rfl,hn5,hd5,hr5,hl5,hz5,hb5⟩
          have hbk5:=HBK.out.below hb5 HBK.out.lt
          have y1:w5.cell? ⟨q,1,none⟩=some (.pointer (some ⟨bq,0,none⟩)):=hbk5.cell (i:=1) (by simp)
          have y2:w5.cell? ⟨q,2,none⟩=some (.int .i64 0):=hbk5.cell (i:=2) (by simp)
          have f1:=hbk5.free 1
          have f2:=hbk5.free 2
          have y3:w5.cell? ⟨bq,3,none⟩=some (.int .i64 g0):=(HLG.out.below hb5 HLG.out.lt).cell (i:=3) (by simp [lgCells])
          have y4:w5.cell? ⟨b5,3,none⟩=some (.int .i64 g1):=hl5.cell (i:=3) (by simp [lgCells])
          have HT5:=Lib.hid (fun w' nq hw=>HMID.out.taken (a':=1) (nq:=nq) (w':=w') (by have:=HQ.out;have:=HGM.out;omega) (by have:=HQ.out;omega) hb5 hl5 hz5 hn5 hd5 hr5 hw)
          have HS5:=Lib.hid (HMID.out.still hb5)
          clear hn5 hd5 hr5 hl5 hz5 hb5 hbk5 HOP HBK
          go_wp2_with fail
          go_quiet (fail)
          go_wp2_with fail
          go_roundw
          case rel=>exact ⟨2,_,0,ds,by go_num,HS5.out.still (below_drewN (Below.refl _ _) _),.inr (.inr ⟨rfl,HOFF.out,HPK.out⟩)⟩
          case measure=>simp [intOf]
  · rw [show ((2:Nat):Int)=(2:Int) from rfl]
    obtain ⟨hbw,bq,A9,ps,n9,c9,rfl,hblk,hlg,hgb,hn9,hds9,hrec⟩:=HMID.out
    have hgq:=HQ.out
    have hgm:=HGM.out
    have hGw:∀ x,G x->x<w.heap.size:=fun x hx=>HT.out x (HGT.out x hx)
    have HGW:=Lib.hid hGw
    have HOFF:=Lib.hid hoff
    have BW:=Lib.hid hbw
    have HBK:=Lib.hid hblk
    have HGB:=Lib.hid hgb
    have lq:=hblk.lt
    rcases hpk with ⟨hpn,rfl,rfl,rfl⟩ | ⟨g0,hpn,rfl,ha1⟩
    · obtain ⟨E,hE⟩:∃ E,E=(Lg.new 0 h 1).err s (batchL []):=⟨_,rfl⟩
      obtain ⟨s',hs'⟩:∃ s',s'=(Lg.new 0 h 1).dsk s (batchL []):=⟨_,rfl⟩
      obtain ⟨lg',hlg'⟩:∃ lg',lg'=(Lg.new 0 h 1).next s (batchL []):=⟨_,rfl⟩
      have HO:Hid (openK h s=(E,s',if E=0 then some ⟨0,lg',[],false⟩ else none)):=by
       show _=_
       unfold openK
       rw [if_neg (by omega),if_neg (by rw [HOFF.out];decide),hpn,hE,hs',hlg']
      have hon:OnDisk s ((0:Nat):Int) (h:Int)/\(1:Int)<=1/\(1:Int)<=1152921504606846976:=⟨(on_first h1' HFIT2.out).1,by decide,by decide⟩
      have hbg:BgTo s 0 (h:Int) 1 (batchL (allP [])) E s' (if E=0 then some lg' else none):=by
       by_cases h0:E=0
       · rw [if_pos h0]
         refine .inr (.inr ⟨hon,?_,h0,hs',by rw [hlg'];rfl⟩)
         rw [hE] at h0
         exact h0
       · rw [if_neg h0]
         refine .inr (.inl ⟨hon,?_,hE,hs',rfl⟩)
         rw [hE] at h0
         exact h0
      have HFIT:Hid (E=0->lg'.Fits s'):=fun h0=>by rw [hlg',hs'];exact (new_fits hon).next.1
      have HLEN:Hid (s'.K.length=s.K.length):=by show _=_;rw [hs'];exact ((new_fits hon).next (d:=batchL [])).2.2
      have hmap:MapAt wr (fun x=>x=gm) gm 1000000000 []:=⟨rfl,Srt.nil,Nat.zero_le _,none,0,[],rfl,hgb,.inl rfl,Nat.le_refl _,fun x hx=>by cases hx⟩
      have HALL:=Lib.hid (rall_any wr _ gm 1000000000 [] hmap (by decide +kernel))
      have y1:wr.cell? ⟨q,1,none⟩=some (.pointer none):=hblk.cell (i:=1) (by simp)
      have y3:wr.cell? ⟨q,3,none⟩=some (.pointer (some ⟨gm,0,none⟩)):=hblk.cell (i:=3) (by simp)
      clear hmid hblk hlg hgb hn9 hds9 hrec hoff hpn hE hs' hlg' hon hmap hbw hGw hgq hgm lq
      by_cases hE0:E=0
      · subst hE0
        rw [if_pos rfl] at hbg
        have HO0:Hid (openK h s=(0,s',some ⟨0,lg',[],false⟩)):=by show _=_;rw [HO.out,if_pos rfl]
        have HFIT0:=Lib.hid (HFIT.out rfl)
        clear HO HFIT
        have HBEG:Hid (∀ W A n c,MadeN 5 wr (batchL (allP [])) A n c W->Calls Tryz.prog 46 #[.pointer (some ⟨r,0,none⟩),.int .i64 0,.int .i64 (h:Int),.int .i64 1,.slice A n c] W fun e w'=>∃ (b:Nat) (G':Nat->Prop),e= .returned (.tuple #[.pointer (some ⟨b,0,none⟩),.int .i64 0])/\RefAt w' r G' s'/\Blk w' b (lgCells r lg') 102/\ ¬ G' b/\wr.heap.size<=b/\Spared wr w' G/\∀ k,G' k->G k\/wr.heap.size<=k):=fun W A n c hm=>by
         obtain ⟨hn,hm⟩:=hm
         obtain ⟨A2,c2,hv,hsn⟩:=hm.form
         injection hv with e1 e2 e3
         subst e1
         have hbm:=hm.2
         have hz:=hbm.size
         refine (rbegin_to (HD.out.still (hop BW.out hbm)) hbg hsn hn (by rw [<-hn];exact Nat.le_trans (by decide +kernel:(batchL (allP [])).length<=100) (by decide)) HFW.out HMM.out).mono ?_
         rintro e w' ⟨b,G',rfl,h1,h2,h3,h4,h5⟩
         exact ⟨b,G',rfl,h1,(h2 _ rfl).1,(h2 _ rfl).2,Nat.le_trans hz h3,(Spared.of_below hbm G).trans h4 (fun _ h=> .inl h),fun k hk=>(h5 k hk).imp id (Nat.le_trans hz)⟩
        clear hbg
        go_wp2_with fail
        with_reducible refine HALL.out.mono ?_
        rintro e w5 ⟨A5,n5,c5,rfl,hm5⟩
        have HBE:=Lib.hid (HBEG.out w5 A5 n5 c5 hm5)
        clear hm5 HALL HBEG
        go_wp2_with fail
        with_reducible refine HBE.out.mono ?_
        rintro e w7 ⟨b7,G7,rfl,hr7,hl7,hnb7,hz7,hs7,hg7⟩
        have hqw:w.heap.size<=q:=by have:=HQ.out;have:=HGM.out;omega
        have hwz:=BW.out.size
        have hgq:gm<q:=by have:=HQ.out;omega
        have lq:=HBK.out.lt
        have hnq: ¬ G q:=fun hx=>by have:=HGW.out _ hx;omega
        have hng: ¬ G gm:=fun hx=>by have:=HGW.out _ hx;have:=HGM.out;omega
        have h7:∀ x,G7 x->x<w.heap.size\/wr.heap.size<=x:=fun x hx=>(hg7 x hx).imp (HGW.out x) id
        have hbk7:=hs7.blk HBK.out hnq
        have y1:w7.cell? ⟨q,1,none⟩=some (.pointer none):=hbk7.cell (i:=1) (by simp)
        have f1:=hbk7.free 1
        have HFIN:Hid (∀ W,W=w7.setCell ⟨q,1,none⟩ (.pointer (some ⟨b7,0,none⟩))->ROpened w T r G h s (.returned (.tuple #[.pointer (some ⟨q,0,none⟩),.int .i64 0])) W):=fun W hW=>by
         have hs78:Spared w7 W (· =q):=by rw [hW];exact Spared.setCell (F:=(· =q)) (.refl w7 _) rfl 1 _
         have hgm0:=HGM.out
         refine ROpened.make (k:=⟨0,lg',[],false⟩) (t:=s') (G':=G7) (b:=b7) (gm:=gm) HO0.out HT.out HGT.out (((Spared.of_below BW.out G).trans hs7 (fun _ h=> .inl h)).trans hs78 (fun x hx=> .inr (by omega))) (hr7.apart hs78 (fun x hx e=>by rcases h7 x hx with h | h<;>omega)) (fun x hx=>(hg7 x hx).imp id (Nat.le_trans hwz)) (hs78.blk hl7 (by omega)) ?_ ⟨.inr (.inr (.inr (.inr rfl))),Srt.nil,Nat.zero_le _,none,0,[],rfl,hs78.blk (hs7.blk HGB.out hng) (by omega),.inl rfl,Nat.le_refl _,fun x hx=>by cases hx⟩ hqw (by omega) (by omega) (fun hx=> ?_) hnb7 (fun hx=> ?_) (by omega) (by omega) (by omega) ⟨⟨h1',by rw [HLEN.out];exact HFIT2.out⟩,Nat.zero_le 1,HFIT0.out⟩ (by rw [HLEN.out];exact HH.out)
         · rw [hW]
           exact hbk7.set 1 (.pointer (some ⟨b7,0,none⟩))
         · rcases h7 _ hx with h | h<;>omega
         · rcases h7 _ hx with h | h<;>omega
        clear hqw hwz hgq lq hnq hng h7 hbk7 hr7 hl7 hnb7 hz7 hs7 hg7 HBE
        go_wp2_with fail
        go_ret2
        exact HFIN.out _ rfl
      · rw [if_neg hE0] at hbg
        have HE0:=Lib.hid hE0
        have HBEG:Hid (∀ W A n c,MadeN 5 wr (batchL (allP [])) A n c W->Calls Tryz.prog 46 #[.pointer (some ⟨r,0,none⟩),.int .i64 0,.int .i64 (h:Int),.int .i64 1,.slice A n c] W fun e w'=>∃ (G':Nat->Prop),e= .returned (.tuple #[.pointer none,.int .i64 E])/\RefAt w' r G' s'/\Spared wr w' G/\∀ k,G' k->G k\/wr.heap.size<=k):=fun W A n c hm=>by
         obtain ⟨hn,hm⟩:=hm
         obtain ⟨A2,c2,hv,hsn⟩:=hm.form
         injection hv with e1 e2 e3
         subst e1
         have hbm:=hm.2
         have hz:=hbm.size
         refine (rbegin_to (HD.out.still (hop BW.out hbm)) hbg hsn hn (by rw [<-hn];exact Nat.le_trans (by decide +kernel:(batchL (allP [])).length<=100) (by decide)) HFW.out HMM.out).mono ?_
         rintro e w' ⟨b,G',rfl,h1,h2,h3,h4,h5⟩
         exact ⟨G',rfl,h1,(Spared.of_below hbm G).trans h4 (fun _ h=> .inl h),fun k hk=>(h5 k hk).imp id (Nat.le_trans hz)⟩
        have e0:(E==0)=false:=by rw [beq_eq_false_iff_ne];exact hE0
        clear hbg hE0
        go_wp2_with fail
        with_reducible refine HALL.out.mono ?_
        rintro e w5 ⟨A5,n5,c5,rfl,hm5⟩
        have HBE:=Lib.hid (HBEG.out w5 A5 n5 c5 hm5)
        clear hm5 HALL HBEG
        go_wp2_with fail
        with_reducible refine HBE.out.mono ?_
        rintro e w7 ⟨G7,rfl,hr7,hs7,hg7⟩
        have R7:=Lib.hid hr7
        have S7:Hid (Spared w w7 G):=(Spared.of_below BW.out G).trans hs7 (fun _ h=> .inl h)
        have G7':Hid (∀ x,G7 x->G x\/w.heap.size<=x):=fun x hx=>(hg7 x hx).imp id (Nat.le_trans BW.out.size)
        clear hr7 hs7 hg7 HBE
        go_wp2_with fail
        go_ret2
        exact .inl ⟨by rw [HO.out];exact if_neg HE0.out,by rw [HO.out];rfl,G7,by rw [HO.out];exact R7.out,S7.out,G7'.out⟩
    · have hlb:=(hlg _ rfl).1
      have hqb:=(hlg _ rfl).2
      have lb:=hlb.lt
      have hwz:=hbw.size
      have y1:wr.cell? ⟨q,1,none⟩=some (.pointer (some ⟨bq,0,none⟩)):=hblk.cell (i:=1) (by simp)
      obtain ⟨D,hD⟩:∃ D,D=recsL ds []:=⟨_,rfl⟩
      have HON:Hid (D=none->openK h s=(3,s,none)):=fun hd=>by
       unfold openK
       rw [if_neg (by omega),if_neg (by rw [HOFF.out];decide),hpn]
       simp only
       rw [<-hD,hd]
      have HOS:Hid (∀ L,D=some L->openK h s=(0,s,some (kvAt h a g0 ds L))):=fun L hd=>by
       unfold openK
       rw [if_neg (by omega),if_neg (by rw [HOFF.out];decide),hpn]
       simp only
       rw [<-hD,hd]
      have hpo:=pick_open hpn
      have htf:=two_fits (a:=a) (h:=h) (N:=s.K.length) ha1 HFIT2.out
      have hz:sizeD ds<=99999:=by
       have h5:=open_size hpo
       rw [bytes_length HD.out.ok htf] at h5
       omega
      have hof:=(op_fits (f:=((a*h:Nat):Int)) (N:=(h:Int)) (E:=0) (lo:=some (kvLog h a g0 ds)) (ds:=ds) (.inr (.inr (.inr ⟨⟨by omega,by omega,by omega⟩,HOFF.out,g0,hpo,rfl,rfl⟩))) HD.out.ok)
      have HLF:Hid ((kvLog h a g0 ds).Fits s):=hof.1 _ rfl
      have hn26:n9<=262144:=by have h5:=hof.2;rw [<-hds9,length_bytesOf,hn9] at h5;exact h5
      have HA1:=Lib.hid ha1
      have HLB:=Lib.hid hlb
      have HREC:=Lib.hid hrec
      have HN9:=Lib.hid hn9
      have HSZ:Hid (w.heap.size<=gm/\gm<q/\q<bq/\bq<wr.heap.size/\w.heap.size<=wr.heap.size):=⟨by omega,by omega,by omega,by omega,by omega⟩
      have hinit:∃ (i gm':Nat) (L:List Kv),i<=n9/\Value.int .i64 0= .int .i64 (i:Int)/\Spared wr wr (· =q)/\Blk wr q [.pointer (some ⟨r,0,none⟩),.pointer (some ⟨bq,0,none⟩),.int .i64 (a:Int),.pointer (some ⟨gm',0,none⟩),.bool false] 98/\MapAt wr (fun y=>y<wr.heap.size\/y=gm') gm' 1000000000 L/\gm<=gm'/\gm'≠q/\gm'≠bq/\recsL (bytesOf (ps.drop i)) L=D/\L.length+sizeD (bytesOf (ps.drop i))<=99999/\sizeT L+sizeD (bytesOf (ps.drop i))<=99999:=
       ⟨0,gm,[],Nat.zero_le _,rfl,.refl _ _,hblk,⟨.inr rfl,Srt.nil,Nat.zero_le _,none,0,[],rfl,hgb,.inl rfl,Nat.le_refl _,fun x hx=>by cases hx⟩,Nat.le_refl _,by omega,by omega,by rw [List.drop_zero,hds9];exact hD.symm,by rw [List.drop_zero,hds9,List.length_nil];omega,by rw [List.drop_zero,hds9];have:sizeT ([]:List Kv)=0:=rfl;omega⟩
      have HINIT:=Lib.hid hinit
      clear hmid hblk hlg hgb hn9 hds9 hrec hoff hpn hbw hGw hgq hgm lq hlb hqb lb hwz hD hpo htf hz ha1 hinit hof
      go_wp2_with fail
      go_loopw [13] (fun x W=>∃ (i gm':Nat) (L:List Kv),i<=n9/\x= .int .i64 (i:Int)/\Spared wr W (· =q)/\Blk W q [.pointer (some ⟨r,0,none⟩),.pointer (some ⟨bq,0,none⟩),.int .i64 (a:Int),.pointer (some ⟨gm',0,none⟩),.bool false] 98/\MapAt W (fun y=>y<wr.heap.size\/y=gm') gm' 1000000000 L/\gm<=gm'/\gm'≠q/\gm'≠bq/\recsL (bytesOf (ps.drop i)) L=D/\L.length+sizeD (bytesOf (ps.drop i))<=99999/\sizeT L+sizeD (bytesOf (ps.drop i))<=99999) (fun x _=>n9-(intOf x).toNat)
      case atStart=>exact HINIT.out
      case round=>
       rename World=>wv
       obtain ⟨i,gk,L,hi,rfl,hsp,hbk,hmp,hg1,hg2,hg3,hrec,hl1,hl2⟩:=hrel
       have HSP:=Lib.hid hsp
       have HBV:=Lib.hid hbk
       have HMP:=Lib.hid hmp
       have HG:=Lib.hid hg1
       have HG2:Hid (gk≠q/\gk≠bq):=⟨hg2,hg3⟩
       have HRD:=Lib.hid hrec
       have HL1:=Lib.hid hl1
       have HL2:=Lib.hid hl2
       have BV:Hid (Below w.heap.size w wv):=hsp.below BW.out (fun x hx=>by have:=HSZ.out;omega)
       clear hsp hbk hmp hg1 hg2 hg3 hrec hl1 hl2 HINIT
       by_cases hlt:i<n9
       · have hkl:(i:Int)<(n9:Int):=by omega
         have hin:i<ps.length:=by rw [HN9.out];exact hlt
         have hsn:=(HREC.out.moved (HSP.out.mono (fun x hx=>by show x<=q;omega)) (fun _ h=> .inl h)).shown
         obtain ⟨b,off,rfl,hblt,hcell,hsn,hcp,hl9⟩:=hsn.at_ i hin
         have hdr:=bytesOf_drop hin
         obtain ⟨⟨X,d,cx⟩,hq⟩:∃ q,q=ps[i]:=⟨_,rfl⟩
         rw [<-hq] at hcell hsn hcp hdr
         change Seen wv X d at hsn
         change d.length<=cx at hcp
         change bytesOf (ps.drop i)=d::bytesOf (ps.drop (i+1)) at hdr
         change wv.cell? ⟨b,off+i,none⟩=some (.slice X d.length cx) at hcell
         have h1:=HL1.out
         have h2:=HL2.out
         have h3:=HRD.out
         rw [hdr,sizeD_cons] at h1 h2
         rw [hdr] at h3
         obtain ⟨m1,hm1⟩:∃ m,d.length=m:=⟨_,rfl⟩
         rw [hm1] at hcell hcp h1 h2
         have H1:=Lib.hid h1
         have H2:=Lib.hid h2
         have H3:=Lib.hid h3
         have HM1:=Lib.hid hm1
         have HP:=Lib.hid (refPuts_any X d m1 cx wv hm1 hsn hcp (by omega))
         have hwi:IntKind.i64.wrap ((i:Int)+1)=((i+1:Nat):Int):=by rw [IntKind.wrap_i64];omega
         clear hsn hcp hl9 hdr hq h1 h2 h3 hm1 hin hblt HL1 HL2 HRD
         go_wp2_with fail
         with_reducible refine HP.out.mono ?_
         rintro e w7 ⟨A7,n7,c7,pu,rfl,hn7,hps7,hv7,hb7⟩
         have HP7:=Lib.hid hps7
         have HN7:=Lib.hid hn7
         have HV7:=Lib.hid hv7
         have HB7:=Lib.hid hb7
         clear hps7 hn7 hv7 hb7 HP
         rcases hp:putsL d with _ | pl
         · have hD:D=none:=by rw [<-H3.out,recsL,hp]
           have he:errOf none=3:=rfl
           have HO3:Hid (openK h s=(3,s,none)):=HON.out hD
           have B7:Hid (Below w.heap.size w w7):=hop BV.out HB7.out
           rw [hp] at HV7
           clear hp hD HON HOS
           rw [he]
           go_wp2_with fail
           go_ret2
           exact .inl ⟨by rw [HO3.out],by rw [HO3.out];rfl,G,by rw [HO3.out];exact HD.out.still B7.out,.of_below B7.out _,fun x hx=> .inl hx⟩
         · have he:errOf (some pl)=0:=rfl
           have hv:valsOf pu=pl:=by rw [HV7.out,hp];rfl
           have hps:=putsL_size hp
           have hl:pl.length=n7:=by rw [<-hv,valsOf_length,HN7.out]
           have hpsz:n7<=m1/\sizeP (valsOf pu)<=m1:=by rw [hv,<-hl,<-HM1.out];exact hps
           have h3:recsL (bytesOf (ps.drop (i+1))) (doAll (valsOf pu) L)=D:=by rw [<-H3.out,recsL,hp,hv]
           have HPZ:=Lib.hid hpsz
           have H3':=Lib.hid h3
           have HSRT:Hid (Srt L):=HMP.out.2.1
           have hzv:=HSP.out.size
           have hz7:=HB7.out.size
           have HDO:=Lib.hid (rdo_any w7 (fun y=>y<wr.heap.size\/y=gk) (fun x hx=>by
            have:=HMP.out.lt
            rcases hx with hx | hx
            · omega
            · omega) gk 1000000000 L (HMP.out.below HB7.out) A7 pu n7 c7 HP7.out HN7.out (by have:=H1.out;omega) (by have:=H2.out;omega) (by have:=H2.out;omega))
           have lq:=HBV.out.lt
           have hbk7:=HBV.out.below HB7.out lq
           have HBK7:=Lib.hid hbk7
           have y3:w7.cell? ⟨q,3,none⟩=some (.pointer (some ⟨gk,0,none⟩)):=hbk7.cell (i:=3) (by simp)
           clear hp hv hps hl hpsz h3 hzv hz7 lq hbk7 H3 HV7
           rw [he]
           go_wp2_with fail
           with_reducible refine HDO.out.mono ?_
           rintro e w8 ⟨hb8,gc,rfl,hgc1,hgc2,hmp8⟩
           have hbk8:=HBK7.out.below hb8 HBK7.out.lt
           have y3:w8.cell? ⟨q,3,none⟩=some (.pointer (some ⟨gk,0,none⟩)):=hbk8.cell (i:=3) (by simp)
           have f3:=hbk8.free 3
           have HFIN:Hid (∀ W,W=w8.setCell ⟨q,3,none⟩ (.pointer (some ⟨gc,0,none⟩))->Spared wr W (· =q)/\Blk W q [.pointer (some ⟨r,0,none⟩),.pointer (some ⟨bq,0,none⟩),.int .i64 (a:Int),.pointer (some ⟨gc,0,none⟩),.bool false] 98/\MapAt W (fun y=>y<wr.heap.size\/y=gc) gc 1000000000 (doAll (valsOf pu) L)/\gm<=gc/\gc≠q/\gc≠bq):=fun W hW=>by
            have hs8:Spared w8 W (· =q):=by rw [hW];exact Spared.setCell (F:=(· =q)) (.refl w8 _) rfl 3 _
            have hsz:=HSZ.out
            have hzv:=HSP.out.size
            have hz7:=HB7.out.size
            refine ⟨(HSP.out.trans (.of_below (hop HB7.out hb8) (· =q)) (fun _ h=> .inl h)).trans hs8 (fun _ h=> .inl h),?_,?_,by omega,by omega,by omega⟩
            · rw [hW]
              exact hbk8.set 3 (.pointer (some ⟨gc,0,none⟩))
            · exact hmp8.moved (hs8.mono (fun x hx=>⟨.inl (.inl (by omega)),by omega⟩)) (fun x hx=>hx.elim (fun h=> .inl (.inl (.inl h))) (fun h=> .inl (.inr h))) (.inr rfl)
           clear hb8 hgc1 hgc2 hmp8 hbk8 HDO
           go_wp2_with fail
           go_roundw
           case rel=>
            obtain ⟨k1,k2,k3,k4,k5,k6⟩:=HFIN.out _ rfl
            refine ⟨i+1,gc,doAll (valsOf pu) L,by omega,by go_num,k1,k2,k3,k4,k5,k6,H3'.out,?_,?_⟩
            · have h5:=doAll_length (l:=valsOf pu) HSRT.out
              rw [valsOf_length,HN7.out] at h5
              have:=HPZ.out.1
              have:=H1.out
              omega
            · have h5:=size_doAll (l:=valsOf pu) HSRT.out
              have:=HPZ.out.2
              have:=H2.out
              omega
           case measure=>simp [intOf];omega
       · obtain rfl:i=n9:=by omega
         have hkl: ¬ (i:Int)<(i:Int):=by omega
         have hD:D=some L:=by
          rw [<-HRD.out,List.drop_of_length_le (by rw [HN9.out];exact Nat.le_refl _)]
          rfl
         have hsz:=HSZ.out
         have hgk:=HG.out
         have hgn:=HG2.out
         have lgk:=HMP.out.lt
         have hnq:∀ x,gm<=x-> ¬ G x:=fun x h1 h2=>by have:=HGW.out x h2;omega
         have HFIN:Hid (ROpened w T r G h s (.returned (.tuple #[.pointer (some ⟨q,0,none⟩),.int .i64 0])) wv):=by
          refine ROpened.make (k:=kvAt h a g0 ds L) (t:=s) (G':=G) (b:=bq) (gm:=gk) (HOS.out L hD) HT.out HGT.out (.of_below BV.out G) (HD.out.still BV.out) (fun x hx=> .inl hx) (HSP.out.blk HLB.out (by omega)) HBV.out ?_ (by omega) (by omega) (by omega) (hnq _ (by omega)) (hnq _ (by omega)) (hnq _ hgk) (by omega) (fun e=>hgn.2 e.symm) (fun e=>hgn.1 e.symm) ⟨⟨h1',HFIT2.out⟩,HA1.out,HLF.out⟩ HH.out
          refine HMP.out.moved (.refl _ _) (fun x hx=> ?_) (.inr (.inr (.inr (.inr rfl))))
          rcases hx with hx | hx | hx | hx | hx
          · have:=HT.out x hx;exact .inl (.inl (by omega))
          · have:=HGW.out x hx;exact .inl (.inl (by omega))
          · exact .inl (.inl (by omega))
          · exact .inl (.inl (by omega))
          · exact .inl (.inr hx)
         clear hD hsz hgk hgn lgk hnq
         go_wp2_with fail
         go_ret2
         exact HFIN.out
end Go.Proofs.YtdaahapbpnjkfaaGreat
