/-
Open of a log: what it answers, and that it leaves all as it was. Conditions: as it says.
-/
import Derived.Test.YtdaahapbpnjkfaaGreatCLgRead
import Derived.Test.YtdaahapbpnjkfaaGreatCFDec
namespace Go.Proofs.YtdaahapbpnjkfaaGreat
open Go.RowKit
def Found (w:World) (g:Nat) (F:Nat->Prop) (f N:Nat) (gen:Int) (ds:List (List UInt8)) (e:Ending) (w':World):Prop:=
 ∃ b ps v,e= .returned (.tuple #[.pointer (some ⟨b,0,none⟩),v,.int .i64 0])/\bytesOf ps=ds/\w.heap.size<=b/\Blk w' b (lgCells g (Lg.found f N gen ds)) 145/\RecsAt w' 22 (fun k=>(F k\/k<w.heap.size)\/k=b) ps v/\Below w.heap.size w w'
def OpenOut (w:World) (g:Nat) (F:Nat->Prop) (s:Dsk) (f N:Int) (e:Ending) (w':World):Prop:=
 (¬ OnDisk s f N/\e= .returned (.tuple #[.pointer none,.slice none 0 0,.int .i64 1])/\Below w.heap.size w w')\/
 (OnDisk s f N/\s.off=true/\e= .returned (.tuple #[.pointer none,.slice none 0 0,.int .i64 5])/\Below w.heap.size w w')\/
 (OnDisk s f N/\s.off=false/\openL (s.bytes f.toNat N.toNat)=none/\e= .returned (.tuple #[.pointer none,.slice none 0 0,.int .i64 13])/\Below w.heap.size w w')\/
 (OnDisk s f N/\s.off=false/\∃ gen ds,openL (s.bytes f.toNat N.toNat)=some (gen,ds)/\Found w g F f.toNat N.toNat gen ds e w')
theorem infoBL:(Tryz.prog.info? 22).map (fun i=>(i.zero,i.size,i.bytes))=some (some (.slice none 0 0),1,24):=by kernel_rfl
theorem decode_made (A:Option Addr) (b:List UInt8) (n c:Nat) (w:World) (hn:b.length=n) (hs:Seen w A b) (hc:n<=c) (hb:n<=140737488351232):
 Calls Tryz.prog 104 #[.slice A n c] w (DecodeOut w (decF b)):=by
 subst hn
 exact decode_any A b c w hs hc hb
def DecIs (D:Option (Int × Int × List UInt8)) (og os:Int) (od:List UInt8) (oz:Nat):Prop:=(outF D).1=og/\(outF D).2.1=os/\(outF D).2.2=od/\sizeF D=oz
def DecNamed (w:World) (D:Option (Int × Int × List UInt8)) (e:Ending) (w':World):Prop:=
 ∃ og os od oz A n c,DecIs D og os od oz/\e= .returned (.tuple #[.agg #[.int .i64 og,.int .i64 os,.slice A n c],.int .i64 (oz:Nat)])/\MadeN 5 w od A n c w'
theorem decode_named (A:Option Addr) (b:List UInt8) (n c:Nat) (w:World) (hn:b.length=n) (hs:Seen w A b) (hc:n<=c) (hb:n<=140737488351232):
 Calls Tryz.prog 104 #[.slice A n c] w (DecNamed w (decF b)):=
 (decode_made A b n c w hn hs hc hb).mono fun _ _ ⟨A',n',c',he,hm⟩=>⟨_,_,_,_,A',n',c',⟨rfl,rfl,rfl,rfl⟩,he,hm⟩
theorem DecIs.zero {D:Option (Int × Int × List UInt8)} {og os:Int} {od:List UInt8} {oz:Nat} (h:DecIs D og os od oz) (h0:oz=0):D=none:=by
 rcases D with _ | fr
 · rfl
 · have h4:=h.2.2.2
   have:=frameL_pos fr.1 fr.2.1 fr.2.2
   change (frameL fr.1 fr.2.1 fr.2.2).length=oz at h4
   omega
theorem DecIs.some {D:Option (Int × Int × List UInt8)} {og os:Int} {od:List UInt8} {oz:Nat} (h:DecIs D og os od oz) (h0:0<oz):D=some (og,os,od)/\(frameL og os od).length=oz:=by
 rcases D with _ | fr
 · have h4:=h.2.2.2
   change 0=oz at h4
   omega
 · obtain ⟨h1,h2,h3,h4⟩:=h
   change fr.1=og at h1
   change fr.2.1=os at h2
   change fr.2.2=od at h3
   change (frameL fr.1 fr.2.1 fr.2.2).length=oz at h4
   subst h1 h2 h3
   exact ⟨rfl,h4⟩
theorem open_not {bs:List UInt8} {og os:Int} {od:List UInt8} {oz:Nat} (h:DecIs (decF bs) og os od oz) (hn:oz=0\/og<1\/os≠0):openL bs=none:=by
 rcases Nat.eq_zero_or_pos oz with h0 | h0
 · unfold openL;rw [h.zero h0]
 · unfold openL
   rw [(h.some h0).1]
   simp only
   rw [if_pos (hn.resolve_left (by omega))]
theorem open_yes {bs:List UInt8} {og os:Int} {od:List UInt8} {oz:Nat} (h:DecIs (decF bs) og os od oz) (h0:0<oz) (h1: ¬ og<1) (h2:os=0):openL bs=some (og,scanL og 0 bs):=by
 unfold openL
 rw [(h.some h0).1]
 simp only
 rw [if_neg (by omega)]
theorem scan_not {g:Int} {k:Nat} {bs:List UInt8} {og os:Int} {od:List UInt8} {oz:Nat} (h:DecIs (decF bs) og os od oz) (hn:oz=0\/og≠g\/os≠(k:Int)):scanL g k bs=[]:=by
 rcases Nat.eq_zero_or_pos oz with h0 | h0
 · exact scanL_none (h.zero h0)
 · rw [scanL_some (h.some h0).1,if_neg (fun hc=>by rcases hn with hn | hn | hn;(· omega);(· exact hn hc.1);(· exact hn hc.2))]
theorem scan_yes {g:Int} {k:Nat} {bs:List UInt8} {od:List UInt8} {oz:Nat} (h:DecIs (decF bs) g (k:Int) od oz) (h0:0<oz):scanL g k bs=od::scanL g (k+1) (bs.drop oz)/\(frameL g (k:Int) od).length=oz/\oz<=bs.length:=by
 obtain ⟨h1,h2⟩:=h.some h0
 have h3:=decF_fits h1
 rw [scanL_some h1,if_pos ⟨rfl,rfl⟩]
 simp only
 rw [h2]
 exact ⟨rfl,rfl,by rw [<-h2];exact h3⟩
def frCells (og os:Int) (A:Option Addr) (n c:Nat):List Value:=[.int .i64 og,.int .i64 os,.slice A n c]
theorem fr_cells {w:World} {b:Nat} {og os:Int} {A:Option Addr} {n c:Nat} {t:TypeId} (h:Blk w b (frCells og os A n c) t):w.cell? ⟨b,0,none⟩=some (.int .i64 og)/\w.cell? ⟨b,1,none⟩=some (.int .i64 os)/\w.cell? ⟨b,2,none⟩=some (.slice A n c):=
 ⟨h.cell (i:=0) (by simp [frCells]),h.cell (i:=1) (by simp [frCells]),h.cell (i:=2) (by simp [frCells])⟩
structure OpenAt (w6:World) (g bF bL f N:Nat) (F:Nat->Prop) (gen:Int) (bs:List UInt8) (wr:World) (k e:Nat) (ps:List Piece) (v:Value) (og os:Int) (od:List UInt8) (oz:Nat) (A:Option Addr) (n c:Nat):Prop where
 recs:RecsAt wr 22 (fun q=>F q\/q=bL\/q=bF) ps v
 own:∀ q,v.ownBlock=some q->w6.heap.size<=q
 len:ps.length=k
 fin:(framesL gen 0 (bytesOf ps)).length=e
 scan:scanL gen 0 bs=bytesOf ps++scanL gen k (bs.drop e)
 fits:e<=N*64
 dec:DecIs (decF (bs.drop e)) og os od oz
 fr:Blk wr bF (frCells og os A n c) 134
 nd:od.length=n
 lg:Blk wr bL (lgCells g ⟨f,N,gen,k,e,false⟩) 145
 piece:PieceAt wr (fun q=>(F q\/q=bL\/q=bF)\/v.ownBlock=some q) (A,od,c)
 spared:Spared w6 wr (fun q=>q=bL\/q=bF)
def OpenRel (w6:World) (g bF bL f N:Nat) (F:Nat->Prop) (gen:Int) (bs:List UInt8) (a v:Value) (wr:World):Prop:=
 ∃ k e ps og os od oz A n c,a= .int .i64 (oz:Nat)/\OpenAt w6 g bF bL f N F gen bs wr k e ps v og os od oz A n c
theorem OpenAt.le {w6:World} {g bF bL f N:Nat} {F:Nat->Prop} {gen:Int} {bs:List UInt8} {wr:World} {k e:Nat} {ps:List Piece} {v:Value} {og os:Int} {od:List UInt8} {oz:Nat} {A:Option Addr} {n c:Nat}
 (h:OpenAt w6 g bF bL f N F gen bs wr k e ps v og os od oz A n c):k<=e:=by
 have:=framesL_seq gen (bytesOf ps) 0
 rw [length_bytesOf,h.len,h.fin] at this
 exact this
theorem open_exit {w w6:World} {g bF bL f N:Nat} {F:Nat->Prop} {gen:Int} {bs:List UInt8} {wr w':World} {k e:Nat} {ps:List Piece} {v:Value} {og os:Int} {od:List UInt8} {oz:Nat} {A:Option Addr} {n c:Nat}
 (h:OpenAt w6 g bF bL f N (fun q=>F q\/q<w.heap.size) gen bs wr k e ps v og os od oz A n c) (hn:oz=0\/og≠gen\/os≠(k:Int)) (hb6:Below w.heap.size w w6) (hF:w.heap.size<=bF) (hL:w.heap.size<=bL) (hb:Below wr.heap.size wr w'):
 Found w g F f N gen (scanL gen 0 bs) (.returned (.tuple #[.pointer (some ⟨bL,0,none⟩),v,.int .i64 0])) w':=by
 have hs:scanL gen 0 bs=bytesOf ps:=by rw [h.scan,scan_not h.dec hn,List.append_nil]
 refine ⟨bL,ps,v,rfl,hs.symm,hL,?_,(h.recs.still hb).mono (fun q hq=>hq.elim .inl (fun e=> .inr (.inl e))),hop (h.spared.below hb6 (fun q hq=>hq.elim (fun e=>by rw [e];exact hL) (fun e=>by rw [e];exact hF))) hb⟩
 have e:Lg.found f N gen (scanL gen 0 bs)=⟨f,N,gen,k,e,false⟩:=by
  rw [hs]
  unfold Lg.found
  rw [h.fin,length_bytesOf,h.len]
 rw [e]
 exact h.lg.below hb h.lg.lt
theorem open_more {w6:World} {g bF bL f N:Nat} {F:Nat->Prop} {gen:Int} {bs:List UInt8} {wr wq w7 w9:World} {k e:Nat} {ps:List Piece} {v:Value} {od:List UInt8} {oz:Nat} {A:Option Addr} {n c gk c5:Nat}
 (h:OpenAt w6 g bF bL f N F gen bs wr k e ps v gen (k:Int) od oz A n c) (h0:0<oz) (hbq:Below wr.heap.size wr wq) (hF:∀ q,F q->q<w6.heap.size) (hFb:bF<w6.heap.size) (hLb:bL<w6.heap.size) (hFL:bF≠bL) (hlen:bs.length=N*64)
 (hown:w7.ownsRow 0 22 1 (.slice (some ⟨gk,0,none⟩) (k+1) c5) (k+1) (ps.map pv++[.slice A n c])) (hgr:(wq.alloc (.cells #[.slice A n c] 22)).grownBy w7 v.ownBlock) (hat:v.ownBlock=some gk\/gk=wq.heap.size+1)
 {og os:Int} {od':List UInt8} {oz':Nat} {A':Option Addr} {n' c':Nat} (hd:DecIs (decF (bs.drop (e+oz))) og os od' oz')
 (hm:MadeN 5 ((w7.setCell ⟨bL,4,none⟩ (.int .i64 ((k:Int)+1))).setCell ⟨bL,5,none⟩ (.int .i64 ((e:Int)+(oz:Int)))) od' A' n' c' w9):
 OpenAt w6 g bF bL f N F gen bs (((w9.setCell ⟨bF,0,none⟩ (.int .i64 og)).setCell ⟨bF,1,none⟩ (.int .i64 os)).setCell ⟨bF,2,none⟩ (.slice A' n' c')) (k+1) (e+oz) (ps++[(A,od,c)]) (.slice (some ⟨gk,0,none⟩) (k+1) c5) og os od' oz' A' n' c':=by
 have hsc:=scan_yes h.dec h0
 have e1:pv (A,od,c)= .slice A n c:=by show Value.slice A od.length c=_;rw [h.nd]
 have hsz6:w6.heap.size<=wq.heap.size:=Nat.le_trans h.spared.size hbq.size
 have hGlt:∀ q,(F q\/q=bL\/q=bF)->q<wq.heap.size:=fun q hq=>by
  rcases hq with hq | hq | hq
  · exact Nat.lt_of_lt_of_le (hF q hq) hsz6
  · omega
  · omega
 obtain ⟨hrec,hs7⟩:=(h.recs.still hbq).more (w5:=w7) (g:=gk) (c:=c5) (h.piece.still hbq) hGlt (by rw [h.len,e1];exact hown) (by rw [e1];exact hgr) hat
 rw [h.len] at hrec
 have hownb:∀ q,(Value.slice (some ⟨gk,0,none⟩) (k+1) c5).ownBlock=some q->w6.heap.size<=q:=fun q hq=>by
  injection hq with hq
  change gk=q at hq
  subst hq
  rcases hat with e2 | e2
  · exact h.own gk e2
  · omega
 have hnF:∀ q,v.ownBlock=some q-> ¬ (q=bF):=fun q e2 e3=>h.recs.far q e2 (.inr (.inr e3))
 have hnL:∀ q,v.ownBlock=some q-> ¬ (q=bL):=fun q e2 e3=>h.recs.far q e2 (.inr (.inl e3))
 have hfr7:=hs7.blk (h.fr.below hbq h.fr.lt) (fun hq=>hnF bF hq rfl)
 have hlg7:=hs7.blk (h.lg.below hbq h.lg.lt) (fun hq=>hnL bL hq rfl)
 -- the two stores
 have hlg8:=(hlg7.set 4 (.int .i64 ((k:Int)+1))).set 5 (.int .i64 ((e:Int)+(oz:Int)))
 have hs8:Spared w7 ((w7.setCell ⟨bL,4,none⟩ (.int .i64 ((k:Int)+1))).setCell ⟨bL,5,none⟩ (.int .i64 ((e:Int)+(oz:Int)))) (fun q=>q=bL\/q=bF):=((Spared.refl w7 _).setCell (.inl rfl) 4 _).setCell (.inl rfl) 5 _
 have hfr8:=(hfr7.other ⟨bL,4,none⟩ (.int .i64 ((k:Int)+1)) hFL).other ⟨bL,5,none⟩ (.int .i64 ((e:Int)+(oz:Int))) hFL
 have hsz8:w7.heap.size<=((w7.setCell ⟨bL,4,none⟩ (.int .i64 ((k:Int)+1))).setCell ⟨bL,5,none⟩ (.int .i64 ((e:Int)+(oz:Int)))).heap.size:=hs8.size
 generalize (w7.setCell ⟨bL,4,none⟩ (.int .i64 ((k:Int)+1))).setCell ⟨bL,5,none⟩ (.int .i64 ((e:Int)+(oz:Int)))=w8 at *
 have hb9:=hm.2.2
 have hlg9:=hlg8.below hb9 hlg8.lt
 have hfr9:=hfr8.below hb9 hfr8.lt
 have hs10:Spared w9 (((w9.setCell ⟨bF,0,none⟩ (.int .i64 og)).setCell ⟨bF,1,none⟩ (.int .i64 os)).setCell ⟨bF,2,none⟩ (.slice A' n' c')) (fun q=>q=bL\/q=bF):=(((Spared.refl w9 _).setCell (.inr rfl) 0 _).setCell (.inr rfl) 1 _).setCell (.inr rfl) 2 _
 have hs79:Spared w7 (((w9.setCell ⟨bF,0,none⟩ (.int .i64 og)).setCell ⟨bF,1,none⟩ (.int .i64 os)).setCell ⟨bF,2,none⟩ (.slice A' n' c')) (fun q=>q=bL\/q=bF):=(hs8.trans (.of_below hb9 (fun q=>q=bL\/q=bF)) (fun _ h=> .inl h)).trans hs10 (fun _ h=> .inl h)
 have hsub:∀ q,(q=bL\/q=bF)->(F q\/q=bL\/q=bF):=fun q hq=> .inr hq
 have hle7:wq.heap.size<=w7.heap.size:=hs7.size
 have hle8:w7.heap.size<=w8.heap.size:=hsz8
 have hkl:((k:Int)+1)=((k+1:Nat):Int):=by omega
 have hel:((e:Int)+(oz:Int))=((e+oz:Nat):Int):=by omega
 have hle:=hsc.2.2
 rw [List.length_drop,hlen] at hle
 have hfits:=h.fits
 refine ⟨hrec.moved (hs79.mono (fun q hq=> .inr hq)) (fun q hq=> .inl hq),hownb,by rw [List.length_append,h.len];rfl,?_,?_,by omega,hd,?_,hm.1,?_,?_,?_⟩
 · show (framesL gen 0 (bytesOf (ps++[(A,od,c)]))).length=e+oz
   have:bytesOf (ps++[(A,od,c)])=bytesOf ps++[od]:=by simp [bytesOf]
   rw [this,framesL_append,List.length_append,h.fin,Nat.zero_add,length_bytesOf,h.len]
   simp only [framesL,List.append_nil]
   rw [hsc.2.1]
 · rw [h.scan,hsc.1,List.drop_drop]
   simp [bytesOf]
 · have:=((hfr9.set 0 (.int .i64 og)).set 1 (.int .i64 os)).set 2 (.slice A' n' c')
   exact this
 · have:=((hlg9.other ⟨bF,0,none⟩ (.int .i64 og) (fun e=>hFL e.symm)).other ⟨bF,1,none⟩ (.int .i64 os) (fun e=>hFL e.symm)).other ⟨bF,2,none⟩ (.slice A' n' c') (fun e=>hFL e.symm)
   rw [hkl,hel] at this
   exact this
 · have hp:=Made.past hm.2
   have hcap:=cap_of hm.2
   refine ⟨?_,hcap,?_⟩
   · refine (hp.mono (G:=fun q=>(F q\/q=bL\/q=bF)\/(Value.slice (some ⟨gk,0,none⟩) (k+1) c5).ownBlock=some q) (fun q hq=> ?_)).moved (hs10.mono (fun q hq=> .inl (.inr hq))) (fun _ h=> .inl h)
     rcases hq with hq | hq
     · exact Nat.lt_of_lt_of_le (hGlt q hq) (Nat.le_trans hle7 hle8)
     · exact Nat.lt_of_lt_of_le (hrec.lt q hq) hle8
   · rcases Nat.eq_zero_or_pos oz' with hz | hz
     · have hnone:=hd.zero hz
       rw [hnone] at hd
       have:([]:List UInt8)=od':=hd.2.2.1
       show od'.length<=_
       rw [<-this];simp
     · have h2:=(hd.some hz).1
       have h3:=(mayB_true (decF_some h2).2.1).2.2.2.2
       exact Nat.le_trans h3 (by decide)
 · have h1:=(h.spared.trans (.of_below hbq (fun q=>q=bL\/q=bF)) (fun _ h=> .inl h)).trans hs7 (fun q hq=> .inr (h.own q hq))
   exact h1.trans hs79 (fun _ h=> .inl h)
theorem open_mid {w6:World} {g bF bL f N:Nat} {F:Nat->Prop} {gen:Int} {bs:List UInt8} {wr wq w7:World} {k e:Nat} {ps:List Piece} {v:Value} {og os:Int} {od:List UInt8} {oz:Nat} {A:Option Addr} {n c:Nat} {o:Obj}
 (h:OpenAt w6 g bF bL f N F gen bs wr k e ps v og os od oz A n c) (hbq:Below wr.heap.size wr wq) (hgr:(wq.alloc o).grownBy w7 v.ownBlock):
 Blk w7 bL (lgCells g ⟨f,N,gen,k,e,false⟩) 145/\Blk w7 bF (frCells og os A n c) 134/\Spared w6 w7 (fun q=>q=bL\/q=bF):=by
 have hal:Below wq.heap.size wq (wq.alloc o):=(Below.refl _ _).alloc (Nat.le_refl _) _
 have hs:Spared wr w7 (fun k=>v.ownBlock=some k):=((Spared.of_below hbq _).trans (.of_below hal (fun k=>v.ownBlock=some k)) (fun _ h=> .inl h)).trans (.of_grown hgr (F:=fun k=>v.ownBlock=some k) (fun k e _=>e)) (fun _ h=> .inl h)
 exact ⟨hs.blk h.lg (fun hq=>h.recs.far _ hq (.inr (.inl rfl))),hs.blk h.fr (fun hq=>h.recs.far _ hq (.inr (.inr rfl))),h.spared.trans hs (fun q hq=> .inr (h.own q hq))⟩
set_option maxRecDepth 100000 in
set_option maxHeartbeats 4000000 in
theorem open_any (w:World) (g:Nat) (F:Nat->Prop) (s:Dsk) (f N:Int) (h:DiskAt w g F s) (f0: -9223372036854775808<=f) (f1:f<=9223372036854775807):
 Calls Tryz.prog 72 #[.pointer (some ⟨g,0,none⟩),.int .i64 f,.int .i64 N] w (OpenOut w g F s f N):=by
 have hK4:=h.ok.hi
 have OK:=Lib.hid h.ok
 have HDISK:=Lib.hid h
 have HB:=Lib.hid (boxA_below w g f N)
 have H1:=Lib.hid (h.still HB.out)
 have HV:=Lib.hid (area_valid (boxA w g f N) g F s f N H1.out f0 f1)
 have HX1:=Lib.hid (boxA_blk w g f N)
 obtain ⟨v,hv⟩:∃ v,v=decide (0<=f/\1<=N/\N<=(s.K.length:Int)-f):=⟨_,rfl⟩
 rw [<-hv] at HV
 have HVD:=Lib.hid hv
 clear hv
 obtain ⟨w1,hw1⟩:∃ w1,w1=boxA w g f N:=⟨_,rfl⟩
 have HW':Hid (w.alloc (.cells #[.pointer (some ⟨g,0,none⟩),.int .i64 f,.int .i64 N] 143)=w1):=hw1.symm
 rw [<-hw1] at HB H1 HV HX1
 clear hw1 h
 by_cases hv':v=true
 · subst hv'
   have hod:0<=f/\1<=N/\N<=(s.K.length:Int)-f:=of_decide_eq_true HVD.out.symm
   have HOD:Hid (OnDisk s f N):=hod
   obtain ⟨f,rfl⟩:∃ k:Nat,f=(k:Int):=⟨f.toNat,by omega⟩
   obtain ⟨N,rfl⟩:∃ k:Nat,N=(k:Int):=⟨N.toNat,by omega⟩
   have hN1:1<=N:=by omega
   have hfN:f+N<=s.K.length:=by omega
   clear hod HVD f0 f1
   go_enter Tryz.func72,Tryz.ntmps72
   go_wp2_with fail
   rw [HW'.out]
   refine HV.out.mono ?_
   rintro e w2 ⟨rfl,hb2⟩
   have HB2:=Lib.hid (hop HB.out hb2)
   have H2:=Lib.hid (H1.out.still hb2)
   have HX2:=Lib.hid (HX1.out.below hb2 HX1.out.lt)
   obtain ⟨c0,c1,c2⟩:=area_cells HX2.out
   clear hb2 HV
   go_wp2_with fail
   refine (area_read w2 g F s f N H2.out hN1 hfN).mono ?_
   rintro e w3 (⟨ho,rfl,hb3⟩ | ⟨ho,A3,c3,rfl,hm3⟩)
   · have HO:=Lib.hid ho
     have HB3:=Lib.hid (hop HB2.out hb3)
     clear ho hb3
     go_wp2
     go_ret3
     exact .inr (.inl ⟨HOD.out,HO.out,rfl,HB3.out⟩)
   have HO:=Lib.hid ho
   have HB3:=Lib.hid (hop HB2.out hm3.2)
   have HX3:=Lib.hid (HX2.out.below hm3.2 HX2.out.lt)
   have HS3:=Lib.hid hm3.at_len.2
   have hc3:N*64<=c3:=by have:=cap_of hm3;rw [hm3.at_len.1] at this;exact this
   have HLEN:=Lib.hid (bytes_length OK.out hfN)
   obtain ⟨c0,c1,c2⟩:=area_cells HX3.out
   clear ho hm3
   obtain ⟨bs,hbs⟩:∃ bs,bs=s.bytes f N:=⟨_,rfl⟩
   rw [<-hbs] at HLEN HS3
   have HBS:Hid (bs=s.bytes ((f:Int)).toNat ((N:Int)).toNat):=hbs
   clear hbs
   have hN64:N*64<=262144:=by omega
   go_wp2_with fail
   refine (decode_named A3 bs (N*64) c3 w3 HLEN.out HS3.out hc3 (by omega)).mono ?_
   rintro e w4 ⟨og,os,od,oz,Ad,nd,cd,hdec,rfl,hmd⟩
   have HDC:=Lib.hid hdec
   have HB4:=Lib.hid (hop HB3.out hmd.2.2)
   have HMD:=Lib.hid hmd
   have HX4:=Lib.hid (HX3.out.below hmd.2.2 HX3.out.lt)
   have HS4:=Lib.hid (HS3.out.below hmd.2.2)
   clear hdec hmd c0 c1 c2
   have HBX5:Hid (Below w.heap.size w (w4.alloc (.cells #[.int .i64 og,.int .i64 os,.slice Ad nd cd] 134))):=HB4.out.alloc HB4.out.size _
   by_cases hz:oz=0
   · have HNO:=Lib.hid (open_not HDC.out (.inl hz))
     subst hz
     have hz0:((0:Nat):Int)=0:=rfl
     rw [hz0]
     clear hz0
     go_wp2
     go_ret3
     exact .inr (.inr (.inl ⟨HOD.out,HO.out,by rw [<-HBS.out];exact HNO.out,rfl,HBX5.out⟩))
   have hz1:((oz:Int)==0)=false:=by rw [beq_eq_false_iff_ne];omega
   have hz2:0<oz:=by omega
   clear hz
   by_cases hg:og<1
   · have HNO:=Lib.hid (open_not HDC.out (.inr (.inl hg)))
     go_wp2
     go_ret3
     exact .inr (.inr (.inl ⟨HOD.out,HO.out,by rw [<-HBS.out];exact HNO.out,rfl,HBX5.out⟩))
   by_cases hs0:os=0
   · subst hs0
     have HOP:=Lib.hid (open_yes HDC.out hz2 hg rfl)
     have hog2:og<=1152921504606846976:=(open_some HOP.out).2.1
     -- the two new blocks
     obtain ⟨w5,hw5⟩:∃ w5,w5=w4.alloc (.cells #[.int .i64 og,.int .i64 0,.slice Ad nd cd] 134):=⟨_,rfl⟩
     obtain ⟨w6,hw6⟩:∃ w6,w6=w5.alloc (.cells #[.pointer (some ⟨g,0,none⟩),.int .i64 (f:Int),.int .i64 (N:Int),.int .i64 og,.int .i64 0,.int .i64 0,.bool false] 145):=⟨_,rfl⟩
     have hsz5:w5.heap.size=w4.heap.size+1:=by rw [hw5];simp
     have hsz6:w6.heap.size=w4.heap.size+2:=by rw [hw6];simp;omega
     have B5:Below w4.heap.size w4 w5:=by rw [hw5];exact (Below.refl _ _).alloc (Nat.le_refl _) _
     have B6':Below w5.heap.size w5 w6:=by rw [hw6];exact (Below.refl _ _).alloc (Nat.le_refl _) _
     have B6:=hop B5 B6'
     have HBW6:=Lib.hid (hop HB4.out B6)
     have HFB:Hid (Blk w6 w4.heap.size (frCells og 0 Ad nd cd) 134):=by
      have:Blk w5 w4.heap.size (frCells og 0 Ad nd cd) 134:=by rw [hw5];exact Blk.new w4 (frCells og 0 Ad nd cd) _
      exact this.below B6' this.lt
     have HLB:Hid (Blk w6 (w4.heap.size+1) (lgCells g (Lg.found f N og [])) 145):=by
      have:Blk w6 w5.heap.size (lgCells g (Lg.found f N og [])) 145:=by rw [hw6];exact Blk.new w5 (lgCells g (Lg.found f N og [])) _
      rw [hsz5] at this;exact this
     have HFLT:Hid (∀ k,(F k\/k<w.heap.size)->k<w4.heap.size):=fun k hk=>Nat.lt_of_lt_of_le (hk.elim (HDISK.out.lt k) id) HB4.out.size
     have HPC:Hid (PieceAt w6 (fun k=>(F k\/k<w.heap.size)\/k=w4.heap.size+1\/k=w4.heap.size) (Ad,od,cd)):=by
      have hcap:=cap_of HMD.out.2
      have hp:=(Made.past HMD.out.2).mono (G:=fun k=>F k\/k<w.heap.size) (fun b hb=>Nat.lt_of_lt_of_le (hb.elim (HDISK.out.lt b) id) HB3.out.size)
      refine ⟨hp.moved (.of_below B6 _) (G:=fun k=>(F k\/k<w.heap.size)\/k=w4.heap.size+1\/k=w4.heap.size) (fun k hk=> ?_),hcap,?_⟩
      · rcases hk with hk | hk | hk
        · exact .inl hk
        · exact .inr (by omega)
        · exact .inr (by omega)
      · have h2:=(HDC.out.some hz2).1
        have h3:=(mayB_true (decF_some h2).2.1).2.2.2.2
        exact Nat.le_trans h3 (by decide)
     have HND:Hid (od.length=nd):=HMD.out.1
     have HAW6:Hid (Away w6 (fun k=>k=w4.heap.size+1\/k=w4.heap.size) A3 bs):=by
      have:=Away.of_seen (F:=fun k=>w4.heap.size<=k) HS4.out (fun b off _ hb hk=>by omega)
      exact this.moved (.of_below B6 _) (fun k hk=>by rcases hk with hk | hk;(· exact .inr (by omega));(· exact .inr (by omega)))
     have c0':=(area_cells (HX4.out.below B5 HX4.out.lt)).1
     have c1':=(area_cells (HX4.out.below B5 HX4.out.lt)).2.1
     have c2':=(area_cells (HX4.out.below B5 HX4.out.lt)).2.2
     rw [hw5] at c0' c1' c2'
     have HW6:Hid ((w4.alloc (.cells #[.int .i64 og,.int .i64 0,.slice Ad nd cd] 134)).alloc (.cells #[.pointer (some ⟨g,0,none⟩),.int .i64 (f:Int),.int .i64 (N:Int),.int .i64 og,.int .i64 0,.int .i64 0,.bool false] 145)=w6):=by show _=_;rw [hw6,hw5]
     have HSZ6:=Lib.hid hsz6
     have HDC0:Hid (DecIs (decF (bs.drop 0)) og 0 od oz):=HDC.out
     have HR0:Hid (OpenAt w6 g w4.heap.size (w4.heap.size+1) f N (fun q=>F q\/q<w.heap.size) og bs w6 0 0 [] (.slice none 0 0) og 0 od oz Ad nd cd):=
      ⟨RecsAt.nil _ _ _,(fun q e=>by cases e),rfl,rfl,rfl,Nat.zero_le _,HDC0.out,HFB.out,HND.out,HLB.out,HPC.out.mono (fun q hq=>hq.elim id (fun e=>by cases e)),.refl _ _⟩
     clear hw5 hw6 hsz5 hsz6 B5 B6' B6
     have hgen1:1<=og:=by omega
     obtain ⟨iB,hiB,hzB,hsB,hbB⟩:=info_parts infoBL
     go_wp2
     go_loopw [13,15] (fun a v wr=>OpenRel w6 g w4.heap.size (w4.heap.size+1) f N (fun q=>F q\/q<w.heap.size) og bs a v wr) (fun _ v _=>N*64+1-lenOf v)
     case atStart=>exact ⟨0,0,[],og,0,od,oz,Ad,nd,cd,rfl,by rw [HW6.out];exact HR0.out⟩
     case round=>
      obtain ⟨k,e,ps,og',os',od',oz',A',n',c',rfl,hat⟩:=hrel
      have hke:=hat.le
      have hef:=hat.fits
      obtain ⟨AR,cR,hv⟩:=hat.recs.form
      subst hv
      have hlen:=hat.len
      rw [hlen] at hat ⊢
      have HR:=Lib.hid hat
      obtain ⟨b0,b1,b2⟩:=fr_cells hat.fr
      obtain ⟨_,_,_,l3,l4,l5,_⟩:=lg_cells hat.lg
      have HLEN':=Lib.hid hlen
      clear hat HR0 HDC HDC0 HFB HLB HPC HND hz1 hz2 hg
      have hwF:w.heap.size<=w4.heap.size:=HB4.out.size
      have HEX:Hid ((oz'=0\/og'≠og\/os'≠(k:Int))->∀ w',Below wr.heap.size wr w'->OpenOut w g F s (f:Int) (N:Int) (.returned (.tuple #[.pointer (some ⟨w4.heap.size+1,0,none⟩),.slice AR k cR,.int .i64 0])) w'):=fun hn w' hb=>by
       have:=open_exit HR.out hn HBW6.out hwF (Nat.le_succ_of_le hwF) hb
       exact .inr (.inr (.inr ⟨HOD.out,HO.out,og,_,by rw [<-HBS.out];exact HOP.out,this⟩))
      clear hlen
      by_cases h0:oz'=0
      · have HE:=Lib.hid (HEX.out (.inl h0))
        subst h0
        have d1:decide ((0:Int)<((0:Nat):Int))=false:=rfl
        clear HEX HR
        go_wp2
        go_quiet (fail)
        go_wp2
        go_ret3
        exact HE.out _ (below_drewN (Below.refl _ _) _)
      have h0':0<oz':=by omega
      have d1:decide ((0:Int)<(oz':Int))=true:=decide_eq_true (by omega)
      by_cases h1:og'=og
      · subst h1
        have d2:(og'==og')=true:=by simp
        by_cases h2:os'=(k:Int)
        · subst h2
          have d3:((k:Int)==(k:Int))=true:=by simp
          have hsc:=scan_yes HR.out.dec h0'
          have hle:=hsc.2.2
          rw [List.length_drop,HLEN.out] at hle
          obtain ⟨A9,hcut,hseen⟩:=tail_cut_all A3 bs (N*64) c3 (e+oz') ((e:Int)+(oz':Int)) (by omega) HLEN.out (by omega) hc3
          have HSEEN:=Lib.hid hseen
          have hl9:(bs.drop (e+oz')).length=N*64-(e+oz'):=by rw [List.length_drop,HLEN.out]
          have HL9:=Lib.hid hl9
          have hcut9:N*64-(e+oz')<=c3-(e+oz'):=by omega
          have HC9:=Lib.hid hcut9
          have hw1:IntKind.i64.wrap ((k:Int)+1)=(k:Int)+1:=by rw [IntKind.wrap_i64];omega
          have hw2:IntKind.i64.wrap ((e:Int)+(oz':Int))=(e:Int)+(oz':Int):=by rw [IntKind.wrap_i64];omega
          have HOWN:Hid (∀ n,((wr.drewN n).alloc (.cells #[.slice A' n' c'] 22)).ownsRow 0 22 1 (.slice AR k cR) k (ps.map pv)):=fun n=>by
           have h1:(wr.drewN n).ownsRow 0 22 1 (.slice AR k cR) ps.length (ps.map pv):=HR.out.recs.list
           rw [HLEN'.out] at h1
           exact h1.alloc _
          have HX:=Lib.hid (fun (w7 w9:World) (n gk c5:Nat) og os od2 oz2 A2 n2 c2 h1 h2 h3 h4 h5=>open_more (w7:=w7) (w9:=w9) (gk:=gk) (c5:=c5) (og:=og) (os:=os) (od':=od2) (oz':=oz2) (A':=A2) (n':=n2) (c':=c2) HR.out h0' (below_drewN (Below.refl _ _) n) (fun q hq=>Nat.lt_of_lt_of_le (HFLT.out q hq) (by rw [HSZ6.out];omega)) (by rw [HSZ6.out];omega) (by rw [HSZ6.out];omega) (by omega) HLEN.out h1 h2 h3 h4 h5)
          have HMID:=Lib.hid (fun (w7:World) (n:Nat) (o:Obj) hgr=>open_mid (w7:=w7) (o:=o) HR.out (below_drewN (Below.refl _ _) n) hgr)
          have hk64:k<=262144:=by omega
          have he64:e+oz'<=N*64:=by omega
          clear HEX hseen hl9 hcut9 hsc
          go_wp2
          go_quiet (fail)
          go_wp2_with (at_builtin;refine wpList_append_lies _ rfl (.tmp 73) (.tmp 76) 47 rfl 0 22 iB (.slice none 0 0) 1 24 Tryz.underlying47 hiB hzB hsB hbB rfl (by decide) (.slice AR k cR) k (ps.map pv) rfl (HOWN.out _) ⟨wr.heap.size,0,none⟩ 1 1 [.slice A' n' c'] rfl rfl (World.news_of_block (heap_alloc_new (wr.drewN _) (.cells #[.slice A' n' c'] 22))) (by intro u hu;rw [List.mem_singleton.1 hu];rfl) (by decide) (by unfold maxLen;omega) (by omega) (Nat.zero_le _) (wr.heap.size+1) (by simp) ?_);intro gk cap5 w7 hown5 hgr5 hat5 hlt5
          obtain ⟨hl7,hf7,hs7⟩:=HMID.out w7 _ _ hgr5
          obtain ⟨_,_,_,_,m4,m5,_⟩:=lg_cells hl7
          have f4:=hl7.free 4
          have f5:=hl7.free 5
          have HOW5:=Lib.hid hown5
          have HGR5:=Lib.hid hgr5
          have HAT5:=Lib.hid hat5
          have HSN:Hid (Seen ((w7.setCell ⟨w4.heap.size+1,4,none⟩ (.int .i64 ((k:Int)+1))).setCell ⟨w4.heap.size+1,5,none⟩ (.int .i64 ((e:Int)+(oz':Int)))) A9 (bs.drop (e+oz'))):=
           HSEEN.out _ (HAW6.out.moved ((hs7.setCell (.inl rfl) 4 _).setCell (.inl rfl) 5 _) (G:=fun k=>k=w4.heap.size+1\/k=w4.heap.size) (fun _ h=> .inl h)).seen
          have HF8:=Lib.hid ((hf7.other ⟨w4.heap.size+1,4,none⟩ (.int .i64 ((k:Int)+1)) (by simp)).other ⟨w4.heap.size+1,5,none⟩ (.int .i64 ((e:Int)+(oz':Int))) (by simp))
          clear hown5 hgr5 hat5 hlt5 hl7 hf7 hs7 b0 b1 b2 l3 l4 l5 HMID HOWN HAW6 d1 d2 d3
          go_wp2_with fail
          refine (decode_named A9 (bs.drop (e+oz')) _ _ _ HL9.out HSN.out HC9.out (by omega)).mono ?_
          rintro ee w9 ⟨og2,os2,od2,oz2,A2,n2,c2,hdec2,rfl,hmd2⟩
          have HF9:=Lib.hid (HF8.out.below hmd2.2.2 HF8.out.lt)
          obtain ⟨b0,b1,b2⟩:=fr_cells HF9.out
          have g0:=HF9.out.free 0
          have g1:=HF9.out.free 1
          have g2:=HF9.out.free 2
          have HDEC2:=Lib.hid hdec2
          have HMD2:=Lib.hid hmd2
          clear hdec2 hmd2 m4 m5 f4 f5 hcut hw1 hw2
          go_wp2
          go_roundw
          case rel=>exact ⟨k+1,e+oz',ps++[(A',od',c')],og2,os2,od2,oz2,A2,n2,c2,rfl,HX.out w7 w9 _ gk cap5 og2 os2 od2 oz2 A2 n2 c2 HOW5.out HGR5.out HAT5.out HDEC2.out HMD2.out⟩
          case measure=>show N*64+1-(k+1)<N*64+1-k;omega
        · have d3:(os'==(k:Int))=false:=by rw [beq_eq_false_iff_ne];exact h2
          have HE:=Lib.hid (HEX.out (.inr (.inr h2)))
          clear HEX HR
          go_wp2
          go_quiet (fail)
          go_wp2
          go_ret3
          exact HE.out _ (below_drewN (Below.refl _ _) _)
      · have d2:(og'==og)=false:=by rw [beq_eq_false_iff_ne];exact h1
        have HE:=Lib.hid (HEX.out (.inr (.inl h1)))
        clear HEX HR
        go_wp2
        go_quiet (fail)
        go_wp2
        go_ret3
        exact HE.out _ (below_drewN (Below.refl _ _) _)
   · have HNO:=Lib.hid (open_not HDC.out (.inr (.inr hs0)))
     have hs1:(os==0)=false:=by rw [beq_eq_false_iff_ne];exact hs0
     have hs2:(os != 0)=true:=by rw [bne,hs1];rfl
     go_wp2
     go_ret3
     exact .inr (.inr (.inl ⟨HOD.out,HO.out,by rw [<-HBS.out];exact HNO.out,rfl,HBX5.out⟩))
 · have hv0:v=false:=by simpa using hv'
   subst hv0
   have hnod: ¬ (0<=f/\1<=N/\N<=(s.K.length:Int)-f):=of_decide_eq_false HVD.out.symm
   have HNOD:Hid (¬ OnDisk s f N):=hnod
   clear hnod
   go_enter Tryz.func72,Tryz.ntmps72
   go_wp2_with fail
   rw [HW'.out]
   refine HV.out.mono ?_
   rintro e w2 ⟨rfl,hb2⟩
   have HB2:=Lib.hid (hop HB.out hb2)
   clear hb2 HV
   go_wp2
   go_ret3
   exact .inl ⟨HNOD.out,rfl,HB2.out⟩
end Go.Proofs.YtdaahapbpnjkfaaGreat
