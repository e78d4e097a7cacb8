/-
A store on a disk that is on, and stays so: what Open and Commit come to, as the laws need it. Conditions: at most 400 blocks; batches of at most 60 puts of at most 500 bytes a key and a value.
-/
import Derived.Test.YtdaahapbpnjkfaaGreatCKvRows
import Derived.Test.YtdaahapbpnjkfaaGreatCRkC
import Derived.Deep.LoopGhost
import Derived.Test.YtdaahapbpnjkfaaGreatCKpTurn
import Derived.Test.YtdaahapbpnjkfaaGreatCKpOpen
import Derived.Test.YtdaahapbpnjkfaaGreatCKvPairs
import Derived.Test.YtdaahapbpnjkfaaGreatCRf
namespace Go.Proofs.YtdaahapbpnjkfaaGreat
open Go.RowKit
set_option maxHeartbeats 1000000 in
theorem isLong_any (KA:Option Addr) (m kc:Nat) (VA:Option Addr) (z vc:Nat) (gone:Bool) (w:World):
 Calls Tryz.prog 50 #[.agg #[.slice KA m kc,.slice VA z vc,.bool gone]] w fun e w'=>e= .returned (.bool (!(decide (m<=512)&&decide (z<=8192))))/\Below w.heap.size w w':=by
 have hb:=(Below.refl w.heap.size w).alloc (Nat.le_refl _) (.cells #[.slice KA m kc,.slice VA z vc,.bool gone] 72)
 obtain ⟨v,hv⟩:∃ v,v= !(decide (m<=512)&&decide (z<=8192)):=⟨_,rfl⟩
 rw [<-hv]
 have HV:=Lib.hid hv
 by_cases h1:512<m
 · have d1:decide ((512:Int)<(m:Int))=true:=decide_eq_true (by omega)
   have HE:Hid (true=v):=by show _=_;rw [HV.out,decide_eq_false (by omega)];rfl
   clear h1 hv
   go_enter Tryz.func50,Tryz.ntmps50
   go_wp2
   go_ret
   exact ⟨ret_bool HE.out,hb⟩
 · have d1:decide ((512:Int)<(m:Int))=false:=decide_eq_false (by omega)
   by_cases h2:8192<z
   · have d2:decide ((8192:Int)<(z:Int))=true:=decide_eq_true (by omega)
     have HE:Hid (true=v):=by show _=_;rw [HV.out,decide_eq_false (p:=z<=8192) (by omega),Bool.and_false];rfl
     clear h1 h2 hv
     go_enter Tryz.func50,Tryz.ntmps50
     go_wp2
     go_ret
     exact ⟨ret_bool HE.out,hb⟩
   · have d2:decide ((8192:Int)<(z:Int))=false:=decide_eq_false (by omega)
     have HE:Hid (false=v):=by show _=_;rw [HV.out,decide_eq_true (p:=z<=8192) (by omega),decide_eq_true (p:=m<=512) (by omega)];rfl
     clear h1 h2 hv
     go_enter Tryz.func50,Tryz.ntmps50
     go_wp2
     go_ret
     exact ⟨ret_bool HE.out,hb⟩
set_option maxRecDepth 100000 in
set_option maxHeartbeats 1000000 in
theorem indexLong_any (A:Option Addr) (ps:List PPut) (n c:Nat) (w:World) (hL:ps.length=n) (hn:n<=1000000) (hs:PutsSeen w A ps):
 Calls Tryz.prog 83 #[.slice A n c,.func (.func 50) #[] #[]] w fun e w'=>∃ r:Int,e= .returned (.int .i64 r)/\(0<=r)=(ps.all mayOne=false)/\Below w.heap.size w w':=by
 have HS:=Lib.hid hs
 have HL:=Lib.hid hL
 obtain ⟨v,hv⟩:∃ v,v=ps.all mayOne:=⟨_,rfl⟩
 rw [<-hv]
 have HV:=Lib.hid hv
 clear hs hL hv
 go_enter Tryz.func83,Tryz.ntmps83
 go_wp2_with fail
 go_loopg [8] n (fun kx s wr=>∃ i:Nat,i+kx=n/\s= .int .i64 (i:Int)/\Below w.heap.size w wr/\Hid ((ps.drop i).all mayOne=v))
 case atStart=>exact ⟨0,by omega,rfl,Below.refl _ _,HV.out.symm⟩
 case round=>
  obtain ⟨i,hi,rfl,hbr,HA⟩:=hrel
  have HI:=Lib.hid hi
  have BR:=Lib.hid hbr
  clear hi hbr
  by_cases hlt:i<n
  · have hkl:(i:Int)<(n:Int):=by omega
    have hin:i<ps.length:=by have:=HL.out;omega
    obtain ⟨b,off,rfl,hok,hat⟩:=(HS.out.below BR.out).at_ i hin
    obtain ⟨o0,o1,o2⟩:=hat wr (Below.refl _ _)
    have hdr:(ps.drop i).all mayOne=(mayOne ps[i]&&(ps.drop (i+1)).all mayOne):=by rw [List.drop_eq_getElem_cons hin,List.all_cons]
    obtain ⟨⟨⟨KA,y,kc⟩,⟨VA,x,vc⟩,gone⟩,hq⟩:∃ q,q=ps[i]:=⟨_,rfl⟩
    rw [<-hq] at o0 o1 o2 hdr
    change wr.cell? ⟨b,off+i*3,none⟩=some (.slice KA y.length kc) at o0
    change wr.cell? ⟨b,off+i*3+1,none⟩=some (.slice VA x.length vc) at o1
    change wr.cell? ⟨b,off+i*3+2,none⟩=some (.bool gone) at o2
    change (ps.drop i).all mayOne=((decide (y.length<=512)&&decide (x.length<=8192))&&(ps.drop (i+1)).all mayOne) at hdr
    obtain ⟨m,hm⟩:∃ m,m=y.length:=⟨_,rfl⟩
    obtain ⟨z,hz⟩:∃ z,z=x.length:=⟨_,rfl⟩
    rw [<-hm] at o0 hdr
    rw [<-hz] at o1 hdr
    obtain ⟨u,hu⟩:∃ u,u=(decide (m<=512)&&decide (z<=8192)):=⟨_,rfl⟩
    have HLO:=Lib.hid (isLong_any KA m kc VA z vc gone wr)
    rw [<-hu] at HLO hdr
    have HDR:=Lib.hid hdr
    have hwi:IntKind.i64.wrap ((i:Int)+1)=((i+1:Nat):Int):=by rw [IntKind.wrap_i64];omega
    clear hok hat hq hm hz hin hdr hu
    cases u
    · have HF:Hid (v=false):=by show _=_;rw [<-HA.out,HDR.out,Bool.false_and]
      rw [Bool.not_false] at HLO
      go_wp2_with fail
      with_reducible refine HLO.out.mono ?_
      rintro e w7 ⟨rfl,hb7⟩
      go_wp2_with fail
      go_ret
      exact ⟨(i:Int),rfl,by rw [HF.out];simp,hop BR.out hb7⟩
    · have HF:Hid ((ps.drop (i+1)).all mayOne=v):=by show _=_;rw [<-HA.out,HDR.out,Bool.true_and]
      rw [Bool.not_true] at HLO
      go_wp2_with fail
      with_reducible refine HLO.out.mono ?_
      rintro e w7 ⟨rfl,hb7⟩
      go_wp2_with fail
      go_roundg (n-(i+1))
      case measure=>have:=HI.out;omega
      case rel=>exact ⟨i+1,by have:=HI.out;omega,rfl,hop BR.out hb7,HF⟩
  · obtain rfl:i=n:=by have:=HI.out;omega
    have hkl: ¬ (i:Int)<(i:Int):=by omega
    have HF:Hid (v=true):=by
     show _=_
     rw [<-HA.out,List.drop_of_length_le (by rw [HL.out];exact Nat.le_refl _)];rfl
    go_wp2_with fail
    go_ret
    exact ⟨-1,rfl,by rw [HF.out];simp,BR.out⟩
set_option maxHeartbeats 1000000 in
theorem anyLong_any (A:Option Addr) (ps:List PPut) (n c:Nat) (w:World) (hL:ps.length=n) (hn:n<=1000000) (hs:PutsSeen w A ps):
 Calls Tryz.prog 49 #[.slice A n c,.func (.func 50) #[] #[]] w fun e w'=>e= .returned (.bool (!(ps.all mayOne)))/\Below w.heap.size w w':=by
 have HX:=Lib.hid (indexLong_any A ps n c w hL hn hs)
 obtain ⟨v,hv⟩:∃ v,v=ps.all mayOne:=⟨_,rfl⟩
 rw [<-hv] at HX ⊢
 clear hL hn hs hv
 go_enter Tryz.func49,Tryz.ntmps49
 go_wp2_with fail
 with_reducible refine HX.out.mono ?_
 rintro e w7 ⟨r,rfl,hr,hb7⟩
 have B7:=Lib.hid hb7
 clear hb7 HX
 cases v
 · have h0:0<=r:=by rw [hr]
   clear hr
   go_wp2_with fail
   go_ret
   exact ⟨rfl,B7.out⟩
 · have h0: ¬ 0<=r:=by rw [hr];decide
   have d0:decide (0<=r)=false:=decide_eq_false h0
   clear hr
   go_wp2_with fail
   go_ret
   exact ⟨rfl,B7.out⟩
section
variable {w W:World} {T:Nat->Prop} {q g b gt:Nat} {F:Nat->Prop} {h:Nat} {s:Dsk} {k:KvS} {M:List Kv}
theorem PSt.applied (p:PSt w T q g b gt F h s k) (hs:Spared w W (fun x=>x=gt)) (ht:TreeAt W T gt anyRoom M):PSt W T q g b gt F h s { k with L:=M }:=
 ⟨p.disk.apart hs (fun _ h1 h2=>p.nt (h2 ▸ h1)),hs.blk p.log p.bt,hs.blk p.box p.qt,ht,p.ins,fun x hx=>Nat.lt_of_lt_of_le (p.tlt x hx) hs.size,p.nb,p.nq,p.nt,p.bq,p.bt,p.qt,⟨p.fits.half,p.fits.two,p.fits.log⟩,p.half⟩
theorem PSt.upped (p:PSt w T q g b gt F h s k) {d u:Bool} (hu:u= !d):PSt (w.setCell ⟨q,4,none⟩ (.bool u)) T q g b gt F h s { k with down:=d }:=by
 subst hu
 have hs:Spared w (w.setCell ⟨q,4,none⟩ (.bool (!d))) (fun x=>x=q):=(Spared.refl w (fun x=>x=q)).setCell rfl _ _
 refine ⟨p.disk.apart hs (fun x h1 h2=>p.nq (h2 ▸ h1)),hs.blk p.log p.bq,?_,p.tree.moved (hs.mono (fun x hx=>by subst hx;exact ⟨p.ins _ (.inr (.inr (.inl rfl))),p.qt⟩)) (fun x hx=> .inl hx) p.tree.1,p.ins,fun x hx=>Nat.lt_of_lt_of_le (p.tlt x hx) hs.size,p.nb,p.nq,p.nt,p.bq,p.bt,p.qt,⟨p.fits.half,p.fits.two,p.fits.log⟩,p.half⟩
 exact p.box.set 4 _
theorem up_spared (w:World) (q:Nat) (v:Value):Spared w (w.setCell ⟨q,4,none⟩ v) (fun x=>x=q):=(Spared.refl w (fun x=>x=q)).setCell rfl _ _
theorem PTo.on {w1 w2:World} {T1:Nat->Prop} {b1 gt1:Nat} {F1:Nat->Prop} {s2:Dsk} {k2:KvS} (hsp:Spared w w1 (fun x=>F x\/x=b\/x=q\/x=gt)) (hT:∀ x,T x->T1 x) (hT1:∀ x,T1 x->T x\/w.heap.size<=x) (h4:∀ x,(F1 x\/x=b1\/x=gt1)->(F x\/x=b\/x=gt)\/w.heap.size<=x) (t:PTo w1 T1 q g b1 gt1 F1 h s2 k2 w2):PTo w T q g b gt F h s2 k2 w2:=by
 obtain ⟨T2,b2,gt2,F2,p2,h1,h2,h3,h5⟩:=t
 have hz:=hsp.size
 have key:∀ x,(F1 x\/x=b1\/x=gt1)->(F x\/x=b\/x=q\/x=gt)\/w.heap.size<=x:=fun x hx=>(h4 x hx).imp (fun h=>h.elim .inl (fun h=>h.elim (fun h=> .inr (.inl h)) (fun h=> .inr (.inr (.inr h))))) id
 refine ⟨T2,b2,gt2,F2,p2,hsp.trans h1 (fun x hy=> ?_),fun x hy=>h2 x (hT x hy),fun x hy=>(h3 x hy).elim (hT1 x) (fun h=> .inr (by omega)),fun x hy=>(h5 x hy).elim (h4 x) (fun h=> .inr (by omega))⟩
 rcases hy with hy | hy | hy | hy
 · exact key x (.inl hy)
 · exact key x (.inr (.inl hy))
 · exact .inl (.inr (.inr (.inl hy)))
 · exact key x (.inr (.inr hy))
theorem PTo.upped {w2:World} {s2:Dsk} {k2:KvS} (t:PTo w T q g b gt F h s2 k2 w2) {d u:Bool} (hu:u= !d):PTo w T q g b gt F h s2 { k2 with down:=d } (w2.setCell ⟨q,4,none⟩ (.bool u)):=by
 obtain ⟨T2,b2,gt2,F2,p2,h1,h2,h3,h5⟩:=t
 exact ⟨T2,b2,gt2,F2,p2.upped hu,h1.trans (up_spared w2 q _) (fun x hx=> .inl (.inr (.inr (.inl hx)))),h2,h3,h5⟩
theorem PTo.cell4 {w2:World} {s2:Dsk} {k2:KvS} (t:PTo w T q g b gt F h s2 k2 w2):w2.cell? ⟨q,4,none⟩=some (.bool (!k2.down))/\w2.frozen? ⟨q,4,none⟩=false:=by
 obtain ⟨T2,b2,gt2,F2,p2,_⟩:=t
 exact ⟨(p2.cells w2 (Below.refl _ _)).2.2.2.2,p2.box.free 4⟩
end
theorem turned_ends (h:Nat) (s:Dsk) (k:KvS) (M:List Kv): { turnedK h s k M with down:=decide ((turnL h s k M).1=5) }=(turnL h s k M).2.2.ends (turnL h s k M).1 M:=by
 unfold turnedK KvS.ends
 split<;>rfl
theorem mayPs_all {ps:List PPut} (h:ps.length<=1000):mayPs ps=ps.all mayOne:=by
 unfold mayPs
 rw [decide_eq_true h,Bool.true_and]
set_option maxRecDepth 100000 in
set_option maxHeartbeats 4000000 in
theorem kcommit_any (w:World) (T:Nat->Prop) (q g b gt:Nat) (F:Nat->Prop) (h:Nat) (s:Dsk) (k:KvS) (A:Option Addr) (ps:List PPut) (n c m:Nat) (hs:PSt w T q g b gt F h s k) (hp:∀ W,Spared w W (fun x=>F x\/x=b\/x=q\/x=gt)->PutsSeen W A ps) (hn:ps.length=n) (hn9:n<=9223372036854775807) (hf:s.Few m) (hmf:m<=690000) (hl:k.L.length+n<=99999) (hb:sizeT k.L+sizeP (valsOf ps)<=1000000000) (hbt:(batchL (valsOf ps)).length<=140737488000000) (hba:(batchL (allP (doAll (valsOf ps) k.L))).length<=140737488000000):
 Calls Tryz.prog 15 #[.pointer (some ⟨q,0,none⟩),.slice A n c] w fun e w'=>e= .returned (.int .i64 (commitL h s k (valsOf ps)).1)/\PTo w T q g b gt F h (commitL h s k (valsOf ps)).2.1 (commitL h s k (valsOf ps)).2.2 w':=by
 have HS:=Lib.hid hs
 have HP:=Lib.hid hp
 have HN:=Lib.hid hn
 have HUP:=Lib.hid (up_any hs)
 obtain ⟨D,hD⟩:∃ D,D=k.down:=⟨_,rfl⟩
 rw [<-hD] at HUP
 have HD:=Lib.hid hD
 obtain ⟨Y,hY⟩:∃ Y,Y=ps.all mayOne:=⟨_,rfl⟩
 have HANY:Hid (n<=1000->Calls Tryz.prog 49 #[.slice A n c,.func (.func 50) #[] #[]] w fun e w'=>e= .returned (.bool (!Y))/\Below w.heap.size w w'):=fun h1=>by
  rw [hY]
  exact anyLong_any A ps n c w hn (by omega) (hp w (.refl _ _))
 have HY:Hid (n<=1000->mayV (valsOf ps)=Y):=fun h1=>by rw [hY,<-mayPs_vals,mayPs_all (by omega)]
 have HYN:Hid (¬ n<=1000->mayV (valsOf ps)=false):=fun h1=>by
  rw [<-mayPs_vals]
  unfold mayPs
  rw [decide_eq_false (by omega),Bool.false_and]
 have HSRT:Hid (Srt k.L):=hs.tree.srt
 clear hs hp hn hD hY
 by_cases hD:D=true
 · subst hD
   have HC:Hid (commitL h s k (valsOf ps)=(5,s,k)):=by show _=_;unfold commitL;rw [if_pos HD.out.symm]
   rw [HC.out]
   go_enter Tryz.func15,Tryz.ntmps15
   go_wp2_with fail
   with_reducible refine HUP.out.mono ?_
   rintro e w1 ⟨rfl,hw1⟩
   obtain rfl:=hw1.symm
   go_wp2_with fail
   go_ret
   exact ⟨rfl,.still HS.out (Below.refl _ _)⟩
 obtain rfl:D=false:=by simpa using hD
 clear hD
 have hdn: ¬ k.down=true:=by rw [<-HD.out];decide
 have HDN:=Lib.hid hdn
 clear hdn
 by_cases h1000: ¬ n<=1000
 · have HC:Hid (commitL h s k (valsOf ps)=(2,s,k)):=by show _=_;unfold commitL;rw [if_neg HDN.out,if_pos (HYN.out h1000)]
   rw [HC.out]
   have d1:decide ((1000:Int)<(n:Int))=true:=decide_eq_true (by omega)
   go_enter Tryz.func15,Tryz.ntmps15
   go_wp2_with fail
   with_reducible refine HUP.out.mono ?_
   rintro e w1 ⟨rfl,hw1⟩
   obtain rfl:=hw1.symm
   go_wp2_with fail
   go_ret
   exact ⟨rfl,.still HS.out (Below.refl _ _)⟩
 have h1000:n<=1000:=by omega
 have d1:decide ((1000:Int)<(n:Int))=false:=decide_eq_false (by omega)
 have HYY:=Lib.hid (HY.out h1000)
 have HANY2:=Lib.hid (HANY.out h1000)
 clear HANY HY HYN
 by_cases hY:Y=false
 · subst hY
   have HC:Hid (commitL h s k (valsOf ps)=(2,s,k)):=by show _=_;unfold commitL;rw [if_neg HDN.out,if_pos HYY.out]
   rw [HC.out]
   rw [Bool.not_false] at HANY2
   go_enter Tryz.func15,Tryz.ntmps15
   go_wp2_with fail
   with_reducible refine HUP.out.mono ?_
   rintro e w1 ⟨rfl,hw1⟩
   obtain rfl:=hw1.symm
   go_wp2_with fail
   with_reducible refine HANY2.out.mono ?_
   rintro e w1 ⟨rfl,hb1⟩
   have B1:=Lib.hid hb1
   clear hb1
   go_wp2_with fail
   go_ret
   exact ⟨rfl,.still HS.out B1.out⟩
 obtain rfl:Y=true:=by simpa using hY
 clear hY
 rw [Bool.not_true] at HANY2
 by_cases hn0:n=0
 · subst hn0
   have HC:Hid (commitL h s k (valsOf ps)=(0,s,k)):=by
    show _=_
    have h0:valsOf ps=[]:=List.eq_nil_of_length_eq_zero (by rw [valsOf_length];exact HN.out)
    unfold commitL
    rw [if_neg HDN.out,if_neg (by rw [HYY.out];decide),if_pos h0]
   rw [HC.out]
   go_enter Tryz.func15,Tryz.ntmps15
   go_wp2_with fail
   with_reducible refine HUP.out.mono ?_
   rintro e w1 ⟨rfl,hw1⟩
   obtain rfl:=hw1.symm
   go_wp2_with fail
   with_reducible refine HANY2.out.mono ?_
   rintro e w1 ⟨rfl,hb1⟩
   have B1:=Lib.hid hb1
   clear hb1
   go_wp2_with fail
   go_ret
   exact ⟨rfl,.still HS.out B1.out⟩
 have n1:(n==0)=false:=by rw [beq_eq_false_iff_ne];exact hn0
 have n2:((n:Int)==0)=false:=by rw [beq_eq_false_iff_ne];omega
 obtain ⟨M,hM⟩:∃ M,M=doAll (valsOf ps) k.L:=⟨_,rfl⟩
 obtain ⟨d,hd⟩:∃ d,d=batchL (valsOf ps):=⟨_,rfl⟩
 obtain ⟨E,hE⟩:∃ E,E=k.lg.err s d:=⟨_,rfl⟩
 obtain ⟨s3,hs3⟩:∃ s3,s3=k.lg.dsk s d:=⟨_,rfl⟩
 obtain ⟨lg3,hlg3⟩:∃ lg3,lg3=k.lg.next s d:=⟨_,rfl⟩
 have HC:Hid (commitL h s k (valsOf ps)=if E=4 then ((turnL h s k M).1,(turnL h s k M).2.1,(turnL h s k M).2.2.ends (turnL h s k M).1 M) else (E,s3,({ k with lg:=lg3 }:KvS).ends E M)):=by
  show _=_
  have h0:valsOf ps≠[]:=fun h=>hn0 (by have:=congrArg List.length h;rw [valsOf_length] at this;rw [<-HN.out];exact this)
  unfold commitL
  rw [if_neg HDN.out,if_neg (by rw [HYY.out];decide),if_neg h0,hE,hs3,hlg3,hd,hM]
 obtain ⟨R,hR⟩:∃ R,R=commitL h s k (valsOf ps):=⟨_,rfl⟩
 rw [<-hR]
 have HR:Hid (R=if E=4 then ((turnL h s k M).1,(turnL h s k M).2.1,(turnL h s k M).2.2.ends (turnL h s k M).1 M) else (E,s3,({ k with lg:=lg3 }:KvS).ends E M)):=hR.trans HC.out
 clear hR HC
 have HFULL:Hid (E=4->s3=s/\lg3=k.lg):=fun h=>by rw [hs3,hlg3];exact err_full (hE ▸ h)
 have hnx:=HS.out.fits.log.next (d:=d)
 rw [<-hs3,<-hlg3] at hnx
 have HNX:=Lib.hid hnx
 rw [<-hM] at hba
 rw [<-hd] at hbt
 have HBAT:Hid (∀ W,Below w.heap.size w W->Calls Tryz.prog 52 #[.slice A n c] W fun e w'=>∃ A' n' c',e= .returned (.slice A' n' c')/\MadeN 5 W d A' n' c' w'):=fun W hW=>by
  have h5:=batch_any A ps n c W HN.out (HP.out W (.of_below hW _)) hn9 (by rw [<-hd];exact hbt)
  rw [<-hd] at h5
  exact h5
 have HAPP:Hid (∀ W,Below w.heap.size w W->∀ A6 n6 c6,MadeN 5 w d A6 n6 c6 W->Calls Tryz.prog 51 #[.pointer (some ⟨b,0,none⟩),.slice A6 n6 c6] W fun e w'=>e= .returned (.int .i64 E)/\LMoved W g b F s3 lg3 w'):=fun W hW A6 n6 c6 hm=>by
  obtain ⟨hn,hm⟩:=hm
  obtain ⟨A2,c2,hv,hsn⟩:=hm.form
  injection hv with e1 e2 e3
  subst e1
  rw [hE,hs3,hlg3]
  exact append_any W g b F s k.lg A6 d n6 c6 m ⟨HS.out.disk.still hW,HS.out.log.below hW HS.out.log.lt,HS.out.nb,HS.out.fits.log⟩ hsn hn (by omega) hf (by omega)
 have HM:=Lib.hid hM
 have HF:=Lib.hid hf
 have HL:=Lib.hid hl
 have HZ:=Lib.hid hb
 have HBA:=Lib.hid hba
 clear hM hd hE hs3 hlg3 hnx hf hl hb hba hbt
 go_enter Tryz.func15,Tryz.ntmps15
 go_wp2_with fail
 with_reducible refine HUP.out.mono ?_
 rintro e w0 ⟨rfl,hw1⟩
 obtain rfl:=hw1.symm
 go_wp2_with fail
 with_reducible refine HANY2.out.mono ?_
 rintro e w1 ⟨rfl,hb1⟩
 have B1:=Lib.hid hb1
 have bd:Below w1.heap.size w1 w1.drew:=(Below.refl _ _).drew
 have BD:Below w.heap.size w w1.drew:=hop hb1 bd
 have HC1:Hid (∀ W,Spared w1 W (fun x=>F x\/x=b)->W.cell? ⟨q,2,none⟩=some (.pointer (some ⟨b,0,none⟩))):=fun W hW=>by
  have h5:=((Spared.of_below B1.out (fun x=>F x\/x=b)).trans hW (fun _ h=> .inl h)).blk HS.out.box (fun h=>h.elim HS.out.nq (fun e=>HS.out.bq e.symm))
  exact h5.cell (i:=2) (by simp [psCells])
 have SD:Spared w1 w1.drew (fun x=>F x\/x=b):= .of_below bd _
 clear hb1 HUP HANY2
 go_wp2_with fail
 go_region_held_law (fun W=>W.cell? ⟨q,2,none⟩=some (.pointer (some ⟨b,0,none⟩)))
  (first | exact HC1.out _ SD | exact HC1.out _ S6 | exact HC1.out _ S7)
  (first
   | (go_at_call 52;(with_reducible refine (HBAT.out _ BD).mono ?_);rintro e w6 ⟨A6,n6,c6,rfl,hm6⟩;have B16:=hop bd hm6.2.2;have B6:=hop BD hm6.2.2;have S6:Spared w1 w6 (fun x=>F x\/x=b):= .of_below B16 _;have M6:Hid (MadeN 5 w d A6 n6 c6 w6):=⟨hm6.1,hm6.2.since BD⟩;clear hm6)
   | (go_at_call 51;(with_reducible refine (HAPP.out _ B6 _ _ _ M6.out).mono ?_);rintro e w7 ⟨rfl,F7,hr7,hl7,hn7,hs7,hg7⟩;have S7:Spared w1 w7 (fun x=>F x\/x=b):=S6.trans hs7 (fun _ h=> .inl h);have R7:=Lib.hid hr7;have L7:=Lib.hid hl7;have N7:=Lib.hid hn7;have HG7:Hid (∀ x,F7 x->F x\/w6.heap.size<=x):=hg7;clear hr7 hl7 hn7 hs7 hg7))
 all_goals
  have hsp:Spared w w7 (fun x=>F x\/x=b):=(Spared.of_below B1.out (fun x=>F x\/x=b)).trans S7 (fun _ h=> .inl h)
  have hG7:∀ x,F7 x->F x\/w.heap.size<=x:=fun x hx=>(HG7.out x hx).imp id (fun h=>by have:=B6.size;omega)
  have hT:∀ x,(F x\/x=b)->T x:=fun x hx=>hx.elim (fun h=>HS.out.ins x (.inl h)) (fun h=>HS.out.ins x (.inr (.inl h)))
  have P7:Hid (PTo w T q g b gt F h s3 { k with lg:=lg3 } w7):=by
   refine PTo.make HS.out (hsp.mono (fun x hx=>hx.elim .inl (fun h=> .inr (.inl h)))) R7.out L7.out (hsp.blk HS.out.box (fun h=>h.elim HS.out.nq (fun e=>HS.out.bq e.symm))) ?_ (.inl rfl) (.inl rfl) hG7 N7.out (fun h=>(hG7 _ h).elim HS.out.nt (fun h=>by have:=HS.out.tree.lt;omega)) HS.out.bt ⟨⟨HS.out.fits.half.pos,by rw [HNX.out.2.2];exact HS.out.fits.half.fits⟩,HS.out.fits.two,HNX.out.1⟩ HNX.out.2.2
   refine HS.out.tree.moved (hsp.mono (fun x hx=>⟨hT x hx,fun e=> ?_⟩)) (fun x hx=> ?_) (.inr (.inr (.inr rfl)))
   · subst e
     exact hx.elim HS.out.nt (fun e=>HS.out.bt e.symm)
   · rcases hx with hx | hx | hx | hx
     · exact .inl hx
     · exact (hG7 x hx).imp (fun h=>hT x (.inl h)) id
     · exact .inl (HS.out.ins x (.inr (.inl hx)))
     · exact .inl (HS.out.ins x (.inr (.inr (.inr hx))))
  obtain ⟨T2,b2,gt2,F2,p2,m1,m2,m3,m4⟩:=P7.out
  have P2:=Lib.hid p2
  have M1:=Lib.hid m1
  have M2:=Lib.hid m2
  have M3:=Lib.hid m3
  have M4:=Lib.hid m4
  have HP7:Hid (∀ W,Spared w7 W (fun x=>F2 x\/x=b2\/x=q\/x=gt2)->PutsSeen W A ps):=fun W hW=>HP.out W (m1.trans hW (fun x hx=>by
   rcases hx with hx | hx | hx | hx
   · exact (m4 x (.inl hx)).imp (fun h=>h.elim .inl (fun h=>h.elim (fun h=> .inr (.inl h)) (fun h=> .inr (.inr (.inr h))))) id
   · exact (m4 x (.inr (.inl hx))).imp (fun h=>h.elim .inl (fun h=>h.elim (fun h=> .inr (.inl h)) (fun h=> .inr (.inr (.inr h))))) id
   · exact .inl (.inr (.inr (.inl hx)))
   · exact (m4 x (.inr (.inr hx))).imp (fun h=>h.elim .inl (fun h=>h.elim (fun h=> .inr (.inl h)) (fun h=> .inr (.inr (.inr h))))) id))
  obtain ⟨x0,x1,x2,x3,x4⟩:=p2.cells w7 (Below.refl _ _)
  have z4:=p2.box.free 4
  clear hsp hG7 hT p2 m1 m2 m3 m4 P7 x0 x1 x2
  by_cases hE0:E=0
  · subst hE0
    have HRE:Hid (R=(0,s3,({ k with lg:=lg3 }:KvS).ends 0 M)):=by show _=_;rw [HR.out];exact if_neg (by decide)
    have HAP:Hid (Calls Tryz.prog 53 #[.pointer (some ⟨gt2,0,none⟩),.slice A n c] w7 fun e w'=>e= .returned (.tuple #[])/\TreeAt w' T2 gt2 anyRoom (doAll (valsOf ps) k.L)/\Spared w7 w' (fun b=>b=gt2)):=
     apply_any w7 T2 P2.out.tlt gt2 k.L P2.out.tree A ps n c (fun W hW=>HP7.out W (hW.mono (fun x hx=> .inr (.inr (.inr hx))))) HN.out HL.out HZ.out
    rw [<-HM.out] at HAP
    go_wp2_with fail
    with_reducible refine HAP.out.mono ?_
    rintro e w8 ⟨rfl,ht8,hs8⟩
    have P8:=Lib.hid (P2.out.applied hs8 ht8)
    have M8:Hid (Spared w w8 (fun x=>F x\/x=b\/x=q\/x=gt)):=M1.out.trans hs8 (fun x hx=>(M4.out x (.inr (.inr hx))).imp (fun h=>h.elim .inl (fun h=>h.elim (fun h=> .inr (.inl h)) (fun h=> .inr (.inr (.inr h))))) id)
    have f4:=P8.out.box.free 4
    have g4:=(P8.out.cells w8 (Below.refl _ _)).2.2.2.2
    clear ht8 hs8 HAP x3 x4 z4
    go_wp2_with fail
    go_ret
    rw [HRE.out]
    exact ⟨rfl,T2,b2,gt2,F2,P8.out.upped (d:=false) rfl,M8.out.trans (up_spared w8 q _) (fun x hx=> .inl (.inr (.inr (.inl hx)))),M2.out,M3.out,M4.out⟩
  have e0:(E==0)=false:=by rw [beq_eq_false_iff_ne];exact hE0
  by_cases hE4:E=4
  · subst hE4
    obtain ⟨hs3,hlg3⟩:=HFULL.out rfl
    subst hs3 hlg3
    have HRE:Hid (R=((turnL h s3 k M).1,(turnL h s3 k M).2.1,(turnL h s3 k M).2.2.ends (turnL h s3 k M).1 M)):=by show _=_;rw [HR.out];exact if_pos rfl
    have HTU:Hid (Calls Tryz.prog 54 #[.pointer (some ⟨q,0,none⟩),.slice A n c] w7 fun e w'=>e= .returned (.int .i64 (turnL h s3 k (doAll (valsOf ps) k.L)).1)/\PTo w7 T2 q g b2 gt2 F2 h (turnL h s3 k (doAll (valsOf ps) k.L)).2.1 (turnedK h s3 k (doAll (valsOf ps) k.L)) w'):=
     kturn_any w7 T2 q g b2 gt2 F2 h s3 k A ps n c m P2.out (fun W hW=>HP7.out W (.of_below hW _)) HN.out HL.out HZ.out (by rw [<-HM.out];exact HBA.out) HF.out (by omega)
    rw [<-HM.out] at HTU
    obtain ⟨E2,hE2⟩:∃ E2,E2=(turnL h s3 k M).1:=⟨_,rfl⟩
    rw [<-hE2] at HTU HRE
    have HE2:=Lib.hid hE2
    obtain ⟨u,hu⟩:∃ u,u=decide (E2=5):=⟨_,rfl⟩
    have hb5:(E2==5)=u:=by rw [hu];rfl
    have HU:=Lib.hid hu
    clear hE2 hu
    go_wp2_with fail
    with_reducible refine HTU.out.mono ?_
    rintro e w8 ⟨rfl,hp8⟩
    have P8:=Lib.hid (PTo.on M1.out M2.out M3.out M4.out hp8)
    obtain ⟨g4,f4⟩:=P8.out.cell4
    clear hp8 HTU x3 x4 z4
    go_wp2_with fail
    go_ret
    have P9:=P8.out.upped (d:=u) (u:=(E2 != 5)) (by show (!(E2==5))=_;rw [hb5])
    rw [HU.out,HE2.out,turned_ends,<-HE2.out] at P9
    rw [HRE.out]
    exact ⟨rfl,P9⟩
  have e4:(E==4)=false:=by rw [beq_eq_false_iff_ne];exact hE4
  obtain ⟨u,hu⟩:∃ u,u=decide (E=5):=⟨_,rfl⟩
  have hb5:(E==5)=u:=by rw [hu];rfl
  have HU:=Lib.hid hu
  have HRE:Hid (R=(E,s3,({ k with lg:=lg3 }:KvS).ends E M)):=by show _=_;rw [HR.out];exact if_neg hE4
  have HKE:Hid (({ k with lg:=lg3 }:KvS).ends E M= { ({ k with lg:=lg3 }:KvS) with down:=u }):=by
   show _=_
   rw [HU.out]
   unfold KvS.ends
   rw [if_neg hE0]
  have HP9:Hid (PTo w T q g b gt F h s3 { k with lg:=lg3 } w7):=⟨T2,b2,gt2,F2,P2.out,M1.out,M2.out,M3.out,M4.out⟩
  clear hu hE0 hE4
  go_wp2_with fail
  go_ret
  rw [HRE.out]
  refine ⟨rfl,?_⟩
  show PTo _ _ _ _ _ _ _ _ s3 (KvS.ends _ E M) _
  rw [HKE.out]
  exact HP9.out.upped (d:=u) (by show (!(E==5))=_;rw [hb5])
theorem putsV_len:∀ (l:List PutV),(∀ p ∈ l,p.1.length<=1000000/\p.2.1.length<=1000000)->(putsV l).length<=l.length*19+sizeP l
 | [],_=>by simp [putsV]
 | p::l,h=>by
  have h1:=h p (by simp)
  have ih:=putsV_len l (fun q hq=>h q (by simp [hq]))
  have e:putsV (p::l)=putV1 p++putsV l:=rfl
  have k1:=putL_length9 (n:=p.1.length) (by omega)
  have k2:=putL_length9 (n:=p.2.1.length) (by omega)
  have hp:(putV1 p).length<=19+(p.1.length+p.2.1.length):=by
   unfold putV1
   split
   · rw [List.length_cons,partP,List.length_append];omega
   · rw [List.length_cons,List.length_append,partP,partP,List.length_append,List.length_append];omega
  rw [e,List.length_append,List.length_cons,Nat.succ_mul,sizeP_cons]
  omega
theorem batch_len {l:List PutV} (hl:l.length<=1000000) (h:∀ p ∈ l,p.1.length<=1000000/\p.2.1.length<=1000000):(batchL l).length<=9+(l.length*19+sizeP l):=by
 have h1:=putsV_len l h
 have h2:=putL_length9 (n:=l.length) (by omega)
 rw [batchL,List.length_append]
 omega
theorem sizeP_allP (L:List Kv):sizeP (allP L)=sizeT L:=by
 induction L with
 | nil=>rfl
 | cons x L ih=>
  show sizeP ((x.1,x.2,false)::allP L)=_
  rw [sizeP_cons,ih,sizeL_cons]
def FewV (l:List PutV):Prop:=l.length<=60/\∀ p ∈ l,p.1.length<=500/\p.2.1.length<=500
theorem sizeP_le:∀ (l:List PutV),(∀ p ∈ l,p.1.length<=500/\p.2.1.length<=500)->sizeP l<=l.length*1000
 | [],_=>Nat.le_refl _
 | p::l,h=>by
  have h1:=h p (by simp)
  have h2:=sizeP_le l (fun q hq=>h q (by simp [hq]))
  rw [sizeP_cons,List.length_cons,Nat.succ_mul]
  omega
theorem FewV.size {l:List PutV} (h:FewV l):sizeP l<=60000:=by have:=sizeP_le l h.2;have:=h.1;omega
theorem FewV.may {l:List PutV} (h:FewV l):mayV l=true:=by
 unfold mayV
 rw [Bool.and_eq_true,decide_eq_true_eq,List.all_eq_true]
 refine ⟨by have:=h.1;omega,fun p hp=> ?_⟩
 have:=h.2 p hp
 unfold mayOneV
 rw [Bool.and_eq_true,decide_eq_true_eq,decide_eq_true_eq]
 omega
structure Tame (L:List Kv) (l:List PutV):Prop where
 len:L.length+l.length<=99999
 size:sizeT L+sizeP l<=1000000
 mild:Mild (doAll l L)
 bat:(batchL l).length<=140737488000000
 all:(batchL (allP (doAll l L))).length<=140737488000000
theorem tame {L:List Kv} {l:List PutV} (hs:Srt L) (h1:L.length<=30000) (h2:sizeT L<=30000) (hl:FewV l):Tame L l:=by
 have k1:=hl.1
 have k2:=hl.size
 have k3:=doAll_length (l:=l) hs
 have k4:=size_doAll (l:=l) hs
 have k5:=batch_len (l:=l) (by omega) (fun p hp=>by have:=hl.2 p hp;omega)
 have k6:(allP (doAll l L)).length=(doAll l L).length:=by unfold allP;rw [List.length_map]
 have k7:=batch_len (l:=allP (doAll l L)) (by omega) (fun p hp=>by
  unfold allP at hp
  obtain ⟨x,hx,rfl⟩:=List.mem_map.1 hp
  have:=sizeT_mem hx
  constructor
  · show x.1.length<=_;omega
  · show x.2.length<=_;omega)
 rw [sizeP_allP,k6] at k7
 exact ⟨by omega,by omega,⟨by omega,by omega⟩,by omega,by omega⟩
theorem commit_few {h m:Nat} {s:Dsk} {k:KvS} {l:List PutV} (f:k.Fits h s) (ok:s.Ok) (hf:s.Few m) (_hb:(batchL l).length<=140737488000000):(commitL h s k l).2.1.Few (m+1100):=by
 unfold commitL
 split
 · exact hf.mono (by omega)
 · split
   · exact hf.mono (by omega)
   · split
     · exact hf.mono (by omega)
     · split
       · exact turn_few f ok hf
       · have hc:=k.lg.code_fits (batchL l)
         exact (Lg.few f.log ok hf).mono (by omega)
def KLive (w0 w:World) (g q h:Nat) (s:Dsk) (a:Nat) (gen:Int) (ds:List (List UInt8)) (L:List Kv) (m:Nat):Prop:=
 ∃ (T:Nat->Prop) (b gt:Nat) (F:Nat->Prop),PSt w T q g b gt F h s (kvAt h a gen ds L)/\KvOn s h a gen ds L/\s.Quiet/\s.Few m/\Below w0.heap.size w0 w/\∀ x,T x->w0.heap.size<=x
section
variable {w0 w w':World} {g q gm h:Nat} {s:Dsk} {a:Nat} {gen:Int} {ds:List (List UInt8)} {L M:List Kv} {m:Nat}
theorem KLive.still (k:KLive w0 w g q h s a gen ds L m) (hb:Below w.heap.size w w'):KLive w0 w' g q h s a gen ds L m:=by
 obtain ⟨T,b,gt,F,h1,h2,h3,h4,h5,h6⟩:=k
 exact ⟨T,b,gt,F,h1.below hb,h2,h3,h4,hop h5 hb,h6⟩
theorem KLive.below (k:KLive w0 w g q h s a gen ds L m):Below w0.heap.size w0 w:=by obtain ⟨T,b,gt,F,_,_,_,_,h5,_⟩:=k;exact h5
theorem KLive.on (k:KLive w0 w g q h s a gen ds L m):KvOn s h a gen ds L:=by obtain ⟨T,b,gt,F,_,h2,_⟩:=k;exact h2
theorem KLive.quiet (k:KLive w0 w g q h s a gen ds L m):s.Quiet:=by obtain ⟨T,b,gt,F,_,_,h2,_⟩:=k;exact h2
theorem KLive.small (k:KLive w0 w g q h s a gen ds L m) (hK:s.K.length<=400):L.length<=30000/\sizeT L<=30000:=by
 have h1:=k.on.small
 have h2:=k.on.half.fits
 omega
theorem KLive.turn (k:KLive w0 w g q h s a gen ds L m):Calls Tryz.prog 31 #[.pointer (some ⟨q,0,none⟩)] w fun e w'=>e= .returned (.int .i64 gen)/\w'=w:=by
 obtain ⟨T,b,gt,F,h1,_⟩:=k
 exact turn_any h1
theorem KLive.len (k:KLive w0 w g q h s a gen ds L m):Calls Tryz.prog 38 #[.pointer (some ⟨q,0,none⟩)] w fun e w'=>e= .returned (.int .i64 (L.length:Int))/\w'=w:=by
 obtain ⟨T,b,gt,F,h1,_⟩:=k
 exact klen_any h1
theorem KLive.up (k:KLive w0 w g q h s a gen ds L m):Calls Tryz.prog 34 #[.pointer (some ⟨q,0,none⟩)] w fun e w'=>e= .returned (.bool true)/\w'=w:=by
 obtain ⟨T,b,gt,F,h1,_⟩:=k
 exact up_any h1
theorem KLive.get (k:KLive w0 w g q h s a gen ds L m) {B:Option Addr} {y:Key} {z d:Nat} (hk:Seen w B y) (hm:y.length=z):Calls Tryz.prog 37 #[.pointer (some ⟨q,0,none⟩),.slice B z d] w (KGet w y L):=by
 obtain ⟨T,b,gt,F,h1,_⟩:=k
 exact kget_any h1 hk hm
def CommitQ (s:Dsk) (a:Nat) (gen:Int) (ds:List (List UInt8)) (L M:List Kv) (E:Int) (s':Dsk) (a':Nat) (gen':Int) (ds':List (List UInt8)) (L':List Kv):Prop:=
 (E=0/\L'=M/\gen<=gen'/\gen'<=gen+1)\/(E=4/\s'=s/\a'=a/\gen'=gen/\ds'=ds/\L'=L)
theorem commit_q (k:KvOn s h a gen ds L) (hq:s.Quiet) {l:List PutV} (hl:FewV l) (t:Tame L l):
 ∃ E s' a' gen' ds' L',commitL h s (kvAt h a gen ds L) l=(E,s',kvAt h a' gen' ds' L')/\KvOn s' h a' gen' ds' L'/\s'.Quiet/\s'.K.length=s.K.length/\CommitQ s a gen ds L (doAll l L) E s' a' gen' ds' L':=by
 have hK:(commitL h s (kvAt h a gen ds L) l).2.1.K.length=s.K.length:=by
  have f:(kvAt h a gen ds L).Fits h s:=⟨k.half,k.two,k.has.fits k.half.pos⟩
  unfold commitL
  split
  · rfl
  · split
    · rfl
    · split
      · rfl
      · split
        · exact (turn_fits f).2.2
        · exact (f.log.next (d:=batchL l)).2.2
 by_cases h0:l=[]
 · subst h0
   have e:=commit_none (h:=h) (s:=s) (k:=kvAt h a gen ds L) rfl
   exact ⟨0,s,a,gen,ds,L,e,k,hq,rfl,.inl ⟨rfl,rfl,Int.le_refl _,by omega⟩⟩
 · have hc:=commit_to k hl.may h0 t.mild
   obtain ⟨⟨E,s',k'⟩,hR⟩:∃ R,R=commitL h s (kvAt h a gen ds L) l:=⟨_,rfl⟩
   rw [<-hR] at hc hK ⊢
   rcases hc with ⟨rfl,a',g',ds',h1,h2,h3,h4,h5⟩ | ⟨rfl,h1,h2⟩ | ⟨_,h1,_⟩
   · exact ⟨0,s',a',g',ds',doAll l L,by rw [<-h2],h1,h3 hq,hK,.inl ⟨rfl,rfl,h4,h5⟩⟩
   · refine ⟨4,s,a,gen,ds,L,?_,k,hq,rfl,.inr ⟨rfl,rfl,rfl,rfl,rfl,rfl⟩⟩
     rw [<-h2,<-h1]
   · exact absurd hq h1
theorem KLive.open_ (k:KLive w0 w g q h s a gen ds L m) (hK:s.K.length<=400) (hm:m<=690000):
 Calls Tryz.prog 13 #[.pointer (some ⟨g,0,none⟩)] w fun e w'=>∃ q',e= .returned (.tuple #[.pointer (some ⟨q',0,none⟩),.int .i64 0])/\KLive w0 w' g q' h s a gen ds L m/\Below w.heap.size w w':=by
 obtain ⟨T,b,gt,F,k1,k2,k3,k4,k5,k6⟩:=k
 have ho:=k2.open_ k3.1
 refine (kopen_any w T k1.tlt g F (fun x hx=>k1.ins x (.inl hx)) s h m k1.disk k1.half (by omega) k4 (by omega)).mono ?_
 rintro e w' (⟨h1,_⟩ | ⟨k',T',q',b',gt',F',h1,rfl,h3,h4,h5,h6,h7,h8,h9,h10,h11⟩)
 · rw [ho] at h1;cases h1
 · rw [ho] at h1 h3 ⊢
   injection h1 with h1
   subst h1
   have hb:=h11 (by rw [k2.pick];exact fun h=>nomatch h)
   have:=k5.size
   exact ⟨q',rfl,⟨T',b',gt',F',h3,k2,k3,k4,hop k5 hb,fun x hx=>(h7 x hx).elim (k6 x) (fun h=>by omega)⟩,hb⟩
theorem KvNo.open_q {n:Nat} (k:KvNo s h) (hq:s.Quiet):
 (openK h s).1=0/\KvOn (openK h s).2.1 h 0 1 [batchL []] []/\(openK h s).2.2=some (kvAt h 0 1 [batchL []] [])/\(openK h s).2.1.Quiet/\(s.Few n->(openK h s).2.1.Few (n+1100))/\(openK h s).2.1.K.length=s.K.length:=by
 have hfit:(Lg.new 0 h 1).Fits s:=⟨k.half.pos,by have:=k.half.fits;show 0+h<=_;omega,Nat.zero_le _,Nat.le_refl _,Int.le_refl _,by show (1:Int)<=_;decide⟩
 have e:openK h s=((Lg.new 0 h 1).err s (batchL []),(Lg.new 0 h 1).dsk s (batchL []),if (Lg.new 0 h 1).err s (batchL [])=0 then some ⟨0,(Lg.new 0 h 1).next s (batchL []),[],false⟩ else none):=by
  unfold openK
  rw [if_neg (by have:=k.half.pos;omega),if_neg (by rw [hq.1];decide),k.pick]
 rw [e]
 have hrec:recsL [batchL []] []=some []:=recs_batch (l:=[]) rfl []
 rcases k.begin hrec (first_fits k.half.pos) with ⟨h1,h2,h3,h4⟩ | ⟨_,h2,_⟩
 · refine ⟨h1,h2,?_,h4 hq,fun hf=> ?_,(hfit.next (d:=batchL [])).2.2⟩
   · simp only
     rw [if_pos h1,h3]
     rfl
   · have hc:=(Lg.new 0 h 1).code_fits (batchL [])
     exact (Lg.few hfit k.ok hf).mono (by omega)
 · exact absurd hq h2
theorem new_no {n:Nat} (h2:2<=n) (h4:n<=4096):KvNo (Dsk.new n) (n/2):=by
 have hl:(Dsk.new n).K.length=n:=List.length_replicate
 have ok:=Dsk.new_ok h4
 have hz:∀ f,f+n/2<=n->areaOf (Dsk.new n).K f (n/2)≠[]/\∀ r ∈ areaOf (Dsk.new n).K f (n/2),r.head? =some 0:=fun f hf=>by
  refine ⟨fun e=> ?_,fun r hr=> ?_⟩
  · have:=areaOf_length (K:=(Dsk.new n).K) (f:=f) (n:=n/2) (by rw [hl];exact hf)
    rw [e] at this
    simp at this
    omega
  · have h5:r ∈ (Dsk.new n).K:=List.mem_of_mem_drop (List.mem_of_mem_take hr)
    rw [show (Dsk.new n).K=List.replicate n (List.replicate 64 0) from rfl] at h5
    rw [(List.mem_replicate.1 h5).2]
    rfl
 exact ⟨⟨by omega,by rw [hl];omega⟩,ok,rfl,.fresh (hz 0 (by omega)).1 (hz 0 (by omega)).2,.fresh (hz (n/2) (by omega)).1 (hz (n/2) (by omega)).2⟩
theorem kopen_new {F:Nat->Prop} {n:Nat} (hd:DiskAt w g F (Dsk.new n)) (h2:2<=n) (h4:n<=400) (hb:Below w0.heap.size w0 w) (hF:∀ k,F k->w0.heap.size<=k):
 Calls Tryz.prog 13 #[.pointer (some ⟨g,0,none⟩)] w fun e w'=>∃ q s',e= .returned (.tuple #[.pointer (some ⟨q,0,none⟩),.int .i64 0])/\s'.K.length=n/\KLive w0 w' g q (n/2) s' 0 1 [batchL []] [] 1100:=by
 have hl:(Dsk.new n).K.length=n:=List.length_replicate
 have hno:=new_no h2 (by omega)
 obtain ⟨o1,o2,o3,o4,o5,o6⟩:=hno.open_q (n:=0) ⟨rfl,rfl⟩
 refine (kopen_any w F hd.lt g F (fun x hx=>hx) (Dsk.new n) (n/2) 0 hd (by rw [hl]) (by omega) (Dsk.Few.new n) (by omega)).mono ?_
 rintro e w' (⟨h1,_⟩ | ⟨k',T',q',b',gt',F',h1,rfl,h3,h4,h5,h6,h7,h8,h9,h10,h11⟩)
 · rw [o3] at h1;cases h1
 · rw [o3] at h1
   injection h1 with h1
   subst h1
   have:=hb.size
   exact ⟨q',_,by rw [o1],by rw [o6,hl],T',b',gt',F',h3,o2,o4,o5 (Dsk.Few.new n),h4.below hb hF,fun x hx=>(h7 x hx).elim (hF x) (fun h=>by omega)⟩
end
end Go.Proofs.YtdaahapbpnjkfaaGreat
