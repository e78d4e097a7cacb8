/-
The document's map as it lies; find, Size, Get. Conditions: at most 100,000 pairs, of at most 1,000,000,000 bytes a key and a value.
-/
import Derived.Test.YtdaahapbpnjkfaaGreatCSearch
import Derived.Test.YtdaahapbpnjkfaaGreatCTrGet
import Derived.Test.YtdaahapbpnjkfaaGreatCFEnc
import Derived.BigQuiet
namespace Go.Proofs.YtdaahapbpnjkfaaGreat
open Go.RowKit
theorem low_stop {L:List Kv} (hs:Srt L) (k:Key) (i:Nat) (hi:i<=L.length) (h1:∀ j (h:j<L.length),j<i->ltK L[j].1 k=true) (h2:∀ h:i<L.length,ltK L[i].1 k=false):low k L=L.take i/\(low k L).length=i:=by
 have e:low k L=L.take i:=by
  conv=>lhs;rw [<-List.take_append_drop i L]
  rw [low_append,low_all,low_none,List.append_nil]
  · intro x hx
    obtain ⟨j,hj,rfl⟩:=List.mem_iff_getElem.1 hx
    rw [List.length_drop] at hj
    rw [List.getElem_drop]
    rcases Nat.eq_zero_or_pos j with h0 | h0
    · subst h0;exact h2 _
    · have hlt:=List.pairwise_iff_getElem.1 hs i (i+j) (by omega) (by omega) (by omega)
      cases hx:ltK L[i+j].1 k
      · rfl
      · have:=ltK_trans hlt hx
        rw [h2 (by omega)] at this
        cases this
  · intro x hx
    obtain ⟨j,hj,rfl⟩:=List.mem_iff_getElem.1 hx
    rw [List.length_take] at hj
    rw [List.getElem_take]
    exact h1 j _ (by omega)
 exact ⟨e,by rw [e,List.length_take];omega⟩
theorem place_stop {L:List Kv} (hs:Srt L) (k:Key) (i:Nat) (hi:i<=L.length) (h1:∀ j (h:j<L.length),j<i->ltK L[j].1 k=true) (h2:∀ h:i<L.length,ltK L[i].1 k=false):(low k L).length=i/\(∀ h:i<L.length,hasL k L=decide (L[i].1=k))/\(i=L.length->hasL k L=false):=by
 obtain ⟨e,hl⟩:=low_stop hs k i hi h1 h2
 refine ⟨hl,fun h=> ?_,fun h=> ?_⟩
 · by_cases hk:L[i].1=k
   · rw [decide_eq_true hk]
     unfold hasL
     rw [List.any_eq_true]
     exact ⟨L[i],List.getElem_mem h,by simp [hk]⟩
   · rw [decide_eq_false hk]
     refine hasL_none fun x hx he=> ?_
     obtain ⟨j,hj,rfl⟩:=List.mem_iff_getElem.1 hx
     rcases Nat.lt_trichotomy j i with h3 | h3 | h3
     · have:=h1 j hj h3
       rw [he,ltK_self] at this
       cases this
     · subst h3;exact hk he
     · have hlt:=List.pairwise_iff_getElem.1 hs i j h hj h3
       have:=h2 h
       rw [<-he,hlt] at this
       cases this
 · refine hasL_none fun x hx he=> ?_
   obtain ⟨j,hj,rfl⟩:=List.mem_iff_getElem.1 hx
   have:=h1 j hj (by omega)
   rw [he,ltK_self] at this
   cases this
theorem place_get {L:List Kv} (hs:Srt L) (k:Key) (hh:hasL k L=true):∃ h:(low k L).length<L.length,L[(low k L).length]=(k,getT k L):=by
 rcases hs.cut k with ⟨_,h2,_⟩ | ⟨h1,_⟩
 · have hlt:(low k L).length<L.length:=by
    conv=>rhs;rw [h2]
    simp
   refine ⟨hlt,?_⟩
   have:L[(low k L).length]? =some (k,getT k L):=by
    conv=>lhs;arg 1;rw [h2]
    simp
   obtain ⟨_,h⟩:=List.getElem?_eq_some_iff.1 this
   exact h
 · rw [h1] at hh;cases hh
def MapAt (w:World) (F:Nat->Prop) (gm:Nat) (room:Int) (L:List Kv):Prop:=
 F gm/\Srt L/\L.length<=100000/\∃ (A:Option Addr) (c:Nat) (els:List (El 0)),els.map kv0=L/\Blk w gm [.int .i64 room,.slice A L.length c] 119/\Cells w F A (rowCells 0 els)/\L.length<=c/\AllOk w F 0 els
theorem MapAt.moved {w w':World} {F G:Nat->Prop} {gm:Nat} {room:Int} {L:List Kv} (t:MapAt w F gm room L) (hs:Spared w w' (fun b=>F b/\b≠gm)) (hG:∀ i,G i->F i\/w.heap.size<=i) (hg:G gm):MapAt w' G gm room L:=by
 obtain ⟨_,h1,h2,A,c,els,he,hb,hc,hl,ha⟩:=t
 exact ⟨hg,h1,h2,A,c,els,he,hs.blk hb (fun h=>h.2 rfl),hc.moved (hs.mono (fun _ h=>h.1)) hG,hl,fun x hx=>EOk.moved (hs.mono (fun _ h=>h.1)) hG 0 x (ha x hx)⟩
theorem MapAt.below {w w':World} {F:Nat->Prop} {gm:Nat} {room:Int} {L:List Kv} (t:MapAt w F gm room L) (hb:Below w.heap.size w w'):MapAt w' F gm room L:=t.moved (.of_below hb _) (fun _ h=> .inl h) t.1
theorem MapAt.lt {w:World} {F:Nat->Prop} {gm:Nat} {room:Int} {L:List Kv} (t:MapAt w F gm room L):gm<w.heap.size:=by
 obtain ⟨_,_,_,_,_,_,_,hb,_⟩:=t
 exact hb.lt
def PairAt (w:World) (A:Option Addr) (L:List Kv):Prop:=∀ i (h:i<L.length),∃ b off A0 c0 A1 c1,A=some ⟨b,off,none⟩/\(∀ W,Below w.heap.size w W->W.cell? ⟨b,off+i*2,none⟩=some (.slice A0 L[i].1.length c0)/\W.cell? ⟨b,off+i*2+1,none⟩=some (.slice A1 L[i].2.length c1)/\Seen W A0 L[i].1/\Seen W A1 L[i].2)/\L[i].1.length<=1000000000/\L[i].2.length<=1000000000
theorem pairs_at {w:World} {F:Nat->Prop} {A:Option Addr} {els:List (El 0)} (hc:Cells w F A (rowCells 0 els)) (ha:AllOk w F 0 els):PairAt w A (els.map kv0):=fun i hi=>by
 rw [List.length_map] at hi
 obtain ⟨b,off,hA,hb,_,hcell⟩:=hc.elem i hi
 have h0:w.cell? ⟨b,off+i*2,none⟩=some (pv (epiece 0 els[i])):=hcell 0 (by decide)
 have h1:w.cell? ⟨b,off+i*2+1,none⟩=some (pv (eval0 els[i])):=hcell 1 (by decide)
 have he:=ha els[i] (List.getElem_mem hi)
 have e:(els.map kv0)[i]'(by rw [List.length_map];exact hi)=kv0 els[i]:=by simp
 have s1:Seen w (epiece 0 els[i]).1 (epiece 0 els[i]).2.1:=he.1.1.seen
 have s2:Seen w (eval0 els[i]).1 (eval0 els[i]).2.1:=he.2.1.seen
 have m1:(epiece 0 els[i]).2.1.length<=1000000000:=he.1.2.2
 have m2:(eval0 els[i]).2.1.length<=1000000000:=he.2.2.2
 rw [e]
 exact ⟨b,off,_,_,_,_,hA,fun W hW=>⟨(hW.cell (p:=⟨b,off+i*2,none⟩) hb).trans h0,(hW.cell (p:=⟨b,off+i*2+1,none⟩) hb).trans h1,s1.below hW,s2.below hW⟩,m1,m2⟩
theorem map_open {w:World} {F:Nat->Prop} {gm:Nat} {room:Int} {L:List Kv} (t:MapAt w F gm room L):∃ A c,L.length<=c/\L.length<=100000/\(∀ W,Below w.heap.size w W->W.cell? ⟨gm,0,none⟩=some (.int .i64 room)/\W.cell? ⟨gm,1,none⟩=some (.slice A L.length c))/\PairAt w A L:=by
 obtain ⟨_,h1,h2,A,c,els,rfl,hb,hc,hl,ha⟩:=t
 refine ⟨A,c,hl,h2,fun W hW=> ?_,pairs_at hc ha⟩
 have:=hb.below hW hb.lt
 exact ⟨this.cell (i:=0) (by simp),this.cell (i:=1) (by simp)⟩
set_option maxRecDepth 100000 in
set_option maxHeartbeats 2000000 in
theorem rfind_any (w:World) (F:Nat->Prop) (gm:Nat) (room:Int) (L:List Kv) (B:Option Addr) (k:Key) (m d:Nat) (t:MapAt w F gm room L) (hk:Seen w B k) (hm:k.length=m):
 Calls Tryz.prog 93 #[.pointer (some ⟨gm,0,none⟩),.slice B m d] w fun e w'=>e= .returned (.tuple #[.int .i64 ((low k L).length:Nat),.bool (hasL k L)])/\Below w.heap.size w w':=by
 obtain ⟨A,c,_,hn9,hcell,hat⟩:=map_open t
 have HSRT:Hid (Srt L):=t.2.1
 obtain ⟨n,hn⟩:∃ n,n=L.length:=⟨_,rfl⟩
 rw [<-hn] at hn9 hcell
 have HN:=Lib.hid hn
 have HC:=Lib.hid hcell
 have HA:=Lib.hid hat
 have HK:=Lib.hid hk
 have HM:=Lib.hid hm
 obtain ⟨has,hhas⟩:∃ has,has=hasL k L:=⟨_,rfl⟩
 obtain ⟨pl,hpl⟩:∃ pl,pl=(low k L).length:=⟨_,rfl⟩
 have HHAS:=Lib.hid hhas
 have HPL:=Lib.hid hpl
 rw [<-hhas,<-hpl]
 clear hn hcell hat hk hm t hhas hpl
 go_enter Tryz.func93,Tryz.ntmps93
 go_wp2_with fail
 go_loopg [6] n (fun kx s wr=>∃ i:Nat,i+kx=n/\s= .int .i64 (i:Int)/\Below w.heap.size w wr/\∀ j (h:j<L.length),j<i->ltK L[j].1 k=true)
 case atStart=>exact ⟨0,by omega,rfl,Below.refl _ _,fun j _ h=>by omega⟩
 case round=>
  obtain ⟨i,hi,rfl,hbr,hall⟩:=hrel
  have HBR:=Lib.hid hbr
  have HI:=Lib.hid hi
  have HALL:=Lib.hid hall
  obtain ⟨x0,x1⟩:=HC.out wr hbr
  clear hbr hi hall
  by_cases hlt:i<n
  · have hkl:(i:Int)<(n:Int):=by omega
    have hil:i<L.length:=by have:=HN.out;omega
    obtain ⟨b,off,A0,c0,A1,c1,rfl,hcl,hl1,hl2⟩:=HA.out i hil
    obtain ⟨q0,q1,s0,s1⟩:=hcl wr HBR.out
    obtain ⟨y,hy⟩:∃ y,y=L[i].1:=⟨_,rfl⟩
    have HY:=Lib.hid hy
    rw [<-hy] at q0 s0
    have cv:∀ q,(convert 22 9 (.slice A0 y.length c0)).run Tryz.prog (wr.drewN q)= .ok (.string ⟨y.toArray⟩) (wr.drewN q):=fun q=>(s0.below (below_drewN (Below.refl _ _) q)).text (P:=Tryz.prog) 22 9 5 Tryz.underlying22 Tryz.underlying5 Tryz.underlying9 c0
    have hkm:=HM.out
    subst hkm
    have cw:∀ q,(convert 22 9 (.slice B k.length d)).run Tryz.prog (wr.drewN q)= .ok (.string ⟨k.toArray⟩) (wr.drewN q):=fun q=>((HK.out.below HBR.out).below (below_drewN (Below.refl _ _) q)).text (P:=Tryz.prog) 22 9 5 Tryz.underlying22 Tryz.underlying5 Tryz.underlying9 d
    have hwi:IntKind.i64.wrap ((i:Int)+1)=((i+1:Nat):Int):=by rw [IntKind.wrap_i64];omega
    clear hcl hl1 hl2 hy s0 q1 s1
    cases hlk:ltK y k
    · -- here
      have HE:Hid (pl=i/\has=(y==k)):=by
       have:=place_stop HSRT.out k i (by omega) HALL.out (fun h=>by rw [<-HY.out];exact hlk)
       refine ⟨HPL.out.trans this.1,?_⟩
       rw [HHAS.out,HY.out,this.2.1 hil,Bool.eq_iff_iff,beq_iff_eq,decide_eq_true_iff]
      have hge:Op.bytesLess (⟨y.toArray⟩:ByteArray).toList (⟨k.toArray⟩:ByteArray).toList=false:=by
       rw [Lib.toList_data,Lib.toList_data];exact hlk
      have hge2:Op.bytesLess y k=false:=hlk
      obtain ⟨rfl,rfl⟩:=HE.out
      clear hlk HE
      go_wp2_with fail
      go_quiet (fail)
      go_wp2_with fail
      go_quiet (fail)
      go_wp2_with fail
      go_ret2
      exact ⟨rfl,below_drewN (below_drewN HBR.out _) _⟩
    · have HALL2:Hid (∀ j (h:j<L.length),j<i+1->ltK L[j].1 k=true):=fun j h hj=>by
       rcases Nat.lt_or_ge j i with h1 | h1
       · exact HALL.out j h h1
       · obtain rfl:j=i:=by omega
         rw [<-HY.out];exact hlk
      have hge:Op.bytesLess (⟨y.toArray⟩:ByteArray).toList (⟨k.toArray⟩:ByteArray).toList=true:=by
       rw [Lib.toList_data,Lib.toList_data];exact hlk
      have hge2:Op.bytesLess y k=true:=hlk
      clear hlk
      go_wp2_with fail
      go_quiet (fail)
      go_wp2_with fail
      go_roundg (n-(i+1))
      case measure=>have:=HI.out;omega
      case rel=>exact ⟨i+1,by have:=HI.out;omega,rfl,below_drewN HBR.out _,HALL2.out⟩
  · obtain rfl:i=n:=by have:=HI.out;omega
    have hkl: ¬ (i:Int)<(i:Int):=by omega
    have HE:Hid (pl=i/\has=false):=by
     have:=place_stop HSRT.out k i (by have:=HN.out;omega) HALL.out (fun h=>by have:=HN.out;omega)
     rw [HPL.out,HHAS.out]
     exact ⟨this.1,this.2.2 HN.out⟩
    obtain ⟨rfl,rfl⟩:=HE.out
    clear HE
    go_wp2_with fail
    go_quiet (fail)
    go_wp2_with fail
    go_quiet (fail)
    go_wp2_with fail
    go_ret2
    exact ⟨rfl,below_drewN (below_drewN HBR.out _) _⟩
theorem sizeL_step {L:List Kv} {i:Nat} (hi:i<L.length):sizeT (L.take (i+1))=sizeT (L.take i)+L[i].1.length+L[i].2.length:=by
 rw [List.take_succ_eq_append_getElem hi,sizeL_append,sizeL_cons]
 show _+(_+_+0)=_
 omega
set_option maxHeartbeats 2000000 in
theorem rsize_any (w:World) (F:Nat->Prop) (gm:Nat) (room:Int) (L:List Kv) (t:MapAt w F gm room L):
 Calls Tryz.prog 95 #[.pointer (some ⟨gm,0,none⟩)] w fun e w'=>e= .returned (.int .i64 (sizeT L:Int))/\Below w.heap.size w w':=by
 obtain ⟨A,c,_,hn9,hcell,hat⟩:=map_open t
 obtain ⟨n,hn⟩:∃ n,n=L.length:=⟨_,rfl⟩
 rw [<-hn] at hn9 hcell
 have HC:=Lib.hid hcell
 have HN:=Lib.hid hn
 have HA:=Lib.hid hat
 obtain ⟨S,hS⟩:∃ S,S=sizeT L:=⟨_,rfl⟩
 have HS:=Lib.hid hS
 rw [<-hS]
 clear hn hcell hat t hS
 go_enter Tryz.func95,Tryz.ntmps95
 go_wp2_with fail
 go_loopg [3,4] n (fun kx s3 s4 wr=>∃ i T:Nat,i+kx=n/\s4= .int .i64 (i:Int)/\s3= .int .i64 (T:Int)/\Hid (T=sizeT (L.take i))/\T<=i*2000000000/\Below w.heap.size w wr)
 case atStart=>exact ⟨0,0,by omega,rfl,rfl,(by rfl:(0:Nat)=sizeT (L.take 0)),Nat.zero_le _,Below.refl _ _⟩
 case round=>
  obtain ⟨i,T,hi,rfl,rfl,HT,hle,hbr⟩:=hrel
  have HI:=Lib.hid hi
  have HBR:=Lib.hid hbr
  obtain ⟨x0,x1⟩:=HC.out wr hbr
  clear hi hbr
  by_cases hlt:i<n
  · have hkl:(i:Int)<(n:Int):=by omega
    have hil:i<L.length:=by have:=HN.out;omega
    obtain ⟨b,off,A0,c0,A1,c1,rfl,hcl,hl1,hl2⟩:=HA.out i hil
    obtain ⟨q0,q1,s0,s1⟩:=hcl wr HBR.out
    have HST:=Lib.hid (sizeL_step hil)
    generalize L[i].1.length=na at *
    generalize L[i].2.length=nb at *
    have hw1:IntKind.i64.wrap ((T:Int)+(na:Int))=((T+na:Nat):Int):=by rw [IntKind.wrap_i64];omega
    have hw2:IntKind.i64.wrap (((T+na:Nat):Int)+(nb:Int))=((T+na+nb:Nat):Int):=by rw [IntKind.wrap_i64];omega
    have hwi:IntKind.i64.wrap ((i:Int)+1)=((i+1:Nat):Int):=by rw [IntKind.wrap_i64];omega
    clear hcl s0 s1
    go_wp2_with fail
    go_quiet (fail)
    go_wp2_with fail
    go_roundg (n-(i+1))
    case measure=>have:=HI.out;omega
    case rel=>exact ⟨i+1,T+na+nb,by have:=HI.out;omega,rfl,rfl,(by show _=_;rw [HST.out,HT.out]),by omega,below_drewN HBR.out _⟩
  · obtain rfl:i=n:=by have:=HI.out;omega
    have hkl: ¬ (i:Int)<(i:Int):=by omega
    have HE:Hid (T=S):=by show _=_;rw [HT.out,HS.out,HN.out,List.take_length]
    obtain rfl:=HE.out
    clear HE
    go_wp2_with fail
    go_ret
    exact ⟨rfl,HBR.out⟩
def gv (k:Key) (L:List Kv):Key:=if hasL k L then getT k L else []
theorem info8i:(Tryz.prog.info? 5).map (fun i=>(i.zero,i.size,i.bytes))=some (some (.int .u8 0),1,1):=by kernel_rfl
set_option maxHeartbeats 2000000 in
theorem rget_any (w:World) (F:Nat->Prop) (gm:Nat) (room:Int) (L:List Kv) (B:Option Addr) (k:Key) (m d:Nat) (t:MapAt w F gm room L) (hk:Seen w B k) (hm:k.length=m):
 Calls Tryz.prog 60 #[.pointer (some ⟨gm,0,none⟩),.slice B m d] w fun e w'=>Below w.heap.size w w'/\∃ (X:Option Addr) (n c:Nat),e= .returned (.tuple #[.slice X n c,.bool (hasL k L)])/\Seen w' X (gv k L)/\(gv k L).length=n:=by
 have HF:=Lib.hid (rfind_any w F gm room L B k m d t hk hm)
 obtain ⟨A,c,_,hn9,hcell,hat⟩:=map_open t
 obtain ⟨n,hn⟩:∃ n,n=L.length:=⟨_,rfl⟩
 rw [<-hn] at hn9 hcell
 have HN:=Lib.hid hn
 have HC:=Lib.hid hcell
 have HP:Hid (hasL k L=true->∃ h:(low k L).length<L.length,L[(low k L).length]=(k,getT k L)):=place_get t.2.1 k
 have HA:=Lib.hid hat
 obtain ⟨V,hV⟩:∃ V,V=gv k L:=⟨_,rfl⟩
 have HV:=Lib.hid hV
 rw [<-hV]
 clear hn hcell hat hk hm t hV
 obtain ⟨i0,hi,hz0,hz1,hz2⟩:=info_parts info8i
 cases hhas:hasL k L
 · rw [hhas] at HF
   have HE:Hid (V=[]):=by show _=_;rw [HV.out];unfold gv;rw [hhas];rfl
   generalize (low k L).length=pl at *
   clear hhas
   go_enter Tryz.func60,Tryz.ntmps60
   go_wp2_with fail
   with_reducible refine HF.out.mono ?_
   rintro e w1 ⟨rfl,hb1⟩
   have B1:=Lib.hid hb1
   clear hb1
   go_wp2_with fail
   go_ret2
   exact ⟨B1.out,none,0,0,rfl,.inl HE.out,by rw [HE.out];rfl⟩
 · rw [hhas] at HF
   obtain ⟨hlt,hpl⟩:=HP.out hhas
   obtain ⟨b,off,A0,c0,A1,c1,rfl,hcl,hl1,hl2⟩:=HA.out _ hlt
   have HVE:Hid (L[(low k L).length].2=V):=by show _=_;rw [HV.out,hpl];unfold gv;rw [hhas];rfl
   rw [HVE.out] at hcl hl2
   have HCL:Hid (∀ W,Below w.heap.size w W->W.cell? ⟨b,off+(low k L).length*2+1,none⟩=some (.slice A1 V.length c1)/\Seen W A1 V):=fun W hW=>⟨(hcl W hW).2.1,(hcl W hW).2.2.2⟩
   have hpn:(low k L).length<n:=by have:=HN.out;omega
   clear hcl hpl HVE HP hl1
   generalize (low k L).length=pl at *
   have hp0:(0:Int)<=(pl:Int):=by omega
   have hp1:(pl:Int)<(n:Int):=by omega
   clear hhas hlt
   go_enter Tryz.func60,Tryz.ntmps60
   go_wp2_with fail
   with_reducible refine HF.out.mono ?_
   rintro e w1 ⟨rfl,hb1⟩
   have B1:=Lib.hid hb1
   obtain ⟨x0,x1⟩:=HC.out w1 hb1
   obtain ⟨q1,s1⟩:=HCL.out w1 hb1
   have S1:=Lib.hid s1
   obtain ⟨vn,hvn⟩:∃ vn,vn=V.length:=⟨_,rfl⟩
   rw [<-hvn] at q1 hl2
   have HVN:=Lib.hid hvn
   clear hb1 s1 hvn
   go_wp2_with (at_builtin;refine wpList_append_bytes _ rfl _ _ 22 rfl 5 i0 (.int .u8 0) Tryz.underlying22 hi hz0 hz1 hz2 rfl w1 _ [] A1 V c1 rfl (by rw [<-HVN.out];rfl) (Made.nil _ _) S1.out (by rw [List.length_nil,<-HVN.out];omega) ?_)
   intro v2 w2 hm hb2
   obtain ⟨A2,c2,rfl,hs2⟩:=hm.form
   rw [show V.length=vn from HVN.out.symm]
   have S2:Hid (Seen w2 A2 V):=hs2
   have B2:=Lib.hid (hop B1.out hb2)
   clear hm hb2 hs2
   go_wp2_with fail
   go_ret2
   exact ⟨B2.out,A2,vn,c2,rfl,S2.out,HVN.out.symm⟩
end Go.Proofs.YtdaahapbpnjkfaaGreat
