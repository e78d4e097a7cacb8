/-
The reader's puts: the puts of a batch, or the panic. Conditions: how the reader lies in memory.
-/
import Derived.Test.YtdaahapbpnjkfaaGreatCKpAreas
import Derived.Test.YtdaahapbpnjkfaaGreatCTrPut
import Derived.Test.YtdaahapbpnjkfaaGreatCTrDel
import Derived.Test.YtdaahapbpnjkfaaGreatCCatch
import Derived.Test.YtdaahapbpnjkfaaGreatCLgWrite
import Derived.Test.YtdaahapbpnjkfaaGreatCFDec
import Derived.Test.YtdaahapbpnjkfaaGreatCKvRows
namespace Go.Proofs.YtdaahapbpnjkfaaGreat
open Go.RowKit
set_option maxRecDepth 100000 in
set_option maxHeartbeats 2000000 in
theorem apply_any (w:World) (T:Nat->Prop) (hT:∀ x,T x->x<w.heap.size) (gt:Nat) (L:List Kv) (t:TreeAt w T gt anyRoom L) (A:Option Addr) (ps:List PPut) (n c:Nat) (hs:∀ W,Spared w W (fun b=>b=gt)->PutsSeen W A ps) (hn:ps.length=n) (hl:L.length+n<=99999) (hb:sizeT L+sizeP (valsOf ps)<=1000000000):
 Calls Tryz.prog 53 #[.pointer (some ⟨gt,0,none⟩),.slice A n c] w fun e w'=>e= .returned (.tuple #[])/\TreeAt w' T gt anyRoom (doAll (valsOf ps) L)/\Spared w w' (fun b=>b=gt):=by
 have HSRT:Hid (Srt L):=t.srt
 have HT:=Lib.hid hT
 have HS:=Lib.hid hs
 have HN:=Lib.hid hn
 have HL:=Lib.hid hl
 have HB:=Lib.hid hb
 have T0:=Lib.hid t
 clear t hT hs hn hl hb
 go_enter Tryz.func53,Tryz.ntmps53
 go_wp2_with fail
 go_loopg [8] n (fun kx s wr=>∃ i:Nat,i+kx=n/\s= .int .i64 (i:Int)/\Spared w wr (fun b=>b=gt)/\TreeAt wr T gt anyRoom (doAll ((valsOf ps).take i) L))
 case atStart=>exact ⟨0,by omega,rfl,.refl _ _,T0.out⟩
 case round=>
  obtain ⟨i,hi,rfl,hsr,htr⟩:=hrel
  have HI:=Lib.hid hi
  have SR:=Lib.hid hsr
  have TR:=Lib.hid htr
  clear hi hsr htr T0
  by_cases hlt:i<n
  · have hkl:(i:Int)<(n:Int):=by omega
    have hin:i<ps.length:=by have:=HN.out;omega
    obtain ⟨b,off,rfl,hok,hc⟩:=(HS.out wr SR.out).at_ i hin
    obtain ⟨⟨⟨KA,y,kc⟩,⟨VA,x,vc⟩,gone⟩,hq⟩:∃ q,q=ps[i]:=⟨_,rfl⟩
    have htake:=congrFun (vals_take hin) L
    have hsz:=sizeP_take hin
    rw [<-hq] at hok hc htake hsz
    have hsrt:Srt (doAll ((valsOf ps).take i) L):=HSRT.out.doAll _
    have hlen:(doAll ((valsOf ps).take i) L).length<=99998:=by
     have h5:=doAll_length (l:=(valsOf ps).take i) HSRT.out
     rw [List.length_take] at h5
     have:=HL.out
     omega
    have hsum:sizeT (doAll ((valsOf ps).take i) L)+(y.length+x.length)<=1000000000:=by
     have h5:=size_doAll (l:=(valsOf ps).take i) HSRT.out
     have h6:sizeP ((valsOf ps).take i)+(y.length+x.length)<=sizeP (valsOf ps):=hsz
     have:=HB.out
     omega
    obtain ⟨m,hm⟩:∃ m,m=y.length:=⟨_,rfl⟩
    obtain ⟨z,hz⟩:∃ z,z=x.length:=⟨_,rfl⟩
    obtain ⟨o0,o1,o2⟩:=hc wr (Below.refl _ _)
    change wr.cell? ⟨b,off+i*3,none⟩=some (.slice KA y.length kc) at o0
    change wr.cell? ⟨b,off+i*3+1,none⟩=some (.slice VA x.length vc) at o1
    change wr.cell? ⟨b,off+i*3+2,none⟩=some (.bool gone) at o2
    rw [<-hm] at o0
    rw [<-hz] at o1
    obtain ⟨Z,hZ⟩:∃ Z,Z=doAll ((valsOf ps).take i) L:=⟨_,rfl⟩
    rw [<-hZ] at TR hsrt hlen hsum htake
    rw [<-hm,<-hz] at hsum
    have hwi:IntKind.i64.wrap ((i:Int)+1)=((i+1:Nat):Int):=by have:=HL.out;rw [IntKind.wrap_i64];omega
    obtain ⟨w5,hw5⟩:∃ w5,w5=wr.alloc (.cells #[.slice KA m kc,.slice VA z vc,.bool gone] 72):=⟨_,rfl⟩
    have hb5:Below wr.heap.size wr w5:=by rw [hw5];exact (Below.refl _ _).alloc (Nat.le_refl _) _
    have hx5:Blk w5 wr.heap.size [.slice KA m kc,.slice VA z vc,.bool gone] 72:=by rw [hw5];exact Blk.new _ _ _
    have HW5:Hid (wr.alloc (.cells #[.slice KA m kc,.slice VA z vc,.bool gone] 72)=w5):=hw5.symm
    have B5:=Lib.hid hb5
    have X5:=Lib.hid hx5
    have S5:Hid (Spared w w5 (fun b=>b=gt)):=SR.out.trans (.of_below hb5 (fun b=>b=gt)) (fun _ h=> .inl h)
    have T5:Hid (TreeAt w5 T gt anyRoom Z):=TR.out.below hb5
    have HTAKE:=Lib.hid htake
    have HSY:Hid (Seen w5 KA y):=(show Seen wr KA y from hok.1.1).below hb5
    have HSX:Hid (Seen w5 VA x):=(show Seen wr VA x from hok.2.1).below hb5
    have HM:=Lib.hid hm
    have HZL:=Lib.hid hz
    have HSZ:=Lib.hid hsum
    have HLEN:=Lib.hid hlen
    have HSRZ:=Lib.hid hsrt
    have HT5:Hid (∀ j,T j->j<w5.heap.size):=fun j hj=>Nat.lt_of_lt_of_le (HT.out j hj) S5.out.size
    have d0:=hx5.cell (i:=0) (by simp)
    have d1:=hx5.cell (i:=1) (by simp)
    have d2:=hx5.cell (i:=2) (by simp)
    simp only [List.getElem_cons_zero,List.getElem_cons_succ] at d0 d1 d2
    clear hok hc hq hsz hin hm hz hZ hsum hlen hsrt htake hw5 hb5 hx5
    cases gone
    · have HPU:=Lib.hid (tput_any w5 T HT5.out gt anyRoom Z KA VA y x m kc z vc T5.out (Nat.le_succ_of_le HLEN.out) HSY.out HM.out.symm HSX.out HZL.out.symm (by have:=HSZ.out;omega) (by have:=HSZ.out;omega))
      go_wp2_with fail
      rw [HW5.out]
      go_wp2_with fail
      with_reducible refine HPU.out.mono ?_
      rintro e w7 ⟨hs7,ho7⟩
      have hsd:(sizeT (putT y x Z):Int)<=anyRoom:=by
       have h2:sizeT (putT y x Z)<=sizeT Z+(y.length+x.length):=size_doV HSRZ.out (y,x,false)
       have:=HSZ.out
       rw [HM.out,HZL.out] at this
       show (_:Int)<=9223372036854775807
       omega
      obtain ⟨rfl,ht7⟩:e= .returned (.int .i64 0)/\TreeAt w7 T gt anyRoom (putT y x Z):=by
       rcases ho7 with ⟨h1,_,_⟩ | ⟨_,h2,h3⟩
       · omega
       · exact ⟨h2,h3⟩
      have T7:=Lib.hid ht7
      have S7:Hid (Spared w w7 (fun b=>b=gt)):=S5.out.trans hs7 (fun _ h=> .inl h)
      clear hs7 ho7 hsd ht7
      go_wp2_with fail
      go_roundg (n-(i+1))
      case measure=>have:=HI.out;omega
      case rel=>exact ⟨i+1,by have:=HI.out;omega,rfl,S7.out,by rw [HTAKE.out];exact T7.out⟩
    · have HDE:=Lib.hid (del_any w5 T HT5.out gt anyRoom Z KA y m kc T5.out HSY.out HM.out.symm (by have:=HSZ.out;omega))
      go_wp2_with fail
      rw [HW5.out]
      go_wp2_with fail
      with_reducible refine HDE.out.mono ?_
      rintro e w7 ⟨hs7,ho7⟩
      obtain ⟨v,rfl,ht7⟩:∃ v,e= .returned (.bool v)/\TreeAt w7 T gt anyRoom (delL y Z):=by
       rcases ho7 with ⟨_,h2,h3⟩ | ⟨h1,h2,h3⟩
       · exact ⟨_,h2,h3⟩
       · exact ⟨_,h2,by rw [delL_not HSRZ.out h1];exact h3⟩
      have T7:=Lib.hid ht7
      have S7:Hid (Spared w w7 (fun b=>b=gt)):=S5.out.trans hs7 (fun _ h=> .inl h)
      clear hs7 ho7 ht7
      go_wp2_with fail
      go_roundg (n-(i+1))
      case measure=>have:=HI.out;omega
      case rel=>exact ⟨i+1,by have:=HI.out;omega,rfl,S7.out,by rw [HTAKE.out];exact T7.out⟩
  · obtain rfl:i=n:=by have:=HI.out;omega
    have hkl: ¬ (i:Int)<(i:Int):=by omega
    have HE:Hid ((valsOf ps).take i=valsOf ps):=List.take_of_length_le (by rw [valsOf_length,HN.out];exact Nat.le_refl _)
    go_wp2_with fail
    go_end0
    exact ⟨rfl,by have:=TR.out;rw [HE.out] at this;exact this,SR.out⟩
set_option maxHeartbeats 400000 in
theorem putsCatch_idle (p q:Addr) (w:World):
 CallsD Tryz.prog 105 #[.pointer (some p),.pointer (some q)] .returning w fun e u' w'=>e= .returned (.tuple #[])/\u'= .returning/\w'=w:=by
 refine callsD_of_wpS Tryz.func105 rfl fun c₀ cs hu=> ?_
 have hta:=assert_none
 apply wpS_seq
 apply wpS_region
 simp [wpOpsS,go_sem,recoverD,hu,Tryz.ntmps105,Exit.thenS,hta]
 apply wpS_seq
 apply wpS_region
 simp [wpOpsS,go_sem,Exit.thenS]
 refine wpS_cond (t:=false) (by simp [Act.eval,Array.replicate]) ?_
 simp only [Bool.false_eq_true,if_false]
 refine wpS_of_wp (wp_skip ?_)
 cases c₀
 simp_all [bodyPostS,results,Tryz.results105]
set_option maxHeartbeats 400000 in
theorem putsCatch_wrong (g h:Nat) (older:List PanicEntry) (w:World) (x:Value) (e0:Int) (hc:w.cell? ⟨g,0,none⟩=some x) (hz:w.frozen? ⟨g,0,none⟩=false) (hc':w.cell? ⟨h,0,none⟩=some (.int .i64 e0)) (hz':w.frozen? ⟨h,0,none⟩=false) (hne: ¬ h=g):
 CallsD Tryz.prog 105 #[.pointer (some ⟨g,0,none⟩),.pointer (some ⟨h,0,none⟩)] (.panicking ({ v:= .iface 27 (.int .i64 3),recovered:=false }::older)) w fun e u' w'=>
  e= .returned (.tuple #[])/\u'= .panicking ({ v:= .iface 27 (.int .i64 3),recovered:=true }::older)/\w'=(w.setCell ⟨g,0,none⟩ (.slice none 0 0)).setCell ⟨h,0,none⟩ (.int .i64 3):=by
 refine callsD_of_wpS Tryz.func105 rfl fun c₀ cs hu=> ?_
 have hta:=assert_errno
 apply wpS_seq
 apply wpS_region
 simp [wpOpsS,go_sem,recoverD,hu,Tryz.ntmps105,Exit.thenS,hta]
 apply wpS_seq
 apply wpS_region
 simp [wpOpsS,go_sem,Exit.thenS]
 refine wpS_cond (t:=true) (by simp [Act.eval,Array.replicate]) ?_
 simp only [if_true]
 apply wpS_region
 simp [wpOpsS,go_sem,hc,hz,hc',hz',bodyPostS,results,Tryz.results105]
theorem end_ok (w:World) (p:Nat) (F:Nat->Prop) (h:RdAt w p F []):
 Calls Tryz.prog 107 #[.pointer (some ⟨p,0,none⟩)] w fun e w'=>e= .returned (.tuple #[])/\w=w':=by
 obtain ⟨_,A,c,hb,_,_⟩:=h
 have hc:=hb.cell (i:=0) (by simp)
 have hf:=hb.free 0
 simp only [List.getElem_cons_zero,List.length_nil] at hc
 clear hb
 go_enter Tryz.func107,Tryz.ntmps107
 go_wp2
 go_end0
 exact ⟨rfl,rfl⟩
theorem end_no (w:World) (p:Nat) (F:Nat->Prop) (l:List UInt8) (h:RdAt w p F l) (hl:0<l.length):
 Calls Tryz.prog 107 #[.pointer (some ⟨p,0,none⟩)] w fun e w'=>e=wrong/\w=w':=by
 obtain ⟨_,A,c,hb,_,_⟩:=h
 have hc:=hb.cell (i:=0) (by simp)
 have hf:=hb.free 0
 simp only [List.getElem_cons_zero] at hc
 clear hb
 have ht:decide ((0:Int)<(l.length:Int))=true:=decide_eq_true (by omega)
 go_enter Tryz.func107,Tryz.ntmps107
 go_wp2
 exact ⟨rfl,rfl,rfl⟩
theorem part_ok (w:World) (p:Nat) (F:Nat->Prop) (l t u:List UInt8) (h:RdAt w p F l) (hl:l.length<=140737488351232) (ht:textL l=some (t,u)):
 Calls Tryz.prog 162 #[.pointer (some ⟨p,0,none⟩)] w (Parted w p F t u):=by
 have HR:=Lib.hid h
 obtain ⟨h1,h2,h3,h4,h5⟩:=textL_some ht
 have HN:=Lib.hid (number_ok w p F l h (by omega) h1)
 have H3:=Lib.hid h3
 have H4:=Lib.hid h4
 have HL5:=Lib.hid h5
 have hlen:(getL l 0 0).1<=140737488351232:=by rw [List.length_drop] at h2;omega
 generalize (getL l 0 0).2=k at *
 generalize (getL l 0 0).1=n at *
 have H2:=Lib.hid h2
 clear h h1 h2 h3 h4 h5 ht
 go_enter Tryz.func162,Tryz.ntmps162
 go_wp2_with fail
 refine HN.out.mono ?_
 rintro e w1 ⟨rfl,hr1,hg1⟩
 have HR1:=Lib.hid hr1
 have HG1:=Lib.hid hg1
 clear hr1 hg1
 go_wp2_with fail
 refine (take_ok w1 p F _ n _ rfl HR1.out H2.out).mono ?_
 rintro e w2 ⟨A2,c2,rfl,ha2,_,hr2,hg2⟩
 have HA2:Hid (Seen w2 A2 t):=by show Seen _ _ _;rw [H3.out];exact ha2.seen
 have HR2:Hid (RdAt w2 p F u):=by show RdAt _ _ _ _;rw [H4.out];exact hr2
 have HG2:=Lib.hid hg2
 clear hr2 hg2 ha2
 go_wp2_with fail
 refine (clone_made A2 t n c2 w2 HL5.out hlen HA2.out).mono ?_
 rintro e w3 ⟨A3,c3,rfl,hm3⟩
 have HM3:=Lib.hid hm3
 clear hm3
 go_wp2_with fail
 go_ret
 have hz1:=HG1.out.size
 have hz2:=HG2.out.size
 refine ⟨A3,n,c3,rfl,HL5.out,by have:=cap_of HM3.out;rw [HL5.out] at this;exact this,?_,HR2.out.below HM3.out.2,only_trans (only_trans HG1.out HG2.out) (only_of_below HM3.out.2 _)⟩
 exact HM3.out.past.mono (fun b hb=>Nat.lt_of_lt_of_le hb (Nat.le_trans hz1 hz2))
theorem part_no (w:World) (p:Nat) (F:Nat->Prop) (l:List UInt8) (h:RdAt w p F l) (hl:l.length<=140737488351232) (ht:textL l=none):
 Calls Tryz.prog 162 #[.pointer (some ⟨p,0,none⟩)] w fun e w'=>e=wrong/\w.grownBy w' (some p):=by
 have HR:=Lib.hid h
 by_cases hk:(getL l 0 0).2=0
 · have HN:=Lib.hid (number_no w p F l h (by omega) hk)
   clear h hk ht
   go_enter Tryz.func162,Tryz.ntmps162
   go_wp2_with fail
   refine HN.out.mono ?_
   rintro e w1 ⟨rfl,rfl⟩
   go_wp2_with fail
   exact ⟨rfl,rfl,World.grownBy.refl _ _⟩
 · have h2:=(textL_none ht).resolve_left hk
   have HN:=Lib.hid (number_ok w p F l h (by omega) hk)
   generalize (getL l 0 0).2=k at *
   generalize (getL l 0 0).1=n at *
   have H2:=Lib.hid h2
   clear h h2 hk ht
   go_enter Tryz.func162,Tryz.ntmps162
   go_wp2_with fail
   refine HN.out.mono ?_
   rintro e w1 ⟨rfl,hr1,hg1⟩
   have HR1:=Lib.hid hr1
   have HG1:=Lib.hid hg1
   clear hr1 hg1
   go_wp2_with fail
   refine (take_no w1 p F _ n _ rfl HR1.out H2.out).mono ?_
   rintro e w2 ⟨rfl,rfl⟩
   go_wp2_with fail
   exact ⟨rfl,rfl,HG1.out⟩
def PutDone (w:World) (p:Nat) (F:Nat->Prop) (q:PutV) (u:List UInt8) (e:Ending) (w':World):Prop:=
 ∃ A n c B m d,e= .returned (.agg #[.slice A n c,.slice B m d,.bool q.2.2])/\q.1.length=n/\q.2.1.length=m/\n<=c/\m<=d/\Away w' (fun b=>b<w.heap.size) A q.1/\Away w' (fun b=>b<w.heap.size) B q.2.1/\RdAt w' p F u/\w.grownBy w' (some p)
theorem one_mark {b0:UInt8} {r:List UInt8} {q:PutV} {u:List UInt8} (h:oneL (b0::r)=some (q,u)):
 (b0=1/\∃ t,textL r=some (t,u)/\q=(t,[],true))\/(b0=0/\∃ t v x,textL r=some (t,x)/\textL x=some (v,u)/\q=(t,v,false)):=by
 rw [oneL] at h
 split at h
 · split at h
   · cases h
   · rename_i h1 _ t u' ht
     injection h with h;injection h with h2 h3;subst h3
     exact .inl ⟨h1,t,ht,h2.symm⟩
 · split at h
   · split at h
     · cases h
     · rename_i h1 _ t x ht
       split at h
       · cases h
       · rename_i v u' hv
         injection h with h;injection h with h2 h3;subst h3
         exact .inr ⟨h1,t,v,x,ht,hv,h2.symm⟩
   · cases h
theorem first_of {w':World} {F:Nat->Prop} {A:Option Addr} {b0:UInt8} {r:List UInt8} (h:Away w' F A ((b0::r).take 1)):∃ b off,A=some ⟨b,off,none⟩/\w'.cell? ⟨b,off,none⟩=some (.int .u8 (b0.toNat:Int)):=by
 obtain ⟨b,off,e,h⟩:=h.seen.byte 0 (by simp)
 exact ⟨b,off,e,by simpa using h⟩
theorem RdAt.set {w:World} {p g:Nat} {F:Nat->Prop} {l:List UInt8} (h:RdAt w p F l) (hF:F g) (hne:p≠g) (i:Nat) (v:Value):RdAt (w.setCell ⟨g,i,none⟩ v) p F l:=by
 obtain ⟨h0,A,c,h1,h2,h3⟩:=h
 exact ⟨h0,A,c,h1.other _ _ hne,h2.moved ((Spared.refl w F).setCell hF i v) (fun _ h=> .inl h),h3⟩
set_option maxRecDepth 100000 in
set_option maxHeartbeats 1000000 in
theorem put_ok (w:World) (p:Nat) (F:Nat->Prop) (l:List UInt8) (q:PutV) (u:List UInt8) (h:RdAt w p F l) (hl:l.length<=140737488351232) (hq:oneL l=some (q,u)):
 Calls Tryz.prog 137 #[.pointer (some ⟨p,0,none⟩)] w (PutDone w p F q u):=by
 cases l with
 | nil=>cases hq
 | cons b0 r=>
  have hl':r.length<=140737488351232:=by simp at hl;omega
  have hp:=h.lt
  have hmono:Hid (∀ W L,RdAt W p (fun b=>F b\/w.heap.size<=b) L->RdAt W p F L):=fun W L hr=>hr.mono h.1 (fun b hb=> .inl (.inl hb))
  have HR:=Lib.hid ((h.mono (G:=fun b=>F b\/w.heap.size<=b) (.inl h.1) (fun b hb=>hb)).below ((Below.refl w.heap.size w).alloc (Nat.le_refl _) (.cells #[.slice none 0 0,.slice none 0 0,.bool false] 72)))
  obtain ⟨G,hG⟩:∃ G,G=fun b=>F b\/w.heap.size<=b:=⟨_,rfl⟩
  rw [<-hG] at HR hmono
  have hGn:Hid (G w.heap.size):=by show G _;rw [hG];exact .inr (Nat.le_refl _)
  have HO:=Lib.hid (only_more (World.grownBy.refl w (some p)) (.cells #[.slice none 0 0,.slice none 0 0,.bool false] 72))
  have HB:=Lib.hid (Blk.new w [.slice none 0 0,.slice none 0 0,.bool false] 72)
  have HZ:Hid ((w.alloc (.cells #[.slice none 0 0,.slice none 0 0,.bool false] 72)).heap.size=w.heap.size+1):=by show _=_;simp
  clear h hl hG
  generalize hW:w.alloc (.cells #[.slice none 0 0,.slice none 0 0,.bool false] 72)=W at HR HO HZ
  have HW:=Lib.hid hW
  have HB':Hid (Blk W w.heap.size [.slice none 0 0,.slice none 0 0,.bool false] 72):=by show Blk _ _ _ _;rw [<-hW];exact HB.out
  clear hW HB
  have HT:=Lib.hid (take_ok W p G (b0::r) 1 1 rfl HR.out (by simp))
  rcases one_mark hq with ⟨rfl,t,ht,rfl⟩ | ⟨rfl,t,v,x,ht,hv,rfl⟩
  · have HP:=Lib.hid ht
    clear ht hq
    go_enter Tryz.func137,Tryz.ntmps137
    go_wp2_with fail
    rw [HW.out]
    refine HT.out.mono ?_
    rintro e w1 ⟨A1,c1,rfl,ha1,_,hr1,hg1⟩
    obtain ⟨b1,o1,rfl,hc1⟩:=first_of ha1
    have HG1:=Lib.hid hg1
    have HR1:=Lib.hid hr1
    clear hg1 hr1 ha1
    have hc1':w1.cell? ⟨b1,o1,none⟩=some (.int .u8 1):=hc1
    clear hc1
    go_wp2_with fail
    refine (part_ok w1 p G r t u HR1.out hl' HP.out).mono ?_
    rintro e w2 ⟨A2,n2,c2,rfl,hn2,hc2,ha2,hr2,hg2⟩
    have HN2:=Lib.hid hn2
    have HA2:=Lib.hid ha2
    have HG2:=Lib.hid hg2
    have HR2:=Lib.hid hr2
    clear hn2 ha2 hg2 hr2
    have hs1:=HG1.out.size
    have hs2:=HG2.out.size
    have hz:=HZ.out
    have B1:=HB'.out.only HG1.out (by omega)
    have B2:=B1.only HG2.out (by omega)
    have r0:=B2.cell (i:=0) (by simp)
    have r1:=B2.cell (i:=1) (by simp)
    have r2:=B2.cell (i:=2) (by simp)
    have f0:=B2.free 0
    have f1:=B2.free 1
    have f2:=B2.free 2
    simp only [List.getElem_cons_zero,List.getElem_cons_succ] at r0 r1 r2
    have HS:=Lib.hid (And.intro hs1 (And.intro hs2 hz))
    clear B1 B2 hs1 hs2 hz
    go_wp2_with fail
    have hs1:w.heap.size<w1.heap.size:=by have:=HS.out;omega
    have hpn:p≠w.heap.size:=by omega
    refine bodyPost_ret (v:= .agg #[.slice A2 n2 c2,.slice none 0 0,.bool true]) (by simp [results,Tryz.results137,go_sem,r0,r1,r2]) rfl ⟨A2,n2,c2,none,0,0,rfl,HN2.out,rfl,hc2,by omega,?_,.inl rfl,?_,?_⟩
    · exact HA2.out.moved (((((Spared.refl w2 (fun b=>b<w1.heap.size)).setCell hs1 0 _).setCell hs1 1 _).setCell hs1 2 _)) (fun i hi=> .inl (by omega))
    · exact hmono.out _ _ (((HR2.out.set hGn.out hpn 0 _).set hGn.out hpn 1 _).set hGn.out hpn 2 _)
    · exact only_new (only_new (only_new (only_trans (only_trans HO.out HG1.out) HG2.out) (Nat.le_refl _) 0 _) (Nat.le_refl _) 1 _) (Nat.le_refl _) 2 _
  · have HP:=Lib.hid ht
    have HV:=Lib.hid hv
    have hlx:x.length<=140737488351232:=by have:=textL_less ht;omega
    clear ht hv hq
    go_enter Tryz.func137,Tryz.ntmps137
    go_wp2_with fail
    rw [HW.out]
    refine HT.out.mono ?_
    rintro e w1 ⟨A1,c1,rfl,ha1,_,hr1,hg1⟩
    obtain ⟨b1,o1,rfl,hc1⟩:=first_of ha1
    have HG1:=Lib.hid hg1
    have HR1:=Lib.hid hr1
    clear hg1 hr1 ha1
    have hc1':w1.cell? ⟨b1,o1,none⟩=some (.int .u8 0):=hc1
    clear hc1
    go_wp2_with fail
    refine (part_ok w1 p G r t x HR1.out hl' HP.out).mono ?_
    rintro e w2 ⟨A2,n2,c2,rfl,hn2,hc2,ha2,hr2,hg2⟩
    have HN2:=Lib.hid hn2
    have HA2:=Lib.hid ha2
    have HG2:=Lib.hid hg2
    have HR2:=Lib.hid hr2
    clear hn2 ha2 hg2 hr2
    go_wp2_with fail
    refine (part_ok w2 p G x v u HR2.out hlx HV.out).mono ?_
    rintro e w3 ⟨A3,n3,c3,rfl,hn3,hc3,ha3,hr3,hg3⟩
    have HN3:=Lib.hid hn3
    have HA3:=Lib.hid ha3
    have HG3:=Lib.hid hg3
    have HR3:=Lib.hid hr3
    clear hn3 ha3 hg3 hr3
    have hs1:=HG1.out.size
    have hs2:=HG2.out.size
    have hs3:=HG3.out.size
    have hz:=HZ.out
    have B1:=HB'.out.only HG1.out (by omega)
    have B2:=(B1.only HG2.out (by omega)).only HG3.out (by omega)
    have r0:=B2.cell (i:=0) (by simp)
    have r1:=B2.cell (i:=1) (by simp)
    have r2:=B2.cell (i:=2) (by simp)
    have f0:=B2.free 0
    have f1:=B2.free 1
    have f2:=B2.free 2
    simp only [List.getElem_cons_zero,List.getElem_cons_succ] at r0 r1 r2
    have HS:=Lib.hid (And.intro hs1 (And.intro hs2 (And.intro hs3 hz)))
    clear B1 B2 hs1 hs2 hs3 hz
    go_wp2_with fail
    have hs1:w.heap.size<w1.heap.size:=by have:=HS.out;omega
    have hs2:w.heap.size<w2.heap.size:=by have:=HS.out;omega
    have hpn:p≠w.heap.size:=by omega
    have hp1:p<w1.heap.size:=by omega
    refine bodyPost_ret (v:= .agg #[.slice A2 n2 c2,.slice A3 n3 c3,.bool false]) (by simp [results,Tryz.results137,go_sem,r0,r1,r2]) rfl ⟨A2,n2,c2,A3,n3,c3,rfl,HN2.out,HN3.out,hc2,hc3,?_,?_,?_,?_⟩
    · have h3:=HA2.out.moved (Spared.of_grown HG3.out (F:=fun b=>b<w1.heap.size) (fun k e _=>by injection e with e;rw [<-e];exact hp1)) (fun i hi=> .inl hi)
      exact h3.moved (((((Spared.refl w3 (fun b=>b<w1.heap.size)).setCell hs1 0 _).setCell hs1 1 _).setCell hs1 2 _)) (fun i hi=> .inl (by omega))
    · exact HA3.out.moved (((((Spared.refl w3 (fun b=>b<w2.heap.size)).setCell hs2 0 _).setCell hs2 1 _).setCell hs2 2 _)) (fun i hi=> .inl (by omega))
    · exact hmono.out _ _ (((HR3.out.set hGn.out hpn 0 _).set hGn.out hpn 1 _).set hGn.out hpn 2 _)
    · exact only_new (only_new (only_new (only_trans (only_trans (only_trans HO.out HG1.out) HG2.out) HG3.out) (Nat.le_refl _) 0 _) (Nat.le_refl _) 1 _) (Nat.le_refl _) 2 _
set_option maxRecDepth 100000 in
set_option maxHeartbeats 1000000 in
theorem put_no (w:World) (p:Nat) (F:Nat->Prop) (l:List UInt8) (h:RdAt w p F l) (hl:l.length<=140737488351232) (hq:oneL l=none):
 Calls Tryz.prog 137 #[.pointer (some ⟨p,0,none⟩)] w fun e w'=>e=wrong/\w.grownBy w' (some p):=by
 have HR:=Lib.hid (h.below ((Below.refl w.heap.size w).alloc (Nat.le_refl _) (.cells #[.slice none 0 0,.slice none 0 0,.bool false] 72)))
 have HO:=Lib.hid (only_more (World.grownBy.refl w (some p)) (.cells #[.slice none 0 0,.slice none 0 0,.bool false] 72))
 clear h
 generalize hW:w.alloc (.cells #[.slice none 0 0,.slice none 0 0,.bool false] 72)=W at HR HO
 have HW:=Lib.hid hW
 clear hW
 cases l with
 | nil=>
  clear hq
  go_enter Tryz.func137,Tryz.ntmps137
  go_wp2_with fail
  rw [HW.out]
  refine (take_no W p F [] 1 1 rfl HR.out (by simp)).mono ?_
  rintro e w1 ⟨rfl,rfl⟩
  go_wp2_with fail
  exact ⟨rfl,rfl,HO.out⟩
 | cons b0 r=>
  have hl':r.length<=140737488351232:=by simp at hl;omega
  have HT:=Lib.hid (take_ok W p F (b0::r) 1 1 rfl HR.out (by simp))
  rw [oneL] at hq
  by_cases h1:b0=1
  · rw [if_pos h1] at hq
    subst h1
    have ht:Hid (textL r=none):=by
     show _=_
     revert hq
     rcases textL r with _ | ⟨t,u⟩
     · intro _;rfl
     · intro h;cases h
    clear hq
    go_enter Tryz.func137,Tryz.ntmps137
    go_wp2_with fail
    rw [HW.out]
    refine HT.out.mono ?_
    rintro e w1 ⟨A1,c1,rfl,ha1,_,hr1,hg1⟩
    obtain ⟨b1,o1,rfl,hc1⟩:=first_of ha1
    have HG1:=Lib.hid hg1
    have HR1:=Lib.hid hr1
    clear hg1 hr1 ha1
    have hc1':w1.cell? ⟨b1,o1,none⟩=some (.int .u8 1):=hc1
    clear hc1
    go_wp2_with fail
    refine (part_no w1 p F r HR1.out hl' ht.out).mono ?_
    rintro e w2 ⟨rfl,hg2⟩
    have HG2:=Lib.hid hg2
    clear hg2
    go_wp2_with fail
    exact ⟨rfl,rfl,only_trans (only_trans HO.out HG1.out) HG2.out⟩
  · rw [if_neg h1] at hq
    by_cases h0:b0=0
    · rw [if_pos h0] at hq
      subst h0
      clear h1
      rcases ht:textL r with _ | ⟨t,x⟩
      · have HP:=Lib.hid ht
        clear hq ht
        go_enter Tryz.func137,Tryz.ntmps137
        go_wp2_with fail
        rw [HW.out]
        refine HT.out.mono ?_
        rintro e w1 ⟨A1,c1,rfl,ha1,_,hr1,hg1⟩
        obtain ⟨b1,o1,rfl,hc1⟩:=first_of ha1
        have HG1:=Lib.hid hg1
        have HR1:=Lib.hid hr1
        clear hg1 hr1 ha1
        have hc1':w1.cell? ⟨b1,o1,none⟩=some (.int .u8 0):=hc1
        clear hc1
        go_wp2_with fail
        refine (part_no w1 p F r HR1.out hl' HP.out).mono ?_
        rintro e w2 ⟨rfl,hg2⟩
        have HG2:=Lib.hid hg2
        clear hg2
        go_wp2_with fail
        exact ⟨rfl,rfl,only_trans (only_trans HO.out HG1.out) HG2.out⟩
      · have hlx:x.length<=140737488351232:=by have:=textL_less ht;omega
        rw [ht] at hq
        simp only at hq
        have HV:Hid (textL x=none):=by
         show _=_
         revert hq
         rcases textL x with _ | ⟨t,u⟩
         · intro _;rfl
         · intro h;cases h
        have HP:=Lib.hid ht
        clear hq ht
        go_enter Tryz.func137,Tryz.ntmps137
        go_wp2_with fail
        rw [HW.out]
        refine HT.out.mono ?_
        rintro e w1 ⟨A1,c1,rfl,ha1,_,hr1,hg1⟩
        obtain ⟨b1,o1,rfl,hc1⟩:=first_of ha1
        have HG1:=Lib.hid hg1
        have HR1:=Lib.hid hr1
        clear hg1 hr1 ha1
        have hc1':w1.cell? ⟨b1,o1,none⟩=some (.int .u8 0):=hc1
        clear hc1
        go_wp2_with fail
        refine (part_ok w1 p F r t x HR1.out hl' HP.out).mono ?_
        rintro e w2 ⟨A2,n2,c2,rfl,_,_,_,hr2,hg2⟩
        have HG2:=Lib.hid hg2
        have HR2:=Lib.hid hr2
        clear hg2 hr2
        go_wp2_with fail
        refine (part_no w2 p F x HR2.out hlx HV.out).mono ?_
        rintro e w3 ⟨rfl,hg3⟩
        have HG3:=Lib.hid hg3
        clear hg3
        go_wp2_with fail
        exact ⟨rfl,rfl,only_trans (only_trans (only_trans HO.out HG1.out) HG2.out) HG3.out⟩
    · clear hq
      have t1:((b0.toNat:Int)==1)=false:=by rw [beq_eq_false_iff_ne];intro e;exact h1 (UInt8.toNat_inj.1 (by show b0.toNat=1;omega))
      have t0:((b0.toNat:Int)==0)=false:=by rw [beq_eq_false_iff_ne];intro e;exact h0 (UInt8.toNat_inj.1 (by show b0.toNat=0;omega))
      clear h1 h0
      go_enter Tryz.func137,Tryz.ntmps137
      go_wp2_with fail
      rw [HW.out]
      refine HT.out.mono ?_
      rintro e w1 ⟨A1,c1,rfl,ha1,_,_,hg1⟩
      obtain ⟨b1,o1,rfl,hc1⟩:=first_of ha1
      have HG1:=Lib.hid hg1
      clear hg1 ha1
      generalize b0.toNat=y at *
      go_wp2_with fail
      exact ⟨rfl,rfl,only_trans HO.out HG1.out⟩
theorem infoPut:(Tryz.prog.info? 72).map (fun i=>(i.zero,i.size,i.bytes))=some (some (.agg #[.slice none 0 0,.slice none 0 0,.bool false]),3,56):=by kernel_rfl
theorem info_parts3 {P:Program} {e:TypeId} {z:Value} {s b:Nat} (h:(P.info? e).map (fun i=>(i.zero,i.size,i.bytes))=some (some z,s,b)):∃ i,P.info? e=some i/\i.zero=some z/\i.size=s/\i.bytes=b:=by
 obtain ⟨i,hi,h⟩:=Option.map_eq_some_iff.1 h
 injection h with h1 h
 injection h with h2 h3
 exact ⟨i,hi,h1,h2,h3⟩
theorem RdAt.spared {w w':World} {p n:Nat} {F:Nat->Prop} {l:List UInt8} (h:RdAt w p F l) (hs:Spared w w' (fun b=>n<=b)) (hp:p<n) (hF:∀ b,n<=b->F b):RdAt w' p F l:=by
 obtain ⟨h0,A,c,h1,h2,h3⟩:=h
 exact ⟨h0,A,c,hs.blk h1 (by omega),h2.moved (hs.mono hF) (fun _ h=> .inl h),h3⟩
def PutsRead (w:World) (p:Nat) (F:Nat->Prop) (D:Option (List PutV)) (e:Ending) (w':World):Prop:=
 (e=wrong/\D=none/\w.grownBy w' (some p))\/
 (∃ A n c ps u,e= .returned (.slice A n c)/\ps.length=n/\ListAt 72 w ps (.slice A n c) w'/\D=(if u=[] then some (valsOf ps) else none)/\RdAt w' p F u/\w.grownBy w' (some p))
def PU (w:World) (p:Nat) (F:Nat->Prop) (N:Nat) (L:Nat) (D:Option (List PutV)) (s i:Value) (wr:World):Prop:=
 ∃ (k:Nat) (ps:List PPut) (A:Option Addr) (c:Nat) (r:List UInt8),k<=N/\i= .int .i64 k/\s= .slice A k c/\ps.length=k/\ListAt 72 w ps (.slice A k c) wr/\RdAt wr p F r/\r.length+k<=L/\D=readN (N-k) r (valsOf ps)/\w.grownBy wr (some p)
set_option maxRecDepth 100000 in
set_option maxHeartbeats 1000000 in
theorem puts_any (w:World) (p:Nat) (F:Nat->Prop) (l:List UInt8) (h:RdAt w p F l) (hl:l.length<=1099511627776):
 Calls Tryz.prog 106 #[.pointer (some ⟨p,0,none⟩)] w (PutsRead w p F (putsL l)):=by
 obtain ⟨i0,hi,hz0,hz1,hz2⟩:=info_parts3 infoPut
 have hp:=h.lt
 have hmono:Hid (∀ W L,RdAt W p (fun b=>F b\/w.heap.size<=b) L->RdAt W p F L):=fun W L hr=>hr.mono h.1 (fun b hb=> .inl (.inl hb))
 have h':=h.mono (G:=fun b=>F b\/w.heap.size<=b) (.inl h.1) (fun b hb=>hb)
 obtain ⟨G,hG⟩:∃ G,G=fun b=>F b\/w.heap.size<=b:=⟨_,rfl⟩
 rw [<-hG] at h' hmono
 have hGn:Hid (∀ b,w.heap.size<=b->G b):=fun b hb=>by rw [hG];exact .inr hb
 clear h hG
 have h:=h'
 clear h'
 by_cases hk:(getL l 0 0).2=0
 · have HN:=Lib.hid (number_no w p G l h (by omega) hk)
   have HD:Hid (putsL l=none):=by show _=_;unfold putsL;rw [if_pos hk]
   clear h hk
   go_enter Tryz.func106,Tryz.ntmps106
   go_wp2_with fail
   refine HN.out.mono ?_
   rintro e w1 ⟨rfl,rfl⟩
   go_wp2_with fail
   exact ⟨rfl,.inl ⟨rfl,HD.out,World.grownBy.refl _ _⟩⟩
 · have HN:=Lib.hid (number_ok w p G l h (by omega) hk)
   have HF:=get_fits (l:=l)
   obtain ⟨D,hD⟩:∃ D,D=putsL l:=⟨_,rfl⟩
   rw [<-hD]
   have HD:Hid (D=readN (getL l 0 0).1 (l.drop (getL l 0 0).2) []):=by show _=_;rw [hD];unfold putsL;rw [if_neg hk]
   generalize (getL l 0 0).2=k0 at *
   generalize (getL l 0 0).1=N at *
   obtain ⟨_,_,hN⟩:=HF
   clear h hk hD
   go_enter Tryz.func106,Tryz.ntmps106
   go_wp2_with fail
   refine HN.out.mono ?_
   rintro e w1 ⟨rfl,hr1,hg1⟩
   have HR1:=Lib.hid hr1
   have HG1:=Lib.hid hg1
   clear hr1 hg1
   go_wp2_with fail
   go_loopw [3,6] (fun s i wr=>PU w p G N l.length D s i wr) (fun _ i _=>N-(intOf i).toNat)
   case atStart=>
    exact ⟨0,[],none,0,l.drop k0,by omega,rfl,rfl,rfl,(ListAt.start _ w).through HG1.out hp,HR1.out,by rw [List.length_drop];omega,HD.out,HG1.out⟩
   case round=>
    clear HD HR1 HG1 HN
    obtain ⟨k,ps,A,c,r,hk,rfl,rfl,hps,hla,hrd,hrl,hD,hgr⟩:=hrel
    have HPS:=Lib.hid hps
    have HLA:=Lib.hid hla
    have HRD:=Lib.hid hrd
    have HD:=Lib.hid hD
    have HGR:=Lib.hid hgr
    clear hps hla hrd hD hgr
    by_cases hlt:k<N
    · rcases ho:oneL r with _ | ⟨q,u⟩
      · have HQ:=Lib.hid (put_no wr p G r HRD.out (by omega) ho)
        have HE:Hid (D=none):=by
         show _=_
         rw [HD.out,show N-k=(N-k-1)+1 from by omega,readN,ho]
        clear ho
        go_wp2_with fail
        refine HQ.out.mono ?_
        rintro e w2 ⟨rfl,hg2⟩
        have HG2:=Lib.hid hg2
        clear hg2
        go_wp2_with fail
        exact ⟨rfl,.inl ⟨rfl,HE.out,only_trans HGR.out HG2.out⟩⟩
      · have HQ:=Lib.hid (put_ok wr p G r q u HRD.out (by omega) ho)
        have hless:=oneL_less ho
        have hqb:=oneL_bound ho
        have HB2:Hid (q.1.length<=r.length):=hqb.1
        have HB3:Hid (q.2.1.length<=r.length):=hqb.2
        clear hqb
        have HE:Hid (D=readN (N-(k+1)) u (valsOf ps++[q])):=by
         show _=_
         rw [HD.out,show N-k=(N-(k+1))+1 from by omega,readN,ho]
        clear ho
        obtain ⟨q1,q2,q3⟩:=q
        go_wp2_with fail
        refine HQ.out.mono ?_
        rintro e w2 ⟨A2,n2,c2,A3,n3,c3,rfl,hn2,hn3,_,_,ha2,ha3,hr2,hg2⟩
        simp only at hn2 hn3 ha2 ha3
        have HN2:=Lib.hid hn2
        have HN3:=Lib.hid hn3
        have HA2:=Lib.hid ha2
        have HA3:=Lib.hid ha3
        have HR2:=Lib.hid hr2
        have HG2:=Lib.hid hg2
        clear hn2 hn3 ha2 ha3 hr2 hg2
        have HL2:=Lib.hid (HLA.out.through HG2.out hp)
        have HQ2:Hid (PutOff w2 (fun b=>b<wr.heap.size) ((A2,q1,c2),(A3,q2,c3),q3)):=⟨⟨HA2.out,by have h2:q1.length<=r.length:=HB2.out;simp only;omega⟩,⟨HA3.out,by have h2:q2.length<=r.length:=HB3.out;simp only;omega⟩⟩
        have HC2:Hid (pcells ((A2,q1,c2),(A3,q2,c3),q3)=[.slice A2 n2 c2,.slice A3 n3 c3,.bool q3]):=by show _=_;simp only [pcells,pv,HN2.out,HN3.out]
        go_wp2_with (at_builtin;refine wpList_append_put w2 rfl (.tmp 8) (.tmp 11) 38 rfl 72 i0 _ Tryz.underlying38 hi hz0 hz1 hz2 rfl w wr ps A k c ((A2,q1,c2),(A3,q2,c3),q3) _ _ _ rfl rfl HLA.out HL2.out HPS.out HQ2.out HC2.out (by omega) ?_)
        intro A5 c5 w5 hl5 hs5
        have HL5:=Lib.hid hl5
        have HS5:=Lib.hid hs5
        clear hl5 hs5
        go_wp2_with fail
        go_roundw
        case rel=>
         refine ⟨k+1,_,A5,c5,u,by omega,by go_num,rfl,by rw [List.length_append,HPS.out];rfl,HL5.out,HR2.out.spared HS5.out hp hGn.out,by omega,?_,only_spared (only_trans HGR.out HG2.out) HS5.out⟩
         rw [HE.out];simp [valsOf,valOf]
        case measure=>simp [intOf];omega
    · have hkN:k=N:=by omega
      have HE:Hid (D=(if r=[] then some (valsOf ps) else none)):=by
       show _=_
       rw [HD.out,hkN,Nat.sub_self,readN]
      clear hkN
      go_wp2_with fail
      go_ret
      exact .inr ⟨A,k,c,ps,r,rfl,HPS.out,HLA.out,HE.out,hmono.out _ _ HRD.out,HGR.out⟩
end Go.Proofs.YtdaahapbpnjkfaaGreat
