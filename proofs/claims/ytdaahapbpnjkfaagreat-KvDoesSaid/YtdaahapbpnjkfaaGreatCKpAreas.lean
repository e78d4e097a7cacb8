/-
The areas of a disk, as the program finds them (areasOf, newest). Conditions: as log's Open.
-/
import Derived.Test.YtdaahapbpnjkfaaGreatCTrStep
import Derived.Test.YtdaahapbpnjkfaaGreatCKvRows
import Derived.Test.YtdaahapbpnjkfaaGreatCRf
import Derived.Deep.RegionHeldLaw
import Derived.Test.YtdaahapbpnjkfaaGreatCKvD
import Derived.Test.YtdaahapbpnjkfaaGreatCTrScan
import Derived.Test.YtdaahapbpnjkfaaGreatCDkImage
namespace Go.Proofs.YtdaahapbpnjkfaaGreat
open Go.RowKit
def RCopyOut (w:World) (F:Nat->Prop) (room:Int) (L:List Kv) (e:Ending) (w':World):Prop:=
 Below w.heap.size w w'/\∃ gc,e= .returned (.pointer (some ⟨gc,0,none⟩))/\w.heap.size<=gc/\gc<w'.heap.size/\MapAt w' (fun b=>F b\/b=gc) gc room L
set_option maxRecDepth 100000 in
set_option maxHeartbeats 2000000 in
theorem rcopy_any (w:World) (F:Nat->Prop) (hF:∀ b,F b->b<w.heap.size) (gm:Nat) (room:Int) (L:List Kv) (t:MapAt w F gm room L):
 Calls Tryz.prog 64 #[.pointer (some ⟨gm,0,none⟩)] w (RCopyOut w F room L):=by
 have hsrt:Srt L:=t.2.1
 obtain ⟨A,c,els,he,hel,hb,hcl,hlc,hao,hn9⟩:=map_els t
 obtain ⟨i0,z0,R⟩:=rowP
 have HR:=Lib.hid R
 have HSRT:=Lib.hid hsrt
 have HE:=Lib.hid he
 have HB:=Lib.hid hb
 have HCL:=Lib.hid hcl
 have HAO:=Lib.hid hao
 have HF:=Lib.hid hF
 obtain ⟨n,hn⟩:∃ n,n=L.length:=⟨_,rfl⟩
 have HN:=Lib.hid hn
 rw [<-hn] at hel HB hlc hn9
 have HEL:=Lib.hid hel
 have x0:=HB.out.cell (i:=0) (by simp)
 have x1:=HB.out.cell (i:=1) (by simp)
 simp only [List.getElem_cons_zero,List.getElem_cons_succ] at x0 x1
 clear t hsrt he hb hcl hao hF hn hel R
 go_enter Tryz.func64,Tryz.ntmps64
 have bd:Below w.heap.size w w.drew:=(Below.refl _ _).drew
 have HC:Hid (∀ W,Below w.heap.size w W->W.cell? ⟨gm,0,none⟩=some (.int .i64 room)/\W.cell? ⟨gm,1,none⟩=some (.slice A n c)):=fun W hW=>by
  have:=HB.out.below hW HB.out.lt
  exact ⟨this.cell (i:=0) (by simp),this.cell (i:=1) (by simp)⟩
 clear x0 x1
 go_wp2_with fail
 go_region_held_law (fun W=>W.cell? ⟨gm,0,none⟩=some (.int .i64 room)/\W.cell? ⟨gm,1,none⟩=some (.slice A n c))
  (first | exact HC.out _ bd | exact HC.out _ B6 | exact HC.out _ (B6.alloc B6.size _))
  (first
   | (
    refine step_append_cells HR.out rfl (.const (.slice none 0 0)) (.tmp 10) rfl F w.heap.size (.slice none 0 0) 0 [] (by simp [Act.eval]) (World.ownsRow_nil _ _ _ _) A (rowCells 0 els) n c (by simp [Act.eval]) (by rw [rowCells_length,HEL.out];rfl) (HCL.out.below bd) (rowCells_one 0 els) (by omega) (by omega) bd.size ?_
    intro v6 w6 ho6 hg6
    rw [Nat.zero_add,List.nil_append] at ho6
    obtain ⟨A6,c6,rfl⟩:=own_shape ho6
    have O6:=Lib.hid ho6
    have B6:Below w.heap.size w w6:=below_grown bd (Nat.le_refl _) (World.ownsRow_nil w.drew w.heap.size 123 2) hg6
    clear ho6 hg6))
 all_goals
  go_wp2_with fail
  go_ret
  have B7:=B6.alloc B6.size (.cells #[.int .i64 room,.slice A6 n c6] 119)
  have hoc:=own_cells O6.out
  have hG:∀ j,(F j\/j=w6.heap.size)->j<w.heap.size\/w6.heap.size<=j:=fun j hj=>hj.imp (HF.out j) (fun h=>by omega)
  refine ⟨B7,w6.heap.size,rfl,B6.size,by simp,.inr rfl,HSRT.out,by rw [<-HN.out];exact hn9,A6,c6,els,HE.out,?_,?_,by rw [<-HN.out];exact hoc.2,fun x hx=> ?_⟩
  · rw [<-HN.out];exact Blk.new w6 [.int .i64 room,.slice A6 n c6] _
  · exact hoc.1.moved (.of_below ((Below.refl _ _).alloc (Nat.le_refl _) _) _) hG
  · exact EOk.moved (.of_below B7 F) (fun j hj=>hj.imp id (fun h=>by have:=B6.size;omega)) 0 x (HAO.out x hx)
def sizeP (l:List PutV):Nat:=(l.map fun p=>p.1.length+p.2.1.length).sum
theorem sizeP_cons (p:PutV) (l:List PutV):sizeP (p::l)=p.1.length+p.2.1.length+sizeP l:=by simp [sizeP]
theorem sizeP_append (a b:List PutV):sizeP (a++b)=sizeP a+sizeP b:=by simp [sizeP]
theorem size_doV {L:List Kv} (hs:Srt L) (p:PutV):sizeT (doV L p)<=sizeT L+(p.1.length+p.2.1.length):=by
 have hd:sizeT (delL p.1 L)<=sizeT L:=by
  cases hh:hasL p.1 L
  · rw [delL_not hs hh];exact Nat.le_refl _
  · have:=(sizeL_has hs hh).1;omega
 unfold doV
 split
 · omega
 · have:=(sizeL_put p.1 p.2.1 L).1;omega
theorem size_doAll {l:List PutV}:∀ {L:List Kv},Srt L->sizeT (doAll l L)<=sizeT L+sizeP l:=by
 induction l with
 | nil=>intro L _;exact Nat.le_add_right _ _
 | cons p l ih=>
  intro L hs
  have h1:=ih (hs.doV p)
  have h2:=size_doV hs p
  rw [sizeP_cons]
  show sizeT (doAll l (doV L p))<=_
  omega
theorem vals_take {ps:List PPut} {i:Nat} (h:i<ps.length):doAll ((valsOf ps).take (i+1))=fun L=>doV (doAll ((valsOf ps).take i) L) (valOf ps[i]):=by
 funext L
 have e:(valsOf ps).take (i+1)=(valsOf ps).take i++[valOf ps[i]]:=by
  rw [List.take_succ_eq_append_getElem (by rw [valsOf_length];exact h)]
  simp [valsOf]
 rw [e,doAll_append]
 rfl
theorem sizeP_take {ps:List PPut} {i:Nat} (h:i<ps.length):sizeP ((valsOf ps).take i)+(ps[i].1.2.1.length+ps[i].2.1.2.1.length)<=sizeP (valsOf ps):=by
 have e:valsOf ps=(valsOf ps).take i++(valOf ps[i]::(valsOf ps).drop (i+1)):=by
  conv=>lhs;rw [<-List.take_append_drop i (valsOf ps)]
  rw [List.drop_eq_getElem_cons (by rw [valsOf_length];exact h)]
  simp [valsOf]
 conv=>rhs;rw [e]
 rw [sizeP_append,sizeP_cons]
 show _+(_+_)<=_+(ps[i].1.2.1.length+ps[i].2.1.2.1.length+_)
 omega
def RDoOut (w:World) (F:Nat->Prop) (room:Int) (L:List Kv) (e:Ending) (w':World):Prop:=
 Below w.heap.size w w'/\∃ gc,e= .returned (.pointer (some ⟨gc,0,none⟩))/\w.heap.size<=gc/\gc<w'.heap.size/\MapAt w' (fun b=>F b\/b=gc) gc room L
set_option maxRecDepth 100000 in
set_option maxHeartbeats 2000000 in
theorem rdo_any (w:World) (F:Nat->Prop) (hF:∀ b,F b->b<w.heap.size) (gm:Nat) (room:Int) (L:List Kv) (t:MapAt w F gm room L) (A:Option Addr) (ps:List PPut) (n c:Nat) (hs:PutsSeen w A ps) (hn:ps.length=n) (hl:L.length+n<=99999) (hb:sizeT L+sizeP (valsOf ps)<=1000000000) (hr:((sizeT L+sizeP (valsOf ps):Nat):Int)<=room):
 Calls Tryz.prog 28 #[.pointer (some ⟨gm,0,none⟩),.slice A n c] w (RDoOut w F room (doAll (valsOf ps) L)):=by
 have HCO:=Lib.hid (rcopy_any w F hF gm room L t)
 have HSRT:Hid (Srt L):=t.2.1
 have HF:=Lib.hid hF
 have HS:=Lib.hid hs
 have HN:=Lib.hid hn
 have HL:=Lib.hid hl
 have HB:=Lib.hid hb
 have HRM:=Lib.hid hr
 clear t hF hs hn hl hb hr
 go_enter Tryz.func28,Tryz.ntmps28
 go_wp2_with fail
 with_reducible refine HCO.out.mono ?_
 rintro e w1 ⟨hb1,gc,rfl,hg1,hg2,ht1⟩
 have B1:=Lib.hid hb1
 have HG:Hid (w.heap.size<=gc):=hg1
 have T1:=Lib.hid ht1
 clear hb1 hg1 hg2 ht1 HCO
 go_wp2_with fail
 go_loopg [6] n (fun kx s wr=>∃ i:Nat,i+kx=n/\s= .int .i64 (i:Int)/\Below w.heap.size w wr/\MapAt wr (fun b=>F b\/b=gc) gc room (doAll ((valsOf ps).take i) L))
 case atStart=>exact ⟨0,by omega,rfl,B1.out,T1.out⟩
 case round=>
  obtain ⟨i,hi,rfl,hbr,htr⟩:=hrel
  have HI:=Lib.hid hi
  have BR:=Lib.hid hbr
  have TR:=Lib.hid htr
  clear hi hbr htr T1 B1
  by_cases hlt:i<n
  · have hkl:(i:Int)<(n:Int):=by omega
    have hin:i<ps.length:=by have:=HN.out;omega
    obtain ⟨b,off,rfl,hok,hc⟩:=HS.out.at_ i hin
    obtain ⟨⟨⟨KA,y,kc⟩,⟨VA,x,vc⟩,gone⟩,hq⟩:∃ q,q=ps[i]:=⟨_,rfl⟩
    have htake:=congrFun (vals_take hin) L
    have hsz:=sizeP_take hin
    rw [<-hq] at hok hc htake hsz
    have hsrt:Srt (doAll ((valsOf ps).take i) L):=HSRT.out.doAll _
    have hlen:(doAll ((valsOf ps).take i) L).length<=99998:=by
     have h5:=doAll_length (l:=(valsOf ps).take i) HSRT.out
     rw [List.length_take] at h5
     have:=HL.out
     omega
    have hsum:sizeT (doAll ((valsOf ps).take i) L)+(y.length+x.length)<=1000000000/\((sizeT (doAll ((valsOf ps).take i) L)+(y.length+x.length):Nat):Int)<=room:=by
     have h5:=size_doAll (l:=(valsOf ps).take i) HSRT.out
     have h6:sizeP ((valsOf ps).take i)+(y.length+x.length)<=sizeP (valsOf ps):=hsz
     have:=HB.out
     have:=HRM.out
     omega
    have sy:Seen w KA y:=hok.1.1
    have sx:Seen w VA x:=hok.2.1
    obtain ⟨m,hm⟩:∃ m,m=y.length:=⟨_,rfl⟩
    obtain ⟨z,hz⟩:∃ z,z=x.length:=⟨_,rfl⟩
    have HCL:Hid (∀ w',Below w.heap.size w w'->w'.cell? ⟨b,off+i*3,none⟩=some (.slice KA m kc)/\w'.cell? ⟨b,off+i*3+1,none⟩=some (.slice VA z vc)/\w'.cell? ⟨b,off+i*3+2,none⟩=some (.bool gone)):=fun w' hw'=>by
     rw [hm,hz];exact hc w' hw'
    have HLT:Hid (∀ j,F j\/j=gc->j<wr.heap.size):=fun j hj=>by
     rcases hj with hj | rfl
     · exact Nat.lt_of_lt_of_le (HF.out j hj) BR.out.size
     · exact TR.out.lt
    obtain ⟨Z,hZ⟩:∃ Z,Z=doAll ((valsOf ps).take i) L:=⟨_,rfl⟩
    rw [<-hZ] at TR hsrt hlen hsum htake
    rw [<-hm,<-hz] at hsum
    obtain ⟨o0,o1,o2⟩:=HCL.out wr BR.out
    have hwi:IntKind.i64.wrap ((i:Int)+1)=((i+1:Nat):Int):=by have:=HL.out;rw [IntKind.wrap_i64];omega
    have HTAKE:=Lib.hid htake
    have HSY:=Lib.hid sy
    have HSX:=Lib.hid sx
    have HM:=Lib.hid hm
    have HZL:=Lib.hid hz
    have HSZ:=Lib.hid hsum
    have HLEN:=Lib.hid hlen
    have HSRZ:=Lib.hid hsrt
    clear hok hc hq hsz hin sy sx hm hz hZ hsum hlen hsrt htake
    cases gone
    · have HPUT:Hid (∀ W,Below wr.heap.size wr W->Calls Tryz.prog 66 #[.pointer (some ⟨gc,0,none⟩),.slice KA m kc,.slice VA z vc] W (RPutOut W (fun b=>F b\/b=gc) gc room Z y x)):=fun W hW=>
       rput_any W _ (fun j hj=>Nat.lt_of_lt_of_le (HLT.out j hj) hW.size) gc room Z KA VA y x m kc z vc (TR.out.below hW) (Nat.le_succ_of_le HLEN.out) (HSY.out.below (hop BR.out hW)) HM.out.symm (HSX.out.below (hop BR.out hW)) HZL.out.symm (by have:=HSZ.out.1;omega) (by have:=HSZ.out.1;omega)
      have bd:Below wr.heap.size wr wr.drew:=(Below.refl _ _).drew
      have HC:Hid (∀ W,Below w.heap.size w W->W.cell? ⟨b,off+i*3,none⟩=some (.slice KA m kc)/\W.cell? ⟨b,off+i*3+1,none⟩=some (.slice VA z vc)):=fun W hW=>⟨(HCL.out W hW).1,(HCL.out W hW).2.1⟩
      have BRD:Below w.heap.size w wr.drew:=BR.out.drew
      clear o0 o1
      go_wp2_with fail
      go_region_held_law (fun W=>W.cell? ⟨b,off+i*3,none⟩=some (.slice KA m kc)/\W.cell? ⟨b,off+i*3+1,none⟩=some (.slice VA z vc))
       (first | exact HC.out _ BRD | exact HC.out _ B7)
       (first
        | (go_at_call 66;(with_reducible refine (HPUT.out _ bd).mono ?_);rintro e w7 ⟨r7,L7,rfl,ht7,hs7,hr7⟩;have T7:=Lib.hid ht7;have B7:Below w.heap.size w w7:=hs7.below BRD (fun j hj=>by have:=HG.out;omega);have HR7:=Lib.hid hr7;clear ht7 hs7 hr7))
      all_goals
       have HE7:Hid (L7=putT y x Z):=by
        show _=_
        rcases HR7.out with ⟨h1,_,_⟩ | ⟨_,_,h1⟩
        · have h2:=size_doV HSRZ.out (y,x,false)
          have h3:sizeT (putT y x Z)<=sizeT Z+(y.length+x.length):=h2
          rw [<-HM.out,<-HZL.out] at h3
          have:=HSZ.out.2
          omega
        · exact h1
       go_wp2_with fail
       go_roundg (n-(i+1))
       case measure=>have:=HI.out;omega
       case rel=>exact ⟨i+1,by have:=HI.out;omega,rfl,B7,by have h8:=T7.out;rw [HE7.out] at h8;rw [HTAKE.out];exact h8⟩
    · have HDE:=Lib.hid (rdel_any wr _ HLT.out gc room Z KA y m kc TR.out (HSY.out.below BR.out) HM.out.symm)
      go_wp2_with fail
      with_reducible refine HDE.out.mono ?_
      rintro e w7 ⟨rfl,ht7,hs7⟩
      have T7:=Lib.hid ht7
      have B7:Below w.heap.size w w7:=hs7.below BR.out (fun j hj=>by have:=HG.out;omega)
      clear ht7 hs7
      go_wp2_with fail
      go_roundg (n-(i+1))
      case measure=>have:=HI.out;omega
      case rel=>exact ⟨i+1,by have:=HI.out;omega,rfl,B7,by have h8:=T7.out;rw [HTAKE.out];exact h8⟩
  · obtain rfl:i=n:=by have:=HI.out;omega
    have hkl: ¬ (i:Int)<(i:Int):=by omega
    have HE:Hid ((valsOf ps).take i=valsOf ps):=List.take_of_length_le (by rw [valsOf_length,HN.out];exact Nat.le_refl _)
    go_wp2_with fail
    go_ret
    exact ⟨BR.out,gc,rfl,HG.out,TR.out.lt,by have:=TR.out;rw [HE.out] at this;exact this⟩
theorem oneL_size {r u:List UInt8} {p:PutV} (h:oneL r=some (p,u)):p.1.length+p.2.1.length+u.length<r.length:=by
 cases r with
 | nil=>cases h
 | cons c r=>
  rw [oneL] at h
  rw [List.length_cons]
  split at h
  · split at h
    · cases h
    · rename_i t u' ht
      injection h with h;injection h with h1 h2;subst h1 h2
      have:=textL_less ht
      simp only [List.length_nil];omega
  · split at h
    · split at h
      · cases h
      · rename_i t u' ht
        split at h
        · cases h
        · rename_i v x hv
          injection h with h;injection h with h1 h2;subst h1 h2
          have:=textL_less ht;have:=textL_less hv
          simp only;omega
    · cases h
theorem readN_size:∀ (n:Nat) (r:List UInt8) (acc l:List PutV),readN n r acc=some l->l.length<=acc.length+r.length/\sizeP l<=sizeP acc+r.length
 | 0,r,acc,l,h=>by
  rw [readN] at h
  split at h
  · injection h with h;subst h;omega
  · cases h
 | n+1,r,acc,l,h=>by
  rw [readN] at h
  split at h
  · cases h
  · rename_i p u hp
    have h1:=readN_size n u (acc++[p]) l h
    have h2:=oneL_size hp
    have h3:sizeP [p]=p.1.length+p.2.1.length:=by rw [sizeP_cons];rfl
    rw [List.length_append,List.length_singleton,sizeP_append,h3] at h1
    omega
theorem putsL_size {d:List UInt8} {l:List PutV} (h:putsL d=some l):l.length<=d.length/\sizeP l<=d.length:=by
 unfold putsL at h
 split at h
 · cases h
 · have h1:=readN_size _ _ _ _ h
   rw [List.length_drop] at h1
   have h2:sizeP ([]:List PutV)=0:=rfl
   rw [List.length_nil,h2] at h1
   omega
def sizeD (ds:List (List UInt8)):Nat:=(ds.map List.length).sum
theorem sizeD_cons (d:List UInt8) (ds:List (List UInt8)):sizeD (d::ds)=d.length+sizeD ds:=by simp [sizeD]
theorem recsL_size:∀ {ds:List (List UInt8)} {L M:List Kv},Srt L->recsL ds L=some M->M.length<=L.length+sizeD ds/\sizeT M<=sizeT L+sizeD ds:=by
 intro ds
 induction ds with
 | nil=>intro L M _ h;injection h with h;subst h;exact ⟨Nat.le_add_right _ _,Nat.le_add_right _ _⟩
 | cons d ds ih=>
  intro L M hs h
  rw [recsL] at h
  cases hp:putsL d with
  | none=>rw [hp] at h;cases h
  | some l=>
   rw [hp] at h
   have h1:=ih (hs.doAll l) h
   have h2:=putsL_size hp
   have h3:=doAll_length (l:=l) hs
   have h4:=size_doAll (l:=l) hs
   rw [sizeD_cons]
   omega
theorem framesL_size (g:Int):∀ (ds:List (List UInt8)) (s:Nat),sizeD ds<=(framesL g s ds).length
 | [],_=>Nat.zero_le _
 | d::ds,s=>by
  have h1:=framesL_size g ds (s+1)
  have h2:d.length<=(frameL g (s:Int) d).length:=by
   unfold frameL headL
   simp only [List.length_append,List.length_cons]
   omega
  rw [framesL,List.length_append,sizeD_cons]
  omega
theorem open_size {b:List UInt8} {g:Int} {ds:List (List UInt8)} (h:openL b=some (g,ds)):sizeD ds<=b.length:=by
 obtain ⟨_,_,h3,_⟩:=open_some h
 have h4:=scan_fits g b.length b 0 (Nat.le_refl _)
 rw [<-h3] at h4
 exact Nat.le_trans (framesL_size g ds 0) h4
theorem KvOn.small {s:Dsk} {h a:Nat} {g:Int} {ds:List (List UInt8)} {L:List Kv} (k:KvOn s h a g ds L):L.length<=h*64/\sizeT L<=h*64:=by
 have h1:=recsL_size Srt.nil k.recs
 have h2:=open_size k.mine
 rw [bytes_area k.has.calm,k.has.bytes] at h2
 have h3:sizeT ([]:List Kv)=0:=rfl
 rw [List.length_nil,h3] at h1
 omega
def psCells (g b gt f:Nat) (down:Bool):List Value:=[.pointer (some ⟨g,0,none⟩),.int .i64 (f:Int),.pointer (some ⟨b,0,none⟩),.pointer (some ⟨gt,0,none⟩),.bool (!down)]
abbrev anyRoom:Int:=9223372036854775807
structure PSt (w:World) (T:Nat->Prop) (q g b gt:Nat) (F:Nat->Prop) (h:Nat) (s:Dsk) (k:KvS):Prop where
 disk:DiskAt w g F s
 log:Blk w b (lgCells g k.lg) 145
 box:Blk w q (psCells g b gt (k.a*h) k.down) 94
 tree:TreeAt w T gt anyRoom k.L
 ins:∀ x,(F x\/x=b\/x=q\/x=gt)->T x
 tlt:∀ x,T x->x<w.heap.size
 nb: ¬ F b
 nq: ¬ F q
 nt: ¬ F gt
 bq:b≠q
 bt:b≠gt
 qt:q≠gt
 fits:k.Fits h s
 half:h=s.K.length/2
def PTo (w:World) (T:Nat->Prop) (q g b gt:Nat) (F:Nat->Prop) (h:Nat) (s':Dsk) (k':KvS) (w':World):Prop:=
 ∃ (T':Nat->Prop) (b' gt':Nat) (F':Nat->Prop),PSt w' T' q g b' gt' F' h s' k'/\Spared w w' (fun x=>F x\/x=b\/x=q\/x=gt)/\(∀ x,T x->T' x)/\(∀ x,T' x->T x\/w.heap.size<=x)/\∀ x,(F' x\/x=b'\/x=gt')->(F x\/x=b\/x=gt)\/w.heap.size<=x
section
variable {w w':World} {T:Nat->Prop} {q g b gt:Nat} {F:Nat->Prop} {h:Nat} {s:Dsk} {k:KvS}
theorem PSt.below (p:PSt w T q g b gt F h s k) (hb:Below w.heap.size w w'):PSt w' T q g b gt F h s k:=
 ⟨p.disk.still hb,p.log.below hb p.log.lt,p.box.below hb p.box.lt,p.tree.below hb,p.ins,fun x hx=>Nat.lt_of_lt_of_le (p.tlt x hx) hb.size,p.nb,p.nq,p.nt,p.bq,p.bt,p.qt,p.fits,p.half⟩
theorem PTo.still (p:PSt w T q g b gt F h s k) (hb:Below w.heap.size w w'):PTo w T q g b gt F h s k w':=
 ⟨T,b,gt,F,p.below hb,.of_below hb _,fun _ h=>h,fun _ h=> .inl h,fun _ h=> .inl h⟩
theorem PSt.cells (p:PSt w T q g b gt F h s k):∀ W,Below w.heap.size w W->W.cell? ⟨q,0,none⟩=some (.pointer (some ⟨g,0,none⟩))/\W.cell? ⟨q,1,none⟩=some (.int .i64 ((k.a*h:Nat):Int))/\W.cell? ⟨q,2,none⟩=some (.pointer (some ⟨b,0,none⟩))/\W.cell? ⟨q,3,none⟩=some (.pointer (some ⟨gt,0,none⟩))/\W.cell? ⟨q,4,none⟩=some (.bool (!k.down)):=fun W hW=>by
 have h1:=p.box.below hW p.box.lt
 exact ⟨h1.cell (i:=0) (by simp [psCells]),h1.cell (i:=1) (by simp [psCells]),h1.cell (i:=2) (by simp [psCells]),h1.cell (i:=3) (by simp [psCells]),h1.cell (i:=4) (by simp [psCells])⟩
theorem half_any (hd:DiskAt w g F s) (hh:h=s.K.length/2):Calls Tryz.prog 40 #[.pointer (some ⟨g,0,none⟩)] w fun e w'=>e= .returned (.int .i64 (h:Int))/\w'=w:=by
 have HB:=Lib.hid (blocks_any hd)
 have hK:=hd.ok.hi
 generalize s.K.length=N at *
 have hw:IntKind.i64.wrap ((N:Int)/2)=(h:Int):=by rw [IntKind.wrap_i64];omega
 clear hd hh hK
 go_enter Tryz.func40,Tryz.ntmps40
 go_wp2_with fail
 with_reducible refine HB.out.mono ?_
 rintro e w1 ⟨rfl,rfl⟩
 go_wp2_with fail
 go_ret
 exact ⟨rfl,rfl⟩
theorem up_any (p:PSt w T q g b gt F h s k):Calls Tryz.prog 34 #[.pointer (some ⟨q,0,none⟩)] w fun e w'=>e= .returned (.bool (!k.down))/\w'=w:=by
 have x4:=(p.cells w (Below.refl _ _)).2.2.2.2
 generalize (!k.down)=d at *
 clear p
 go_enter Tryz.func34,Tryz.ntmps34
 go_wp2
 go_ret
 exact ⟨rfl,rfl⟩
theorem turn_any (p:PSt w T q g b gt F h s k):Calls Tryz.prog 31 #[.pointer (some ⟨q,0,none⟩)] w fun e w'=>e= .returned (.int .i64 k.lg.gen)/\w'=w:=by
 have x2:=(p.cells w (Below.refl _ _)).2.2.1
 have HG:=Lib.hid (gen_any p.log)
 generalize k.lg.gen=n at *
 clear p
 go_enter Tryz.func31,Tryz.ntmps31
 go_wp2_with fail
 with_reducible refine HG.out.mono ?_
 rintro e w1 ⟨rfl,rfl⟩
 go_wp2_with fail
 go_ret
 exact ⟨rfl,rfl⟩
theorem klen_any (p:PSt w T q g b gt F h s k):Calls Tryz.prog 38 #[.pointer (some ⟨q,0,none⟩)] w fun e w'=>e= .returned (.int .i64 (k.L.length:Int))/\w'=w:=by
 have x3:=(p.cells w (Below.refl _ _)).2.2.2.1
 have HG:=Lib.hid (len_any w T gt anyRoom k.L p.tree)
 generalize (k.L.length:Int)=n at *
 clear p
 go_enter Tryz.func38,Tryz.ntmps38
 go_wp2_with fail
 with_reducible refine HG.out.mono ?_
 rintro e w1 ⟨rfl,rfl⟩
 go_wp2_with fail
 go_ret
 exact ⟨rfl,rfl⟩
def KGet (w:World) (y:Key) (L:List Kv) (e:Ending) (w':World):Prop:=Below w.heap.size w w'/\∃ (X:Option Addr) (n c:Nat),e= .returned (.tuple #[.slice X n c,.bool (hasL y L)])/\AwayW w' (fun b=>b<w.heap.size) X (gv y L)/\(gv y L).length=n
theorem kget_any (p:PSt w T q g b gt F h s k) {B:Option Addr} {y:Key} {m d:Nat} (hk:Seen w B y) (hm:y.length=m):Calls Tryz.prog 37 #[.pointer (some ⟨q,0,none⟩),.slice B m d] w (KGet w y k.L):=by
 have x3:=(p.cells w (Below.refl _ _)).2.2.2.1
 have HG:=Lib.hid (get_named w T gt anyRoom k.L B y m d p.tree hk hm)
 generalize k.L=L at *
 clear p hk hm
 go_enter Tryz.func37,Tryz.ntmps37
 go_wp2_with fail
 with_reducible refine HG.out.mono ?_
 rintro e w1 ⟨hb,X,n,c,rfl,hx⟩
 have HX:Hid (Below w.heap.size w w1/\AwayW w1 (fun b=>b<w.heap.size) X (gv y L)/\(gv y L).length=n):=⟨hb,hx⟩
 clear hb hx HG
 go_wp2_with fail
 go_ret2
 exact ⟨HX.out.1,X,n,c,rfl,HX.out.2⟩
def KScan (w:World) (l:List Kv) (e:Ending) (w':World):Prop:=Below w.heap.size w w'/\∃ (X:Option Addr) (n c:Nat),e= .returned (.slice X n c)/\KvSeen w' X l/\l.length=n
def KScanN (w:World) (l:List Kv) (e:Ending) (w':World):Prop:=Below w.heap.size w w'/\∃ (X:Option Addr) (n c:Nat),e= .returned (.slice X n c)/\(∀ W,Spared w' W (fun x=>x<w.heap.size)->KvSeen W X l)/\l.length=n
theorem kscan_new (p:PSt w T q g b gt F h s k) {R E:Option Addr} {fr tt:Key} {r rc m d:Nat} {mo:Int} (hr:Seen w R fr) (hrl:fr.length=r) (ht:Seen w E tt) (htl:tt.length=m) (hmm:m<=9223372036854775807):
 Calls Tryz.prog 32 #[.pointer (some ⟨q,0,none⟩),.slice R r rc,.slice E m d,.int .i64 mo] w (KScanN w (scanT fr tt mo k.L)):=by
 have x3:=(p.cells w (Below.refl _ _)).2.2.2.1
 have HG:=Lib.hid (scan_any w T gt anyRoom k.L R E fr tt r rc m d mo p.tree hr hrl ht htl hmm)
 generalize scanT fr tt mo k.L=l at *
 clear p hr hrl ht htl
 go_enter Tryz.func32,Tryz.ntmps32
 go_wp2_with fail
 with_reducible refine HG.out.mono ?_
 rintro e w1 ⟨hb,B0,acc,v,rfl,hB0,hf,hl⟩
 obtain ⟨X,n,c,rfl,hn⟩:∃ X n c,v= .slice X n c/\l.length=n:=by
  obtain ⟨A,c,hv⟩:=hf.form
  exact ⟨A,_,c,hv,by rw [<-hl,List.length_map]⟩
 have HX:Hid (Below w.heap.size w w1/\(∀ W,Spared w1 W (fun x=>x<w.heap.size)->KvSeen W X l)/\l.length=n):=⟨hb,fun W hW=>(hf.moved (hW.mono (fun x (hx:x<w.heap.size)=>by show x<B0;omega))).kv hl,hn⟩
 clear hb hf hl hn HG hB0
 go_wp2_with fail
 go_ret
 exact ⟨HX.out.1,X,n,c,rfl,HX.out.2⟩
theorem kscan_any (p:PSt w T q g b gt F h s k) {R E:Option Addr} {fr tt:Key} {r rc m d:Nat} {mo:Int} (hr:Seen w R fr) (hrl:fr.length=r) (ht:Seen w E tt) (htl:tt.length=m) (hmm:m<=9223372036854775807):
 Calls Tryz.prog 32 #[.pointer (some ⟨q,0,none⟩),.slice R r rc,.slice E m d,.int .i64 mo] w (KScan w (scanT fr tt mo k.L)):=by
 refine (kscan_new p hr hrl ht htl hmm).mono ?_
 rintro e w' ⟨h1,X,n,c,h2,h3,h4⟩
 exact ⟨h1,X,n,c,h2,h3 w' (.refl _ _),h4⟩
end
theorem kopen_to {w:World} {g:Nat} {F:Nat->Prop} {s:Dsk} {f N E:Int} {lo:Option Lg} {ds:List (List UInt8)} (h:DiskAt w g F s) (hb:OpTo s f N E lo ds) (f0:IntOk f):
 Calls Tryz.prog 72 #[.pointer (some ⟨g,0,none⟩),.int .i64 f,.int .i64 N] w fun e w'=>∃ b A ps n c,e= .returned (.tuple #[lp lo b,.slice A n c,.int .i64 E])/\ps.length=n/\bytesOf ps=ds/\RecsAt w' 22 (fun k=>k<w.heap.size) ps (.slice A n c)/\(∀ l,lo=some l->Blk w' b (lgCells g l) 145)/\w.heap.size<=b/\Below w.heap.size w w':=by
 refine (open_any w g F s f N h f0.1 f0.2).mono ?_
 rintro e w' (⟨k1,rfl,k3⟩ | ⟨k1,k2,rfl,k3⟩ | ⟨k1,k2,k4,rfl,k3⟩ | ⟨k1,k2,gen',ds',k4,b,ps,v,rfl,k5,k6,k7,k8,k3⟩)
 · rcases hb with ⟨_,rfl,rfl,rfl⟩ | ⟨j,_⟩ | ⟨j,_⟩ | ⟨j,_⟩
   · exact ⟨w.heap.size,none,[],0,0,rfl,rfl,rfl,.nil _ _ _,(fun l h=>by cases h),Nat.le_refl _,k3⟩
   all_goals exact absurd j k1
 · rcases hb with ⟨j,_⟩ | ⟨_,_,rfl,rfl,rfl⟩ | ⟨_,j,_⟩ | ⟨_,j,_⟩
   · exact absurd k1 j
   · exact ⟨w.heap.size,none,[],0,0,rfl,rfl,rfl,.nil _ _ _,(fun l h=>by cases h),Nat.le_refl _,k3⟩
   all_goals (rw [k2] at j;cases j)
 · rcases hb with ⟨j,_⟩ | ⟨_,j,_⟩ | ⟨_,_,_,rfl,rfl,rfl⟩ | ⟨_,_,_,j,_⟩
   · exact absurd k1 j
   · rw [k2] at j;cases j
   · exact ⟨w.heap.size,none,[],0,0,rfl,rfl,rfl,.nil _ _ _,(fun l h=>by cases h),Nat.le_refl _,k3⟩
   · rw [k4] at j;cases j
 · rcases hb with ⟨j,_⟩ | ⟨_,j,_⟩ | ⟨_,_,j,_⟩ | ⟨_,_,gen2,j,rfl,rfl⟩
   · exact absurd k1 j
   · rw [k2] at j;cases j
   · rw [k4] at j;cases j
   · rw [k4] at j
     injection j with j
     injection j with j1 j2
     subst j1 j2
     obtain ⟨A,c,hv⟩:=k8.form
     subst hv
     exact ⟨b,A,ps,ps.length,c,rfl,rfl,k5,k8.mono (fun x hx=> .inl (.inr hx)),(fun l h=>by injection h with h;rw [<-h];exact k7),k6,k3⟩
abbrev AreaV:=Nat × Option Lg × Nat × Option Addr × Nat × Nat
def AreaIs (w:World) (g:Nat) (x:AreaV) (ds:List (List UInt8)):Prop:=(∃ ps,ps.length=x.2.2.2.2.1/\bytesOf ps=ds/\SeenAll w x.2.2.2.1 ps)/\∀ l,x.2.1=some l->Blk w x.2.2.1 (lgCells g l) 145
theorem AreaIs.below {w w':World} {g:Nat} {x:AreaV} {ds:List (List UInt8)} (h:AreaIs w g x ds) (hb:Below w.heap.size w w'):AreaIs w' g x ds:=by
 obtain ⟨⟨ps,h1,h2,h3⟩,h4⟩:=h
 exact ⟨⟨ps,h1,h2,h3.below hb⟩,fun l hl=>(h4 l hl).below hb (h4 l hl).lt⟩
def AreaAt (w:World) (B g:Nat) (x:AreaV) (ds:List (List UInt8)):Prop:=(∃ ps,ps.length=x.2.2.2.2.1/\bytesOf ps=ds/\RecsAt w 22 (fun k=>k<B) ps (.slice x.2.2.2.1 x.2.2.2.2.1 x.2.2.2.2.2))/\(∀ l,x.2.1=some l->Blk w x.2.2.1 (lgCells g l) 145)/\B<=x.2.2.1
theorem AreaAt.is {w:World} {B g:Nat} {x:AreaV} {ds:List (List UInt8)} (h:AreaAt w B g x ds):AreaIs w g x ds:=by
 obtain ⟨⟨ps,h1,h2,h3⟩,h4,_⟩:=h
 exact ⟨⟨ps,h1,h2,h3.shown⟩,h4⟩
theorem AreaAt.spared {w w':World} {B g:Nat} {x:AreaV} {ds:List (List UInt8)} (h:AreaAt w B g x ds) (hs:Spared w w' (fun k=>k<B)):AreaAt w' B g x ds:=by
 obtain ⟨⟨ps,h1,h2,h3⟩,h4,h5⟩:=h
 exact ⟨⟨ps,h1,h2,h3.moved hs (fun _ h=> .inl h)⟩,fun l hl=>hs.blk (h4 l hl) (by omega),h5⟩
def genO:Option Lg->Int
 | none=>0
 | some l=>l.gen
theorem gen_lp {w:World} {g b:Nat} {lo:Option Lg} (h:∀ l,lo=some l->Blk w b (lgCells g l) 145):Calls Tryz.prog 67 #[lp lo b] w fun e w'=>e= .returned (.int .i64 (genO lo))/\w'=w:=by
 cases lo with
 | none=>exact gen_nil w
 | some l=>exact gen_any (h l rfl)
theorem index_two (a0 a1 a2 a3 a4 a5:Value) (W:World):(Instr.index 86 (.agg #[a0,a1,a2,a3,a4,a5]) (.int .i64 0)).run Tryz.prog W= .ok (.agg #[a0,a1,a2]) W/\(Instr.index 86 (.agg #[a0,a1,a2,a3,a4,a5]) (.int .i64 1)).run Tryz.prog W= .ok (.agg #[a3,a4,a5]) W:=by
 constructor<;>kernel_rfl
set_option maxRecDepth 100000 in
set_option maxHeartbeats 2000000 in
theorem newest_raw (w:World) (f0:Nat) (P0:Option Addr) (A0:Option Addr) (n0 c0:Nat) (f1:Nat) (P1:Option Addr) (A1:Option Addr) (n1 c1:Nat) (g0 g1:Int) (newer:Bool) (hnew:newer=decide (g0<g1))
 (hG0:∀ W,Below w.heap.size w W->Calls Tryz.prog 67 #[.pointer P0] W fun e w'=>e= .returned (.int .i64 g0)/\w'=W) (hG1:∀ W,Below w.heap.size w W->Calls Tryz.prog 67 #[.pointer P1] W fun e w'=>e= .returned (.int .i64 g1)/\w'=W):
 Calls Tryz.prog 42 #[.agg #[.int .i64 (f0:Int),.pointer P0,.slice A0 n0 c0,.int .i64 (f1:Int),.pointer P1,.slice A1 n1 c1]] w fun e w'=>e= .returned (if newer then .agg #[.int .i64 (f1:Int),.pointer P1,.slice A1 n1 c1] else .agg #[.int .i64 (f0:Int),.pointer P0,.slice A0 n0 c0])/\Below w.heap.size w w':=by
 have G0:=Lib.hid hG0
 have G1:=Lib.hid hG1
 obtain ⟨R,hR⟩:∃ R,R=(if newer then .agg #[.int .i64 (f1:Int),.pointer P1,.slice A1 n1 c1] else Value.agg #[.int .i64 (f0:Int),.pointer P0,.slice A0 n0 c0]):=⟨_,rfl⟩
 rw [<-hR]
 have HR:=Lib.hid hR
 have HNEW:=Lib.hid hnew
 have hix0:=fun (a0 a1 a2 a3 a4 a5:Value) (W:World)=>(index_two a0 a1 a2 a3 a4 a5 W).1
 have hix1:=fun (a0 a1 a2 a3 a4 a5:Value) (W:World)=>(index_two a0 a1 a2 a3 a4 a5 W).2
 clear hG0 hG1 hR hnew
 go_enter Tryz.func42,Tryz.ntmps42
 go_wp2_with fail
 go_loopg [9] 2 (fun kx s9 wr=>∃ (i:Nat) (a0 a1 a2:Value),i+kx=2/\s9= .int .i64 (i:Int)/\Below w.heap.size w wr/\Blk wr (w.heap.size+1+1) [a0,a1,a2] 85/\Blk wr (w.heap.size+1) [.int .i64 0,.pointer none,.slice none 0 0] 85/\((i<=1/\a0= .int .i64 (f0:Int)/\a1= .pointer P0/\a2= .slice A0 n0 c0)\/(i=2/\R= .agg #[a0,a1,a2]/\∃ (f:Nat) (P A:Option Addr) (n c:Nat),a0= .int .i64 (f:Int)/\a1= .pointer P/\a2= .slice A n c)))
 case atStart=>
  refine ⟨0,_,_,_,by omega,rfl,?_,?_,?_,.inl ⟨by omega,rfl,rfl,rfl⟩⟩
  · exact (((Below.refl _ _).alloc (Nat.le_refl _) _).alloc (by simp) _).alloc (by simp;omega) _
  · have:=Blk.new ((w.alloc (.cells #[.int .i64 (f0:Int),.pointer P0,.slice A0 n0 c0,.int .i64 (f1:Int),.pointer P1,.slice A1 n1 c1] 86)).alloc (.cells #[.int .i64 0,.pointer none,.slice none 0 0] 85)) [.int .i64 (f0:Int),.pointer P0,.slice A0 n0 c0] 85
    simp only [World.size_alloc] at this
    exact this
  · have:=(Blk.new (w.alloc (.cells #[.int .i64 (f0:Int),.pointer P0,.slice A0 n0 c0,.int .i64 (f1:Int),.pointer P1,.slice A1 n1 c1] 86)) [.int .i64 0,.pointer none,.slice none 0 0] 85).alloc (.cells #[.int .i64 (f0:Int),.pointer P0,.slice A0 n0 c0] 85)
    simp only [World.size_alloc] at this
    exact this
 case round=>
  obtain ⟨i,a0,a1,a2,hi,rfl,hbr,hbf,hbz,hc⟩:=hrel
  have BR:=Lib.hid hbr
  have BF:=Lib.hid hbf
  have BZ:=Lib.hid hbz
  have hlt:=hbf.lt
  have x0:=hbf.cell (i:=0) (by simp)
  have x1:=hbf.cell (i:=1) (by simp)
  have x2:=hbf.cell (i:=2) (by simp)
  simp only [List.getElem_cons_zero,List.getElem_cons_succ] at x0 x1 x2
  have y0:=hbf.free 0
  have y1:=hbf.free 1
  have y2:=hbf.free 2
  obtain rfl | rfl | rfl:i=0\/i=1\/i=2:=by omega
  · obtain ⟨rfl,rfl,rfl⟩:a0= .int .i64 (f0:Int)/\a1= .pointer P0/\a2= .slice A0 n0 c0:=by
     rcases hc with ⟨_,h⟩ | ⟨h,_⟩
     · exact h
     · omega
    obtain rfl:gk=2:=by omega
    have hgg:decide (g0<g0)=false:=decide_eq_false (by omega)
    obtain ⟨w5,hw5⟩:∃ w5,w5=wr.alloc (.cells #[.int .i64 (f0:Int),.pointer P0,.slice A0 n0 c0] 85):=⟨_,rfl⟩
    have hb5:Below wr.heap.size wr w5:=by rw [hw5];exact (Below.refl _ _).alloc (Nat.le_refl _) _
    have B5:Hid (Below w.heap.size w w5):=hop BR.out hb5
    have BF5:=Lib.hid (BF.out.below hb5 hlt)
    have BZ5:=Lib.hid (BZ.out.below hb5 BZ.out.lt)
    have hx5:Blk w5 wr.heap.size [.int .i64 (f0:Int),.pointer P0,.slice A0 n0 c0] 85:=by rw [hw5];exact Blk.new _ _ _
    have HW5:Hid (wr.alloc (.cells #[.int .i64 (f0:Int),.pointer P0,.slice A0 n0 c0] 85)=w5):=hw5.symm
    have v1:=hx5.cell (i:=1) (by simp)
    have u1:=BF5.out.cell (i:=1) (by simp)
    simp only [List.getElem_cons_zero,List.getElem_cons_succ] at v1 u1
    have HC0:=Lib.hid (G0.out w5.drew B5.out.drew)
    clear hc hi hbr hbf hbz hlt x0 x1 x2 y0 y1 y2 hw5 hb5 hx5
    go_wp2_with fail
    rw [HW5.out]
    go_region_held_law (fun W=>W.cell? ⟨wr.heap.size,1,none⟩=some (.pointer P0)/\W.cell? ⟨w.heap.size+1+1,1,none⟩=some (.pointer P0))
     (first | exact ⟨v1,u1⟩)
     (first
      | (go_at_call 67;(with_reducible refine HC0.out.mono ?_);rintro e w9 ⟨rfl,rfl⟩))
    go_wp2_with fail
    go_roundg 1
    case measure=>omega
    case rel=>exact ⟨1,_,_,_,by omega,rfl,B5.out.drew,BF5.out,BZ5.out,.inl ⟨by omega,rfl,rfl,rfl⟩⟩
  · obtain ⟨rfl,rfl,rfl⟩:a0= .int .i64 (f0:Int)/\a1= .pointer P0/\a2= .slice A0 n0 c0:=by
     rcases hc with ⟨_,h⟩ | ⟨h,_⟩
     · exact h
     · omega
    obtain rfl:gk=1:=by omega
    obtain ⟨w5,hw5⟩:∃ w5,w5=wr.alloc (.cells #[.int .i64 (f1:Int),.pointer P1,.slice A1 n1 c1] 85):=⟨_,rfl⟩
    have hb5:Below wr.heap.size wr w5:=by rw [hw5];exact (Below.refl _ _).alloc (Nat.le_refl _) _
    have B5:Hid (Below w.heap.size w w5):=hop BR.out hb5
    have BF5:=Lib.hid (BF.out.below hb5 hlt)
    have BZ5:=Lib.hid (BZ.out.below hb5 BZ.out.lt)
    have hx5:Blk w5 wr.heap.size [.int .i64 (f1:Int),.pointer P1,.slice A1 n1 c1] 85:=by rw [hw5];exact Blk.new _ _ _
    have HW5:Hid (wr.alloc (.cells #[.int .i64 (f1:Int),.pointer P1,.slice A1 n1 c1] 85)=w5):=hw5.symm
    have v0:=hx5.cell (i:=0) (by simp)
    have v1:=hx5.cell (i:=1) (by simp)
    have v2:=hx5.cell (i:=2) (by simp)
    have u0:=BF5.out.cell (i:=0) (by simp)
    have u1:=BF5.out.cell (i:=1) (by simp)
    have u2:=BF5.out.cell (i:=2) (by simp)
    simp only [List.getElem_cons_zero,List.getElem_cons_succ] at v0 v1 v2 u0 u1 u2
    have z0:=BF5.out.free 0
    have z1:=BF5.out.free 1
    have z2:=BF5.out.free 2
    have HC0:=Lib.hid (G0.out w5.drew B5.out.drew)
    have HC1:=Lib.hid (G1.out w5.drew B5.out.drew)
    have hbw:w.heap.size+1+1≠wr.heap.size:=by omega
    clear hc hi hbr hbf hbz x0 x1 x2 y0 y1 y2 hw5 hb5 hx5
    cases newer
    · have hgg:decide (g0<g1)=false:=HNEW.out.symm
      have HRR:Hid (R= .agg #[.int .i64 (f0:Int),.pointer P0,.slice A0 n0 c0]):=HR.out
      go_wp2_with fail
      rw [HW5.out]
      go_region_held_law (fun W=>W.cell? ⟨wr.heap.size,1,none⟩=some (.pointer P1)/\W.cell? ⟨w.heap.size+1+1,1,none⟩=some (.pointer P0))
       (first | exact ⟨v1,u1⟩)
       (first
        | (go_at_call 67;(first | (with_reducible refine HC0.out.mono ?_) | (with_reducible refine HC1.out.mono ?_));rintro e w9 ⟨rfl,rfl⟩))
      go_wp2_with fail
      go_roundg 0
      case measure=>omega
      case rel=>exact ⟨2,_,_,_,by omega,rfl,B5.out.drew,BF5.out,BZ5.out,.inr ⟨rfl,HRR.out,_,_,_,_,_,rfl,rfl,rfl⟩⟩
    · have hgg:decide (g0<g1)=true:=HNEW.out.symm
      have HRR:Hid (R= .agg #[.int .i64 (f1:Int),.pointer P1,.slice A1 n1 c1]):=HR.out
      go_wp2_with fail
      rw [HW5.out]
      go_region_held_law (fun W=>W.cell? ⟨wr.heap.size,1,none⟩=some (.pointer P1)/\W.cell? ⟨w.heap.size+1+1,1,none⟩=some (.pointer P0))
       (first | exact ⟨v1,u1⟩)
       (first
        | (go_at_call 67;(first | (with_reducible refine HC0.out.mono ?_) | (with_reducible refine HC1.out.mono ?_));rintro e w9 ⟨rfl,rfl⟩))
      go_wp2_with fail
      go_roundg 0
      case measure=>omega
      case rel=>
       have BS:Blk (((w5.drew.setCell ⟨w.heap.size+1+1,0,none⟩ (.int .i64 (f1:Int))).setCell ⟨w.heap.size+1+1,1,none⟩ (.pointer P1)).setCell ⟨w.heap.size+1+1,2,none⟩ (.slice A1 n1 c1)) (w.heap.size+1+1) [.int .i64 (f1:Int),.pointer P1,.slice A1 n1 c1] 85:=((BF5.out.drew.set 0 (.int .i64 (f1:Int))).set 1 (.pointer P1)).set 2 (.slice A1 n1 c1)
       exact ⟨2,_,_,_,by omega,rfl,((B5.out.drew.setCell (by simp;omega) _).setCell (by simp;omega) _).setCell (by simp;omega) _,BS,((BZ5.out.drew.other _ _ (by simp)).other _ _ (by simp)).other _ _ (by simp),.inr ⟨rfl,HRR.out,_,_,_,_,_,rfl,rfl,rfl⟩⟩
  · obtain ⟨HRR,f,P,A,n,c,rfl,rfl,rfl⟩:Hid (R= .agg #[a0,a1,a2])/\∃ (f:Nat) (P A:Option Addr) (n c:Nat),a0= .int .i64 (f:Int)/\a1= .pointer P/\a2= .slice A n c:=by
     rcases hc with ⟨h,_⟩ | ⟨_,h⟩
     · omega
     · exact h
    have z0:=hbz.cell (i:=0) (by simp)
    have z1:=hbz.cell (i:=1) (by simp)
    have z2:=hbz.cell (i:=2) (by simp)
    simp only [List.getElem_cons_zero,List.getElem_cons_succ] at z0 z1 z2
    have q0:=hbz.free 0
    have q1:=hbz.free 1
    have q2:=hbz.free 2
    have BE:Hid (Below w.heap.size w (((wr.setCell ⟨w.heap.size+1,0,none⟩ (.int .i64 (f:Int))).setCell ⟨w.heap.size+1,1,none⟩ (.pointer P)).setCell ⟨w.heap.size+1,2,none⟩ (.slice A n c))):=((BR.out.setCell (by simp) _).setCell (by simp) _).setCell (by simp) _
    clear hc hi hbr hbf hbz y0 y1 y2
    go_wp2_with fail
    refine bodyPost_ret (v:= .agg #[.int .i64 (f:Int),.pointer P,.slice A n c]) (by simp [results,Tryz.results42,go_sem,z0,z1,z2]) rfl ⟨by rw [HRR.out],BE.out⟩
end Go.Proofs.YtdaahapbpnjkfaaGreat
