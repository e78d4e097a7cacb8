/-
The program's begin: a log of all pairs in an area. Conditions: at most 99,999 pairs, whose batch has at most 2^47 bytes; the disk has taken at most 700,000 calls.
-/
import Derived.Test.YtdaahapbpnjkfaaGreatCFBatch
import Derived.Test.YtdaahapbpnjkfaaGreatCLgRead
import Derived.Test.YtdaahapbpnjkfaaGreatCKpAreas
import Derived.Test.YtdaahapbpnjkfaaGreatCTrStep
import Derived.Test.YtdaahapbpnjkfaaGreatCRf
import Derived.Test.YtdaahapbpnjkfaaGreatCKvD
import Derived.Deep.RegionHeldLaw
namespace Go.Proofs.YtdaahapbpnjkfaaGreat
open Go.RowKit
theorem refPut_on (w0 w:World) (A:Option Addr) (d:List UInt8) (n c m:Nat) (H:MadeN 5 w0 d A n c w) (hm:m<=9223372036854775807) (hb:n<=140737488000000):
 Calls Tryz.prog 92 #[.slice A n c,.int .i64 (m:Int)] w fun e w'=>∃ A' n' c',e= .returned (.slice A' n' c')/\MadeN 5 w0 (d++putL m) A' n' c' w':=by
 refine (refPut_made A d n c m w H.1 (by omega) hm H.seen).mono ?_
 rintro e w' ⟨A',n',c',rfl,hm'⟩
 exact ⟨A',n',c',rfl,hm'.1,hm'.2.since H.2.2⟩
set_option maxRecDepth 100000 in
set_option maxHeartbeats 2000000 in
theorem refBatch_any (A:Option Addr) (ps:List PPut) (L c:Nat) (w:World) (hL:ps.length=L) (hs:PutsSeen w A ps) (hn:L<=9223372036854775807) (hb:(batchL (valsOf ps)).length<=140737488000000):
 Calls Tryz.prog 57 #[.slice A L c] w fun e w'=>∃ A' n' c',e= .returned (.slice A' n' c')/\MadeN 5 w (batchL (valsOf ps)) A' n' c' w':=by
 obtain ⟨i0,hi,hz0,hz1,hz2⟩:=info_parts info8p
 have HS:=Lib.hid hs
 have HL:=Lib.hid hL
 have HB:Hid ((putL L).length+(putsV (valsOf ps)).length<=140737488000000):=by
  show _<=_;rw [batchL,valsOf_length,hL,List.length_append] at hb;exact hb
 have HBE:Hid (batchL (valsOf ps)=putL L++putsV (valsOf ps)):=by show _=_;rw [batchL,valsOf_length,hL]
 clear hs hL hb
 have HM0:Hid (MadeN 5 w [] none 0 0 w):=⟨rfl,Made.nil _ _⟩
 go_enter Tryz.func57,Tryz.ntmps57
 go_wp2_with fail
 refine (refPut_on w w none [] 0 0 L HM0.out hn (by omega)).mono ?_
 rintro e w1 ⟨A1,n1,c1,rfl,hm1⟩
 have HM1:Hid (MadeN 5 w (putL L) A1 n1 c1 w1):=hm1
 clear hm1
 go_wp2_with fail
 go_loopw [3,4] (fun b i wr=>BR w ps b i wr) (fun _ i _=>L-(intOf i).toNat)
 case atStart=>exact ⟨0,A1,n1,c1,by omega,rfl,rfl,by rw [HL.out];simpa [putsV,valsOf] using HM1.out⟩
 case round=>
  clear HM1
  obtain ⟨k,A2,n2,c2,hk,rfl,rfl,hm⟩:=hrel
  rw [HL.out] at hk hm
  obtain ⟨D,hD⟩:∃ D,D=putL L++putsV (valsOf (ps.take k)):=⟨_,rfl⟩
  rw [<-hD] at hm
  have ED:=Lib.hid hD
  have HM:=Lib.hid hm
  clear hD hm
  by_cases hlt:k<L
  · have hk':k<ps.length:=by rw [HL.out];exact hlt
    obtain ⟨b,off,hA,hok,hat⟩:=HS.out.at_ k hk'
    subst hA
    have HN:=Lib.hid (putsV_next hk')
    have HF:=Lib.hid (putsV_fits (ps:=ps) (k+1))
    obtain ⟨q,hq⟩:∃ q,q=ps[k]:=⟨_,rfl⟩
    rw [<-hq] at hok HN hat
    clear hq
    obtain ⟨⟨qA,ql,qc⟩,⟨vA,vl,vc⟩,g⟩:=q
    obtain ⟨⟨hsq,hlq⟩,⟨hsv,hlv⟩⟩:=hok
    simp only [pv] at hat hsq hlq hsv hlv
    obtain ⟨qn,hqn⟩:∃ qn,qn=ql.length:=⟨_,rfl⟩
    obtain ⟨vn,hvn⟩:∃ vn,vn=vl.length:=⟨_,rfl⟩
    rw [<-hqn,<-hvn] at hat
    have HAT:=Lib.hid hat
    have HQN:Hid (ql.length=qn):=hqn.symm
    have HVN:Hid (vl.length=vn):=hvn.symm
    have hq63:qn<=9223372036854775807:=by omega
    have hv63:vn<=9223372036854775807:=by omega
    have HSQ:=Lib.hid hsq
    have HSV:=Lib.hid hsv
    obtain ⟨e0,e1,e2⟩:=hat wr HM.out.2.2
    clear hsq hsv hlq hlv hqn hvn hat
    cases g with
    | true=>
     have HN':Hid (putsV (valsOf (ps.take (k+1)))=putsV (valsOf (ps.take k))++(1::partP ql)):=HN.out
     have L1:Hid (([1]:List UInt8).length=1):=rfl
     obtain ⟨D1,hD1⟩:∃ D1,D1=D++[1]:=⟨_,rfl⟩
     obtain ⟨N1,hN1⟩:∃ N1,N1=n2+1:=⟨_,rfl⟩
     have ED1:=Lib.hid hD1
     have EN1:=Lib.hid hN1
     have hfit:Hid (N1+(partP ql).length<=140737488000000):=by
      show _<=_
      have h1:=HF.out
      have h2:=HB.out
      rw [HN'.out,List.length_append,List.length_cons] at h1
      have h3:=HM.out.1
      rw [ED.out,List.length_append] at h3
      omega
     have HPL:=Lib.hid (partP_length ql)
     have hn2b:n2<=140737488000000:=by have:=hfit.out;omega
     clear hD1 hN1
     go_wp2_with (at_builtin;refine wpList_append_new wr rfl (.tmp 20) (.tmp 22) 22 rfl 5 i0 (.int .u8 0) Tryz.underlying22 hi hz0 hz1 hz2 rfl w A2 n2 c2 D 1 _ [1] D1 N1 rfl _ rfl rfl HM rfl L1 ED1 EN1 (by omega) ?_)
     intro A3 c3 w3 HM3 _
     obtain ⟨x0,x1,x2⟩:=HAT.out w3 HM3.out.2.2
     go_wp2_with fail
     refine (refPut_on w w3 A3 D1 N1 c3 qn HM3.out (by omega) (by have:=hfit.out;omega)).mono ?_
     rintro e w4 ⟨A4,n4,c4,rfl,hm4⟩
     have HM4:=Lib.hid hm4
     obtain ⟨y0,y1,y2⟩:=HAT.out w4 hm4.2.2
     clear hm4 x0 x1 x2
     obtain ⟨D4,hD4⟩:∃ D4,D4=D1++putL qn:=⟨_,rfl⟩
     rw [<-hD4] at HM4
     obtain ⟨D5,hD5⟩:∃ D5,D5=D4++ql:=⟨_,rfl⟩
     obtain ⟨N5,hN5⟩:∃ N5,N5=n4+qn:=⟨_,rfl⟩
     have ED4:=Lib.hid hD4
     have ED5:=Lib.hid hD5
     have EN5:=Lib.hid hN5
     have hfit5:n4+qn<=140737488000000:=by
      have h1:=HM4.out.1
      rw [hD4,List.length_append,HM3.out.1] at h1
      have h2:=hfit.out
      have h3:=HPL.out.2
      rw [HQN.out] at h3
      omega
     have HSQ4:=Lib.hid (HSQ.out.below HM4.out.2.2)
     clear hD4 hD5 hN5
     go_wp2_with (at_builtin;refine wpList_append_to w4 rfl (.tmp 32) (.tmp 37) 22 rfl 5 i0 (.int .u8 0) Tryz.underlying22 hi hz0 hz1 hz2 rfl w A4 n4 c4 D4 qA qn qc ql D5 N5 rfl rfl HM4 HSQ4 HQN ED5 EN5 (by omega) ?_)
     intro A5 c5 w5 HM5 _
     obtain ⟨x0,x1,x2⟩:=HAT.out w5 HM5.out.2.2
     clear y0 y1 y2
     go_wp2_with fail
     go_roundw
     case rel=>
      refine ⟨k+1,A5,N5,c5,by rw [HL.out];omega,by go_num,rfl,?_⟩
      have e:putL ps.length++putsV (valsOf (ps.take (k+1)))=D5:=by rw [HN'.out,ED5.out,ED4.out,ED1.out,ED.out,HL.out,partP,HQN.out];simp
      rw [e];exact HM5.out
     case measure=>simp [intOf];omega
    | false=>
     have HN':Hid (putsV (valsOf (ps.take (k+1)))=putsV (valsOf (ps.take k))++(0::(partP ql++partP vl))):=HN.out
     have L1:Hid (([0]:List UInt8).length=1):=rfl
     obtain ⟨D1,hD1⟩:∃ D1,D1=D++[0]:=⟨_,rfl⟩
     obtain ⟨N1,hN1⟩:∃ N1,N1=n2+1:=⟨_,rfl⟩
     have ED1:=Lib.hid hD1
     have EN1:=Lib.hid hN1
     have hfit:Hid (N1+((partP ql).length+(partP vl).length)<=140737488000000):=by
      show _<=_
      have h1:=HF.out
      have h2:=HB.out
      rw [HN'.out,List.length_append,List.length_cons,List.length_append] at h1
      have h3:=HM.out.1
      rw [ED.out,List.length_append] at h3
      omega
     have HPL:=Lib.hid (partP_length ql)
     have HPV:=Lib.hid (partP_length vl)
     have hn2b:n2<=140737488000000:=by have:=hfit.out;omega
     clear hD1 hN1
     go_wp2_with (at_builtin;refine wpList_append_new wr rfl (.tmp 20) (.tmp 22) 22 rfl 5 i0 (.int .u8 0) Tryz.underlying22 hi hz0 hz1 hz2 rfl w A2 n2 c2 D 1 _ [0] D1 N1 rfl _ rfl rfl HM rfl L1 ED1 EN1 (by omega) ?_)
     intro A3 c3 w3 HM3 _
     obtain ⟨x0,x1,x2⟩:=HAT.out w3 HM3.out.2.2
     go_wp2_with fail
     refine (refPut_on w w3 A3 D1 N1 c3 qn HM3.out (by omega) (by have:=hfit.out;omega)).mono ?_
     rintro e w4 ⟨A4,n4,c4,rfl,hm4⟩
     have HM4:=Lib.hid hm4
     obtain ⟨y0,y1,y2⟩:=HAT.out w4 hm4.2.2
     clear hm4 x0 x1 x2
     obtain ⟨D4,hD4⟩:∃ D4,D4=D1++putL qn:=⟨_,rfl⟩
     rw [<-hD4] at HM4
     obtain ⟨D5,hD5⟩:∃ D5,D5=D4++ql:=⟨_,rfl⟩
     obtain ⟨N5,hN5⟩:∃ N5,N5=n4+qn:=⟨_,rfl⟩
     have ED4:=Lib.hid hD4
     have ED5:=Lib.hid hD5
     have EN5:=Lib.hid hN5
     have hfit5:Hid (n4+qn+(partP vl).length<=140737488000000):=by
      show _<=_
      have h1:=HM4.out.1
      rw [hD4,List.length_append,HM3.out.1] at h1
      have h2:=hfit.out
      have h3:=HPL.out.2
      rw [HQN.out] at h3
      omega
     have hfit5':n4+qn<=140737488000000:=by have:=hfit5.out;omega
     have HSQ4:=Lib.hid (HSQ.out.below HM4.out.2.2)
     clear hD4 hD5 hN5
     go_wp2_with (at_builtin;refine wpList_append_to w4 rfl (.tmp 32) (.tmp 37) 22 rfl 5 i0 (.int .u8 0) Tryz.underlying22 hi hz0 hz1 hz2 rfl w A4 n4 c4 D4 qA qn qc ql D5 N5 rfl rfl HM4 HSQ4 HQN ED5 EN5 (by omega) ?_)
     intro A5 c5 w5 HM5 _
     obtain ⟨x0,x1,x2⟩:=HAT.out w5 HM5.out.2.2
     clear y0 y1 y2
     go_wp2_with fail
     refine (refPut_on w w5 A5 D5 N5 c5 vn HM5.out (by omega) (by have:=EN5.out;omega)).mono ?_
     rintro e w6 ⟨A6,n6,c6,rfl,hm6⟩
     have HM6:=Lib.hid hm6
     obtain ⟨y0,y1,y2⟩:=HAT.out w6 hm6.2.2
     clear hm6 x0 x1 x2
     obtain ⟨D6,hD6⟩:∃ D6,D6=D5++putL vn:=⟨_,rfl⟩
     rw [<-hD6] at HM6
     obtain ⟨D7,hD7⟩:∃ D7,D7=D6++vl:=⟨_,rfl⟩
     obtain ⟨N7,hN7⟩:∃ N7,N7=n6+vn:=⟨_,rfl⟩
     have ED6:=Lib.hid hD6
     have ED7:=Lib.hid hD7
     have EN7:=Lib.hid hN7
     have hfit7:n6+vn<=140737488000000:=by
      have h1:=HM6.out.1
      rw [hD6,List.length_append,HM5.out.1] at h1
      have h2:=hfit5.out
      have h3:=HPV.out.2
      have h4:=EN5.out
      rw [HVN.out] at h3
      omega
     have HSV6:=Lib.hid (HSV.out.below HM6.out.2.2)
     clear hD6 hD7 hN7
     go_wp2_with (at_builtin;refine wpList_append_to w6 rfl (.tmp 53) (.tmp 58) 22 rfl 5 i0 (.int .u8 0) Tryz.underlying22 hi hz0 hz1 hz2 rfl w A6 n6 c6 D6 vA vn vc vl D7 N7 rfl rfl HM6 HSV6 HVN ED7 EN7 (by omega) ?_)
     intro A7 c7 w7 HM7 _
     clear y0 y1 y2
     go_wp2_with fail
     go_roundw
     case rel=>
      refine ⟨k+1,A7,N7,c7,by rw [HL.out];omega,by go_num,rfl,?_⟩
      have e:putL ps.length++putsV (valsOf (ps.take (k+1)))=D7:=by rw [HN'.out,ED7.out,ED6.out,ED5.out,ED4.out,ED1.out,ED.out,HL.out,partP,partP,HQN.out,HVN.out];simp
      rw [e];exact HM7.out
     case measure=>simp [intOf];omega
  · obtain rfl:k=L:=by omega
    have e:D=batchL (valsOf ps):=by rw [HBE.out,ED.out,<-HL.out,List.take_length]
    go_wp2_with fail
    go_ret
    exact ⟨A2,n2,c2,rfl,by rw [<-e];exact HM.out⟩
def putsOf (els:List (El 0)):List PPut:=els.map fun q=>(epiece 0 q,eval0 q,false)
theorem putsOf_vals (els:List (El 0)):valsOf (putsOf els)=allP (els.map kv0):=by
 unfold valsOf putsOf allP
 rw [List.map_map,List.map_map]
 rfl
def putCells (ps:List PPut):List Value:=(ps.map pcells).flatten
theorem putCells_append (a b:List PPut):putCells (a++b)=putCells a++putCells b:=by simp [putCells]
theorem putCells_length (ps:List PPut):(putCells ps).length=ps.length*3:=pcells_flat ps
theorem puts_of {w:World} {F:Nat->Prop} {A:Option Addr} {ps:List PPut} (h:Cells w F A (putCells ps)) (hk:∀ q ∈ ps,PutOk w q):PutsSeen w A ps:=by
 rcases h with h | ⟨b,off,rfl,hlt,_,hc⟩
 · left
   have:=putCells_length ps
   rw [h] at this
   exact List.eq_nil_of_length_eq_zero (by simp at this;omega)
 · refine .inr ⟨b,off,rfl,hlt,fun j hj=> ?_⟩
   have key:∀ i,i<3->w.cell? ⟨b,off+j*3+i,none⟩=(pcells ps[j])[i]? :=fun i hi=>by
    have hlt2:j*3+i<(putCells ps).length:=by rw [putCells_length];omega
    rw [Nat.add_assoc,hc _ hlt2,<-List.getElem?_eq_getElem hlt2]
    have h2:=flat_at (ps.map pcells) j i (by simpa using hj) (m:=3) (fun r hr=>by obtain ⟨x,_,rfl⟩:=List.mem_map.1 hr;rfl) (by simp [pcells];omega)
    refine Eq.trans h2 ?_
    simp
   exact ⟨key 0 (by decide),key 1 (by decide),key 2 (by decide),hk _ (List.getElem_mem hj)⟩
theorem rowU:∃ i z,RowTy Tryz.prog 38 72 3 56 i z:=by
 have hf:(Tryz.prog.info? 72).map (fun i=>(i.zero,i.size,i.bytes))=some (some (.agg #[.slice none 0 0,.slice none 0 0,.bool false]),3,56):=by kernel_rfl
 obtain ⟨i,hi,hz,hs,hb⟩:=info_parts hf
 exact ⟨i,_,Tryz.underlying38,by kernel_rfl,hi,hz,hs,hb,rfl,by decide⟩
theorem three_one (A:Option Addr) (n c:Nat) (B:Option Addr) (m d:Nat) (g:Bool):∀ u ∈ ([.slice A n c,.slice B m d,.bool g]:List Value),u.oneCell'=true:=fun u hu=>by
 rcases List.mem_cons.1 hu with rfl | hu
 · rfl
 · rcases List.mem_cons.1 hu with rfl | hu
   · rfl
   · rw [List.mem_singleton.1 hu];rfl
theorem own_drew {w:World} {base s n:Nat} {e:TypeId} {v:Value} {xs:List Value} (h:w.ownsRow base e s v n xs):w.drew.ownsRow base e s v n xs:=h
set_option maxRecDepth 100000 in
set_option maxHeartbeats 2000000 in
theorem rall_any (w:World) (F:Nat->Prop) (gm:Nat) (room:Int) (L:List Kv) (t:MapAt w F gm room L) (hb:(batchL (allP L)).length<=140737488000000):
 Calls Tryz.prog 47 #[.pointer (some ⟨gm,0,none⟩)] w fun e w'=>∃ A' n' c',e= .returned (.slice A' n' c')/\MadeN 5 w (batchL (allP L)) A' n' c' w':=by
 obtain ⟨A,c,els,he,hel,hbl,hcl,hlc,hao,hn9⟩:=map_els t
 have hv:valsOf (putsOf els)=allP L:=by rw [putsOf_vals,he]
 rw [<-hv] at hb ⊢
 obtain ⟨i0,z0,R⟩:=rowU
 have HR:=Lib.hid R
 have HB:=Lib.hid hbl
 have HCL:=Lib.hid hcl
 have HAO:=Lib.hid hao
 have HBB:=Lib.hid hb
 obtain ⟨n,hn⟩:∃ n,n=L.length:=⟨_,rfl⟩
 rw [<-hn] at hel HB hlc hn9
 have HEL:=Lib.hid hel
 obtain ⟨ps,hps⟩:∃ ps,ps=putsOf els:=⟨_,rfl⟩
 rw [<-hps] at HBB ⊢
 have HPL:Hid (ps.length=n):=by show _=_;rw [hps,putsOf,List.length_map,hel]
 have HPI:Hid (∀ (i:Nat) (h:i<ps.length) (h2:i<els.length),ps[i]=(epiece 0 els[i],eval0 els[i],false)):=fun i h h2=>by
  subst hps;simp [putsOf]
 have HOK:Hid (∀ q ∈ ps,PutOk w q):=fun q hq=>by
  rw [hps] at hq
  obtain ⟨x,hx,rfl⟩:=List.mem_map.1 hq
  have hx2:=hao x hx
  exact ⟨⟨hx2.1.1.seen,by have h5:(epiece 0 x).2.1.length<=1000000000:=hx2.1.2.2;show (epiece 0 x).2.1.length<=_;omega⟩,⟨hx2.2.1.seen,by have h5:(eval0 x).2.1.length<=1000000000:=hx2.2.2.2;show (eval0 x).2.1.length<=_;omega⟩⟩
 clear t he hel hbl hcl hao hv hb R hn hps
 go_enter Tryz.func47,Tryz.ntmps47
 go_wp2_with fail
 go_loopg [3,4] n (fun kx s4 s5 wr=>∃ (i:Nat) (B:Option Addr) (e:Nat),i+kx=n/\s5= .int .i64 (i:Int)/\s4= .slice B i e/\Below w.heap.size w wr/\wr.ownsRow w.heap.size 72 3 (.slice B i e) i (putCells (ps.take i)))
 case atStart=>exact ⟨0,none,0,by omega,rfl,rfl,Below.refl _ _,World.ownsRow_nil _ _ _ _⟩
 case round=>
  obtain ⟨i,B,e,hi,rfl,rfl,hbr,hown⟩:=hrel
  have HI:=Lib.hid hi
  have HBR:=Lib.hid hbr
  have HOWN:=Lib.hid hown
  have hbb:=HB.out.below hbr HB.out.lt
  have x1:=hbb.cell (i:=1) (by simp)
  simp only [List.getElem_cons_zero,List.getElem_cons_succ] at x1
  clear hi hbr hown hbb
  by_cases hlt:i<n
  · have hkl:(i:Int)<(n:Int):=by omega
    have hil2:i<els.length:=by have:=HEL.out;omega
    have hil3:i<ps.length:=by have:=HPL.out;omega
    obtain ⟨b,off,rfl,hblt,_,h0,h1⟩:=pair_cells HCL.out i hil2
    obtain ⟨⟨A0,y,c0⟩,hp⟩:∃ p,p=epiece 0 els[i]:=⟨_,rfl⟩
    obtain ⟨⟨A1,u,c1⟩,hv⟩:∃ p,p=eval0 els[i]:=⟨_,rfl⟩
    rw [<-hp] at h0
    rw [<-hv] at h1
    obtain ⟨ny,hny⟩:∃ ny,ny=y.length:=⟨_,rfl⟩
    obtain ⟨nz,hnz⟩:∃ nz,nz=u.length:=⟨_,rfl⟩
    have HTK:Hid (putCells (ps.take (i+1))=putCells (ps.take i)++[.slice A0 ny c0,.slice A1 nz c1,.bool false]):=by
     show _=_
     rw [List.take_succ_eq_append_getElem hil3,putCells_append,HPI.out i hil3 hil2,<-hp,<-hv,hny,hnz]
     rfl
    have q0:wr.cell? ⟨b,off+i*2,none⟩=some (.slice A0 ny c0):=by rw [HBR.out.cell (p:=⟨b,off+i*2,none⟩) hblt,h0,hny];rfl
    have q1:wr.cell? ⟨b,off+i*2+1,none⟩=some (.slice A1 nz c1):=by rw [HBR.out.cell (p:=⟨b,off+i*2+1,none⟩) hblt,h1,hnz];rfl
    have hwi:IntKind.i64.wrap ((i:Int)+1)=((i+1:Nat):Int):=by rw [IntKind.wrap_i64];omega
    have HC:Hid (∀ W,Below w.heap.size w W->W.cell? ⟨gm,1,none⟩=some (.slice (some ⟨b,off,none⟩) n c)/\W.cell? ⟨b,off+i*2,none⟩=some (.slice A0 ny c0)/\W.cell? ⟨b,off+i*2+1,none⟩=some (.slice A1 nz c1)):=fun W hW=>
     ⟨(HB.out.below hW HB.out.lt).cell (i:=1) (by simp),by rw [hW.cell (p:=⟨b,off+i*2,none⟩) hblt,h0,hny];rfl,by rw [hW.cell (p:=⟨b,off+i*2+1,none⟩) hblt,h1,hnz];rfl⟩
    have BD:Below w.heap.size w wr.drew:=HBR.out.drew
    have HFN:Hid (∀ W:World,w.heap.size<=W.heap.size-> ¬ (fun k=>k<w.heap.size) W.heap.size):=fun W hW h=>absurd h (Nat.not_lt.2 hW)
    clear h0 h1 hp hv hny hnz hil2 hil3 q0 q1
    go_wp2_with fail
    go_region_held_law (fun W=>W.cell? ⟨gm,1,none⟩=some (.slice (some ⟨b,off,none⟩) n c)/\W.cell? ⟨b,off+i*2,none⟩=some (.slice A0 ny c0)/\W.cell? ⟨b,off+i*2+1,none⟩=some (.slice A1 nz c1))
     (first | exact HC.out _ BD | exact HC.out _ (BD.alloc BD.size _) | exact HC.out _ B7)
     (first
      | (
       refine step_append_cells HR.out rfl (.tmp 14) (.tmp 32) rfl (fun k=>k<w.heap.size) w.heap.size (.slice B i e) i (putCells (ps.take i)) (by simp [Act.eval]) ((own_drew HOWN.out).alloc _) (some ⟨wr.heap.size,0,none⟩) [.slice A0 ny c0,.slice A1 nz c1,.bool false] 1 1 (by simp [Act.eval]) (by rfl) (cells_new wr.drew _ [.slice A0 ny c0,.slice A1 nz c1,.bool false] 72 (HFN.out _ BD.size)) (three_one A0 ny c0 A1 nz c1 false) (by omega) (by omega) (by have h2:=BD.size;simp at h2;simp;omega) ?_
       intro v7 w7 ho7 hg7
       rw [<-HTK.out] at ho7
       obtain ⟨A7,c7,rfl⟩:=own_shape ho7
       have O7:=Lib.hid ho7
       have B7:Below w.heap.size w w7:=below_grown (BD.alloc BD.size _) (by have h2:=BD.size;simp at h2;simp;omega) ((own_drew HOWN.out).alloc _) hg7
       clear ho7 hg7))
    all_goals
     go_wp2_with fail
     go_roundg (n-(i+1))
     case measure=>have:=HI.out;omega
     case rel=>exact ⟨i+1,A7,c7,by have:=HI.out;omega,rfl,rfl,B7,O7.out⟩
  · obtain rfl:i=n:=by have:=HI.out;omega
    have hkl: ¬ (i:Int)<(i:Int):=by omega
    have HPS:Hid (PutsSeen wr B ps):=by
     have h5:=HOWN.out
     rw [List.take_of_length_le (by rw [HPL.out];exact Nat.le_refl _)] at h5
     exact puts_of (own_cells h5).1 (fun q hq=>(HOK.out q hq).below HBR.out)
    go_wp2_with fail
    with_reducible refine (refBatch_any B ps i e wr HPL.out HPS.out (by omega) HBB.out).mono ?_
    rintro e w8 ⟨A8,n8,c8,rfl,hm8⟩
    have M8:Hid (MadeN 5 w (batchL (valsOf ps)) A8 n8 c8 w8):=⟨hm8.1,hm8.2.since HBR.out⟩
    clear hm8
    go_wp2_with fail
    go_ret
    exact ⟨A8,n8,c8,rfl,M8.out⟩
theorem wpList_append_three {P:Program} (w:World) {ops:Array Oper} {rest:List Oper} {o:Oper} {ac:Act} {Q:Exit->Act->World->Prop} (hgd:o.guard=none) (s x:Operand) (t:TypeId)
 (ho:o.op= .call { callee:= .builtin .append,args:= #[s,x],argTypes:= #[t,t] })
 {e:TypeId} {i:TypeInfo} {z:Value} (R:RowTy P t e 3 56 i z)
 (w0:World) (A:Option Addr) (n c:Nat) (xs:List Value) (c0 c1 c2:Value) (hs:ac.eval s= .slice A n c) (hx:ac.eval x= .slice (some ⟨w.heap.size,0,none⟩) 1 1)
 (hb:Below w0.heap.size w0 w) (h:w.ownsRow w0.heap.size e 3 (.slice A n c) n xs) (hone:∀ u ∈ [c0,c1,c2],u.oneCell'=true) (hn:n<=1000000)
 (K:∀ A' c' w',w'.ownsRow w0.heap.size e 3 (.slice A' (n+1) c') (n+1) (xs++[c0,c1,c2])->Below w0.heap.size w0 w'->wpList P ops Q rest (ac.put o.dst (.slice A' (n+1) c')) w'):
 wpList P ops Q (o::rest) ac (w.alloc (.cells #[c0,c1,c2] e)):=by
 have hB:w0.heap.size<=(w.alloc (.cells #[c0,c1,c2] e)).heap.size:=by have:=hb.size;simp;omega
 have hlist:(w.alloc (.cells #[c0,c1,c2] e)).ownsRow w0.heap.size e 3 (.slice A n c) n xs:=h.alloc _
 refine wpList_append_own_at (w.alloc (.cells #[c0,c1,c2] e)) hgd s x t ho w0.heap.size e i z 3 56 R.ht R.hi R.hz R.hs R.hb R.zs (by decide) _ n _ hs hlist ⟨w.heap.size,0,none⟩ 1 1 [c0,c1,c2] hx rfl (cells_three_new _ _ _ _ _) hone (by unfold maxLen;omega) (by omega) hB ?_
 intro v' w' hown hg _ _
 obtain ⟨A',c',rfl⟩:=own_shape hown
 exact K A' c' w' hown (below_grown (hb.alloc hb.size _) hB hlist hg)
set_option maxRecDepth 100000 in
set_option maxHeartbeats 2000000 in
theorem batchOf_any (w:World) (T:Nat->Prop) (gt:Nat) (L:List Kv) (t:TreeAt w T gt anyRoom L) (hl9:L.length<=99999) (hb:(batchL (allP L)).length<=140737488000000):
 Calls Tryz.prog 76 #[.pointer (some ⟨gt,0,none⟩)] w fun e w'=>∃ A' n' c',e= .returned (.slice A' n' c')/\MadeN 5 w (batchL (allP L)) A' n' c' w':=by
 have hscan:scanT [] [] (L.length:Int) L=L:=by
  by_cases h1:1<=(L.length:Int)
  · exact scan_all _ L (Int.le_refl _) h1
  · have h0:L=[]:=List.eq_nil_of_length_eq_zero (by omega)
    subst h0;rfl
 have HSC:=Lib.hid (scan_any w T gt anyRoom L none none [] [] 0 0 0 0 (L.length:Int) t (.inl rfl) rfl (.inl rfl) rfl (by omega))
 rw [hscan] at HSC
 have HLEN:=Lib.hid (len_any w T gt anyRoom L t)
 have HBB:=Lib.hid hb
 obtain ⟨i0,z0,R⟩:=rowU
 have HR:=Lib.hid R
 obtain ⟨n,hn⟩:∃ n,n=L.length:=⟨_,rfl⟩
 rw [<-hn] at HSC HLEN hl9
 have HN:=Lib.hid hn
 clear hscan hb R hn t
 go_enter Tryz.func76,Tryz.ntmps76
 go_wp2_with fail
 with_reducible refine HLEN.out.mono ?_
 rintro e w1 ⟨rfl,hw1⟩
 obtain rfl:=hw1.symm
 go_wp2_with fail
 with_reducible refine HSC.out.mono ?_
 rintro e w1 ⟨hb1,B0,acc,v,rfl,hB0,hf,hL⟩
 obtain ⟨X,c,hv⟩:=hf.form
 have hal:acc.length=n:=by rw [HN.out,<-hL,List.length_map]
 rw [hal] at hv
 subst hv
 have HF:=Lib.hid hf
 have B1:=Lib.hid hb1
 have HAL:=Lib.hid hal
 obtain ⟨ps,hps⟩:∃ ps,ps=putsOf acc:=⟨_,rfl⟩
 have HVL:Hid (valsOf ps=allP L):=by show _=_;rw [hps,putsOf_vals,hL]
 have HPL:Hid (ps.length=n):=by show _=_;rw [hps,putsOf,List.length_map,hal]
 have HPI:Hid (∀ (i:Nat) (h:i<ps.length) (h2:i<acc.length),ps[i]=(epiece 0 acc[i],eval0 acc[i],false)):=fun i h h2=>by
  subst hps;simp [putsOf]
 have HOK:Hid (∀ q ∈ ps,PutOk w1 q):=fun q hq=>by
  rw [hps] at hq
  obtain ⟨x,hx,rfl⟩:=List.mem_map.1 hq
  have hx2:=hf.each x hx
  exact ⟨⟨hx2.1.1.seen,by have h5:(epiece 0 x).2.1.length<=1000000000:=hx2.1.2.2;show (epiece 0 x).2.1.length<=_;omega⟩,⟨hx2.2.1.seen,by have h5:(eval0 x).2.1.length<=1000000000:=hx2.2.2.2;show (eval0 x).2.1.length<=_;omega⟩⟩
 have hrow:=hf.row
 rw [hal] at hrow
 have HCL:=Lib.hid (own_cells hrow).1
 clear hb1 hB0 hf hL hal hps hrow HSC HLEN
 go_wp2_with fail
 go_loopg [3,11] n (fun kx s3 s11 wr=>∃ (i:Nat) (B:Option Addr) (e:Nat),i+kx=n/\s11= .int .i64 (i:Int)/\s3= .slice B i e/\Below w1.heap.size w1 wr/\wr.ownsRow w1.heap.size 72 3 (.slice B i e) i (putCells (ps.take i)))
 case atStart=>exact ⟨0,none,0,by omega,rfl,rfl,Below.refl _ _,World.ownsRow_nil _ _ _ _⟩
 case round=>
  obtain ⟨i,B,e,hi,rfl,rfl,hbr,hown⟩:=hrel
  have HI:=Lib.hid hi
  have HBR:=Lib.hid hbr
  have HOWN:=Lib.hid hown
  clear hi hbr hown
  by_cases hlt:i<n
  · have hkl:(i:Int)<(n:Int):=by omega
    have hil2:i<acc.length:=by have:=HAL.out;omega
    have hil3:i<ps.length:=by have:=HPL.out;omega
    obtain ⟨b,off,rfl,hblt,_,h0,h1⟩:=pair_cells HCL.out i hil2
    obtain ⟨⟨A0,y,c0⟩,hp⟩:∃ p,p=epiece 0 acc[i]:=⟨_,rfl⟩
    obtain ⟨⟨A1,u,c1⟩,hv⟩:∃ p,p=eval0 acc[i]:=⟨_,rfl⟩
    rw [<-hp] at h0
    rw [<-hv] at h1
    obtain ⟨ny,hny⟩:∃ ny,ny=y.length:=⟨_,rfl⟩
    obtain ⟨nz,hnz⟩:∃ nz,nz=u.length:=⟨_,rfl⟩
    have HTK:Hid (putCells (ps.take (i+1))=putCells (ps.take i)++[.slice A0 ny c0,.slice A1 nz c1,.bool false]):=by
     show _=_
     rw [List.take_succ_eq_append_getElem hil3,putCells_append,HPI.out i hil3 hil2,<-hp,<-hv,hny,hnz]
     rfl
    have q0:wr.cell? ⟨b,off+i*2,none⟩=some (.slice A0 ny c0):=by rw [HBR.out.cell (p:=⟨b,off+i*2,none⟩) hblt,h0,hny];rfl
    have q1:wr.cell? ⟨b,off+i*2+1,none⟩=some (.slice A1 nz c1):=by rw [HBR.out.cell (p:=⟨b,off+i*2+1,none⟩) hblt,h1,hnz];rfl
    have hwi:IntKind.i64.wrap ((i:Int)+1)=((i+1:Nat):Int):=by rw [IntKind.wrap_i64];omega
    have B5:Hid (Below w1.heap.size w1 (wr.alloc (.cells #[.slice A0 ny c0,.slice A1 nz c1] 123))):=HBR.out.alloc HBR.out.size _
    have O5:Hid ((wr.alloc (.cells #[.slice A0 ny c0,.slice A1 nz c1] 123)).ownsRow w1.heap.size 72 3 (.slice B i e) i (putCells (ps.take i))):=HOWN.out.alloc _
    generalize putCells (ps.take i)=xs at *
    clear h0 h1 hp hv hny hnz hil2 hil3 HOWN
    go_wp2_with (at_builtin;refine wpList_append_three (wr.alloc (.cells #[.slice A0 ny c0,.slice A1 nz c1] 123)) rfl (.tmp 15) (.tmp 21) 38 rfl HR.out w1 B i e xs (.slice A0 ny c0) (.slice A1 nz c1) (.bool false) rfl (by simp [Act.eval]) B5.out O5.out (three_one A0 ny c0 A1 nz c1 false) (by omega) ?_)
    intro A7 c7 w7 ho7 hb7
    rw [<-HTK.out] at ho7
    have O7:=Lib.hid ho7
    have B7:=Lib.hid hb7
    clear ho7 hb7
    go_wp2_with fail
    go_roundg (n-(i+1))
    case measure=>have:=HI.out;omega
    case rel=>exact ⟨i+1,A7,c7,by have:=HI.out;omega,rfl,rfl,B7.out,O7.out⟩
  · obtain rfl:i=n:=by have:=HI.out;omega
    have hkl: ¬ (i:Int)<(i:Int):=by omega
    have HPS:Hid (PutsSeen wr B ps):=by
     have h5:=HOWN.out
     rw [List.take_of_length_le (by rw [HPL.out];exact Nat.le_refl _)] at h5
     exact puts_of (own_cells h5).1 (fun q hq=>(HOK.out q hq).below HBR.out)
    rw [<-HVL.out] at HBB
    go_wp2_with fail
    with_reducible refine (batch_any B ps i e wr HPL.out HPS.out (by omega) HBB.out).mono ?_
    rintro e w8 ⟨A8,n8,c8,rfl,hm8⟩
    rw [HVL.out] at hm8
    have M8:Hid (MadeN 5 w (batchL (allP L)) A8 n8 c8 w8):=⟨hm8.1,hm8.2.since (hop B1.out HBR.out)⟩
    clear hm8
    go_wp2_with fail
    go_ret
    exact ⟨A8,n8,c8,rfl,M8.out⟩
theorem kbegin_to {w:World} {g q n c:Nat} {F:Nat->Prop} {s s':Dsk} {f N gen E:Int} {A:Option Addr} {d:List UInt8} {lo:Option Lg} (h:DiskAt w g F s) (hb:BgTo s f N gen d E s' lo) (ha:Seen w A d) (hn:d.length=n) (hl:n<=9223372036854775807) (hf:s.Few q) (hq:q<=700000) (f0:IntOk f):
 Calls Tryz.prog 75 #[.pointer (some ⟨g,0,none⟩),.int .i64 f,.int .i64 N,.int .i64 gen,.slice A n c] w fun e w'=>∃ (b:Nat) (F':Nat->Prop),e= .returned (.tuple #[lp lo b,.int .i64 E])/\DiskAt w' g F' s'/\(∀ l,lo=some l->Blk w' b (lgCells g l) 145/\ ¬ F' b)/\w.heap.size<=b/\Spared w w' F/\∀ k,F' k->F k\/w.heap.size<=k:=by
 refine (begin_any w g F s f N gen A d n c q h ha hn hl hf hq f0.1 f0.2).mono ?_
 rintro e w' (⟨k1,rfl,k3⟩ | ⟨k1,k2,rfl,F',m1,m2,m3⟩ | ⟨k1,k2,b,rfl,hbw,F',m1,m2,m3,m4,m5⟩)
 · rcases hb with ⟨_,rfl,rfl,rfl⟩ | ⟨j,_⟩ | ⟨j,_⟩
   · exact ⟨w.heap.size,F,rfl,h.still k3,(fun l h=>by cases h),Nat.le_refl _,.of_below k3 _,fun _ h=> .inl h⟩
   · exact absurd j k1
   · exact absurd j k1
 · rcases hb with ⟨j,_⟩ | ⟨_,_,rfl,rfl,rfl⟩ | ⟨_,j,_⟩
   · exact absurd k1 j
   · exact ⟨w.heap.size,F',rfl,m1,(fun l h=>by cases h),Nat.le_refl _,m2,m3⟩
   · exact absurd j k2
 · rcases hb with ⟨j,_⟩ | ⟨_,j,_⟩ | ⟨_,_,rfl,rfl,rfl⟩
   · exact absurd k1 j
   · exact absurd k2 j
   · exact ⟨b,F',rfl,m1,(fun l h=>by injection h with h;rw [<-h];exact ⟨m2,m3⟩),hbw,m4,m5⟩
theorem bg_some {s s':Dsk} {f N gen E:Int} {d:List UInt8} {lo:Option Lg} (h:BgTo s f N gen d E s' lo):(E=0/\∃ l,lo=some l)\/(E≠0/\lo=none):=by
 rcases h with ⟨_,rfl,_,rfl⟩ | ⟨_,h1,rfl,_,rfl⟩ | ⟨_,_,rfl,_,rfl⟩
 · exact .inr ⟨by decide,rfl⟩
 · exact .inr ⟨h1,rfl⟩
 · exact .inl ⟨rfl,_,rfl⟩
def KBegun (w:World) (q g gp f:Nat) (F:Nat->Prop) (s':Dsk) (E:Int) (lo:Option Lg) (c1 c2 c3 c4:Value) (e:Ending) (w':World):Prop:=
 ∃ (b':Nat) (F':Nat->Prop),e= .returned (.int .i64 E)/\DiskAt w' g F' s'/\(∀ l,lo=some l->Blk w' b' (lgCells g l) 145/\ ¬ F' b')/\w.heap.size<=b'/\Spared w w' (fun x=>F x\/x=q)/\(∀ x,F' x->F x\/w.heap.size<=x)/\
  ((E=0/\Blk w' q [.pointer (some ⟨g,0,none⟩),.int .i64 (f:Int),.pointer (some ⟨b',0,none⟩),.pointer (some ⟨gp,0,none⟩),c4] 94)\/(E≠0/\Blk w' q [.pointer (some ⟨g,0,none⟩),c1,c2,c3,c4] 94))
set_option maxRecDepth 100000 in
set_option maxHeartbeats 4000000 in
theorem kbegin_any (w:World) (T:Nat->Prop) (q g gp f h:Nat) (F:Nat->Prop) (s s':Dsk) (gen E:Int) (M:List Kv) (lo:Option Lg) (m:Nat) (c1 c2 c3 c4:Value) (hd:DiskAt w g F s) (hx:Blk w q [.pointer (some ⟨g,0,none⟩),c1,c2,c3,c4] 94) (hnq: ¬ F q) (hh:h=s.K.length/2) (ht:TreeAt w T gp anyRoom M) (hl9:M.length<=99999) (hbt:(batchL (allP M)).length<=140737488000000) (hbg:BgTo s (f:Int) (h:Int) gen (batchL (allP M)) E s' lo) (hf:s.Few m) (hm:m<=700000) (hf9:f<=1000000):
 Calls Tryz.prog 44 #[.pointer (some ⟨q,0,none⟩),.int .i64 (f:Int),.int .i64 gen,.pointer (some ⟨gp,0,none⟩)] w (KBegun w q g gp f F s' E lo c1 c2 c3 c4):=by
 have HX:=Lib.hid hx
 have HNQ:=Lib.hid hnq
 have bd:Below w.heap.size w w.drew:=(Below.refl _ _).drew
 obtain ⟨D,hD⟩:∃ D,D=batchL (allP M):=⟨_,rfl⟩
 have HHALF:Hid (∀ W,Below w.heap.size w W->Calls Tryz.prog 40 #[.pointer (some ⟨g,0,none⟩)] W fun e w'=>e= .returned (.int .i64 (h:Int))/\w'=W):=fun W hW=>half_any (hd.still hW) hh
 have HALL:Hid (∀ W,Below w.heap.size w W->Calls Tryz.prog 76 #[.pointer (some ⟨gp,0,none⟩)] W fun e w'=>∃ A' n' c',e= .returned (.slice A' n' c')/\MadeN 5 W D A' n' c' w'):=fun W hW=>by rw [hD];exact batchOf_any W T gp M (ht.below hW) hl9 hbt
 rw [<-hD] at hbt hbg
 have HBEG:Hid (∀ W,Below w.heap.size w W->∀ A n c,MadeN 5 w D A n c W->Calls Tryz.prog 75 #[.pointer (some ⟨g,0,none⟩),.int .i64 (f:Int),.int .i64 (h:Int),.int .i64 gen,.slice A n c] W fun e w'=>∃ (b:Nat) (F':Nat->Prop),e= .returned (.tuple #[lp lo b,.int .i64 E])/\DiskAt w' g F' s'/\(∀ l,lo=some l->Blk w' b (lgCells g l) 145/\ ¬ F' b)/\W.heap.size<=b/\Spared W w' F/\∀ k,F' k->F k\/W.heap.size<=k):=fun W hW A n c hmd=>by
  obtain ⟨hn,hmd⟩:=hmd
  obtain ⟨A2,c2,hv,hsn⟩:=hmd.form
  injection hv with e1 e2 e3
  subst e1
  exact kbegin_to (hd.still hW) hbg hsn hn (by omega) hf hm ⟨by omega,by omega⟩
 have HC:Hid (∀ W,Spared w W F->W.cell? ⟨q,0,none⟩=some (.pointer (some ⟨g,0,none⟩))):=fun W hW=>by
  have h1:=hW.blk hx hnq
  exact h1.cell (i:=0) (by simp)
 have HSO:=Lib.hid (bg_some hbg)
 have SD:Spared w w.drew F:= .of_below bd _
 clear hd hx hnq hh ht hbg hf hm hD hbt hl9
 go_enter Tryz.func44,Tryz.ntmps44
 go_wp2_with fail
 go_region_held_law (fun W=>W.cell? ⟨q,0,none⟩=some (.pointer (some ⟨g,0,none⟩)))
  (first | exact HC.out _ SD | exact HC.out _ S6 | exact HC.out _ S7)
  (first
   | (go_at_call 40;(first | (with_reducible refine (HHALF.out _ bd).mono ?_) | (with_reducible refine (HHALF.out _ B6).mono ?_));rintro e w9 ⟨rfl,rfl⟩)
   | (go_at_call 76;(with_reducible refine (HALL.out _ bd).mono ?_);rintro e w6 ⟨A6,n6,c6,rfl,hm6⟩;have B6:=hop bd hm6.2.2;have S6:Spared w w6 F:= .of_below B6 _;have M6:Hid (MadeN 5 w D A6 n6 c6 w6):=⟨hm6.1,hm6.2.since bd⟩;clear hm6)
   | (go_at_call 75;(with_reducible refine (HBEG.out _ B6 _ _ _ M6.out).mono ?_);rintro e w7 ⟨b7,F7,rfl,hr7,hl7,hb7,hs7,hg7⟩;have S7:Spared w w7 F:=S6.trans hs7 (fun _ h=> .inl h);have R7:=Lib.hid hr7;have L7:=Lib.hid hl7;have HB7:Hid (w.heap.size<=b7):=Nat.le_trans B6.size hb7;have HG7:Hid (∀ x,F7 x->F x\/w.heap.size<=x):=fun x hx=>(hg7 x hx).imp id (Nat.le_trans B6.size);clear hr7 hl7 hb7 hs7 hg7))
 all_goals
  have hx:=S7.blk HX.out HNQ.out
  have HX7:=Lib.hid hx
  by_cases hE:E=0
  · subst hE
    have hlo:∃ l,lo=some l:=HSO.out.elim (fun h=>h.2) (fun h=>absurd rfl h.1)
    obtain ⟨l,rfl⟩:=hlo
    have hlp:lp (some l) b7= .pointer (some ⟨b7,0,none⟩):=rfl
    have f1:=hx.free 1
    have f2:=hx.free 2
    have f3:=hx.free 3
    have y1:=hx.cell (i:=1) (by simp)
    have y2:=hx.cell (i:=2) (by simp)
    have y3:=hx.cell (i:=3) (by simp)
    simp only [List.getElem_cons_zero,List.getElem_cons_succ] at y1 y2 y3
    clear hx
    go_wp2_with fail
    go_ret
    have hsp8:Spared w7 (((w7.setCell ⟨q,1,none⟩ (.int .i64 (f:Int))).setCell ⟨q,2,none⟩ (.pointer (some ⟨b7,0,none⟩))).setCell ⟨q,3,none⟩ (.pointer (some ⟨gp,0,none⟩))) (fun x=>x=q):=(((Spared.refl w7 (fun x=>x=q)).setCell rfl _ _).setCell rfl _ _).setCell rfl _ _
    have lq:=HX.out.lt
    have hb7:=HB7.out
    obtain ⟨LB,LN⟩:=L7.out l rfl
    exact ⟨b7,F7,rfl,R7.out.apart hsp8 (fun x h1 h2=>by
     subst h2
     exact (HG7.out _ h1).elim HNQ.out (fun h=>by omega)),fun l' h'=>by
      injection h' with h'
      subst h'
      exact ⟨hsp8.blk LB (by omega),LN⟩,hb7,(S7.mono (fun _ h=> .inl h)).trans (hsp8.mono (fun _ h=> .inr h)) (fun _ h=> .inl h),HG7.out,.inl ⟨rfl,((HX7.out.set 1 _).set 2 _).set 3 _⟩⟩
  · have e0:(E==0)=false:=by rw [beq_eq_false_iff_ne];exact hE
    have HE:=Lib.hid hE
    clear hx hE
    go_wp2_with fail
    go_ret
    exact ⟨b7,F7,rfl,R7.out,L7.out,HB7.out,S7.mono (fun _ h=> .inl h),HG7.out,.inr ⟨HE.out,HX7.out⟩⟩
end Go.Proofs.YtdaahapbpnjkfaaGreat
