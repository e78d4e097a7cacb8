/-
An argument that is a list of calls of layer 9. No conditions.
-/
import Derived.Test.YtdaahapbpnjkfaaGreatCGet
import Derived.ProofKit
import Derived.OpenShut
import Derived.Carry
import Derived.SizedLaws
import Derived.Test.YtdaahapbpnjkfaaGreatCKvRows
import Derived.Deep.Matrix
import Derived.Test.YtdaahapbpnjkfaaGreatChecked
import Derived.Lib.SmallJoins
import Derived.Test.YtdaahapbpnjkfaaGreatCFEnc
import Derived.Test.YtdaahapbpnjkfaaGreatCLgL
namespace Go.Proofs.YtdaahapbpnjkfaaGreat
open Go.ChangeShapes Go.WideShapes Go.ChangeAt Go.RowKit
section
variable {H:Type} {enc:TypeId × Value->H} {P:Program}
theorem trodAll_stays (hl:laidOutB P=true) {W W':World} (hb:Below W.heap.size W W'):
 ∀ {ts:List TypeId} {vs:List Value} {ds:List (DataW H)} {ps:List MemPlace},(∀ t ∈ ts,P.readableRec t=true/\t<P.types.size)->(∀ x ∈ ps,x.block<W.heap.size)->
  DataW.TrodAll enc P W 0 (fun _=>true) true ts vs ds ps->DataW.TrodAll enc P W' 0 (fun b=>decide (b<W.heap.size)) true ts vs ds ps
 | [],vs,ds,ps,_,_,h=>by
  obtain ⟨rfl,rfl,rfl⟩:=trodAll_nil h
  exact trodAll_mk0
 | t::ts,vs,ds,ps,ht,hlt,h=>by
  obtain ⟨v,vs',d,ds',p,q,rfl,rfl,rfl,h1,h2⟩:=trodAll_cons h
  have ht0:=ht t (by simp)
  exact trodAll_cons_mk (Below.trod hl ht0.1 ht0.2 h1 hb (fun x hx=>hlt x (by simp [hx]))) (trodAll_stays hl hb (fun t h=>ht t (by simp [h])) (fun x hx=>hlt x (by simp [hx])) h2)
theorem law_post {f:Func} {s:ChangeSpec} {tb:TypeId} (hvars:s.vars=[]) (hres:f.resultTypes= #[tb]) (htb:P.underlying tb=some .bool) (hl:laidOutB P=true) (hread:∀ t ∈ f.params.toList,P.readableRec t=true/\t<P.types.size)
 {W W':World} {args:Array Value} {ds gs:List (DataW H)} {before:List MemPlace} (hW:DataW.Whole enc P f.params.toList s.vars false W args.toList ds gs before)
 (hfn:s.fn H (ds++gs)= { results:=[.lit (.bool true)],args:=ds }) (hb:Below W.heap.size W W'):s.post enc P f false true false false W args (.bool true) W':=by
 have hlt:∀ p ∈ before,p.block<W.heap.size:=fun p hp=>hW.lt p hp
 have hW':=hW
 obtain ⟨p,q,hA,hV,rfl,_,_⟩:=hW
 rw [hvars] at hV
 obtain ⟨rfl,rfl⟩:=trodVars_none hV
 refine ⟨ds,[],_,[],p,[],hW',?_,?_,?_,World.keptBut_mono (fun x hx=>⟨hx,?_⟩) (hb.frame (· ∈ p++[])),fun h=>by cases h⟩
 · rw [hfn,hres]
   exact trodAll_cons_mk (shut_bool htb _) trodAll_mk0
 · rw [hfn]
   exact trodAll_stays hl hb hread (fun x hx=>hlt x (by simp [hx])) hA
 · rw [hfn,hvars]
   rfl
 · simpa using hx
theorem block_of_cell {w:World} {b o:Nat} {v:Value} (h:w.cell? ⟨b,o,none⟩=some v):b<w.heap.size:=by
 rcases Nat.lt_or_ge b w.heap.size with hlt | hge
 · exact hlt
 · have hn:w.heap[b]? =none:=Array.getElem?_eq_none hge
   simp [World.cell?,hn] at h
theorem open_bytes_cap {W:World} {t e:TypeId} {v:Value} {d:DataW H} {ps:List MemPlace} (ht:P.underlying t=some (.slice e)) (he:P.underlying e=some (.int .u8)) (hc:P.cellsOf e=1)
 {r:Reach} {b0:Nat} (hval:Value.okWide P W r b0 t v) (h:DataW.Trod enc P W 0 (fun _=>true) true t v d ps):
 ∃ A l c,v= .slice A l.length c/\Seen W A l/\((d= .nil/\l=[])\/∃ elems spare,d= .slice elems spare/\elems.length=l.length)/\l.length<=c:=by
 have hsl:∀ cs,v.cells.toList=[cs]->v=cs:=by
  obtain ⟨a,n,c,rfl⟩:=okWide_slice ht hval
  intro cs h
  simpa [Value.cells] using h
 obtain ⟨fuel,hf⟩:=h
 rcases open_ints ht he hc hf with ⟨h1,h2⟩ | ⟨a,len,cap,zs,h1,_,hlen,_,hz,h2,hcell,hwf⟩
 · obtain rfl:=hsl _ h1
   injection h2 with h2 _
   exact ⟨none,[],0,rfl,.inl rfl,.inl ⟨h2,rfl⟩,Nat.le_refl _⟩
 · obtain rfl:=hsl _ h1
   injection h2 with h2 _
   rw [if_pos rfl] at hz
   have hl:((zs.take len).map fun z=>UInt8.ofNat z.toNat).length=len:=by simp;omega
   refine ⟨some a,(zs.take len).map fun z=>UInt8.ofNat z.toNat,cap,by rw [hl],?_,.inr ⟨_,_,h2,by simp [lits]⟩,by rw [hl];exact hlen⟩
   by_cases h0:len=0
   · subst h0;exact .inl (by simp)
   · obtain ⟨b,off,rfl,hc'⟩:=ints_at hcell (by omega)
     refine .inr ⟨b,off,rfl,block_of_cell (hc' 0 (by omega)),fun j hj=> ?_⟩
     rw [hl] at hj
     rw [hc' j (by omega)]
     have hjz:j<zs.length:=by omega
     have hm:=hwf zs[j] (List.getElem_mem hjz)
     have hr:0<=zs[j]/\zs[j]<=255:=by simpa [Lit.wf,IntKind.min,IntKind.max,IntKind.signed,IntKind.bits] using hm
     have e:(List.map (fun z:Int=>UInt8.ofNat z.toNat) (zs.take len))[j]'(by rw [hl];exact hj)=UInt8.ofNat zs[j].toNat:=by simp
     rw [e,List.getD_eq_getElem?_getD,List.getElem?_eq_getElem hjz]
     show some (Value.int .u8 zs[j])=_
     rw [UInt8.toNat_ofNat']
     congr 2
     omega
theorem open_bytes {W:World} {t e:TypeId} {v:Value} {d:DataW H} {ps:List MemPlace} (ht:P.underlying t=some (.slice e)) (he:P.underlying e=some (.int .u8)) (hc:P.cellsOf e=1)
 {r:Reach} {b0:Nat} (hval:Value.okWide P W r b0 t v) (h:DataW.Trod enc P W 0 (fun _=>true) true t v d ps):
 ∃ A l c,v= .slice A l.length c/\Seen W A l/\((d= .nil/\l=[])\/∃ elems spare,d= .slice elems spare/\elems.length=l.length):=by
 obtain ⟨A,l,c,h1,h2,h3,_⟩:=open_bytes_cap ht he hc hval h
 exact ⟨A,l,c,h1,h2,h3⟩
theorem bytes_reach {ts:List TypeId} {ds:List (DataW H)} {j:Nat} {t e:TypeId} {l:List UInt8} {d:DataW H} (h:(DataW.weightsEach P ts ds).all (· <=reachBytes)=true) (ht:ts[j]? =some t) (hd:ds[j]? =some d) (hu:P.underlying t=some (.slice e)) (hby:P.bytesOf e=1)
 (hl:(d= .nil/\l=[])\/∃ elems spare,d= .slice elems spare/\elems.length=l.length):l.length<=140737488351232:=by
 rcases hl with ⟨_,rfl⟩ | ⟨elems,spare,rfl,he⟩
 · simp
 · have:=sized_slice h ht hd hu
   rw [hby] at this
   have e:reachBytes=140737488351232:=by decide
   omega
end
open Go.ChangeShapes Go.WideShapes Go.ChangeAt Go.RowKit
section
variable {H:Type} {enc:TypeId × Value->H} {P:Program}
def rowBytes (zs:List Int) (n:Nat):List UInt8:=(zs.take n).map fun z=>UInt8.ofNat z.toNat
theorem length_rowBytes {zs:List Int} {n:Nat} (h:n<=zs.length):(rowBytes zs n).length=n:=by simp [rowBytes];omega
theorem row_seen {W:World} {a:Addr} {zs:List Int} {n:Nat} (hn:n<=zs.length) (hcell:∀ i,i<zs.length->W.cell? (a.add i)=some (.int .u8 (zs.getD i 0))) (hwf:∀ z ∈ zs,(Lit.int .u8 z).wf=true):Seen W (some a) (rowBytes zs n):=by
 by_cases h0:n=0
 · subst h0;exact .inl (by simp [rowBytes])
 · obtain ⟨b,off,rfl,hc'⟩:=ints_at hcell (by omega)
   refine .inr ⟨b,off,rfl,block_of_cell (hc' 0 (by omega)),fun j hj=> ?_⟩
   rw [length_rowBytes hn] at hj
   rw [hc' j (by omega)]
   have hjz:j<zs.length:=by omega
   have hm:=hwf zs[j] (List.getElem_mem hjz)
   have hr:0<=zs[j]/\zs[j]<=255:=by simpa [Lit.wf,IntKind.min,IntKind.max,IntKind.signed,IntKind.bits] using hm
   have e:(rowBytes zs n)[j]'(by rw [length_rowBytes hn];exact hj)=UInt8.ofNat zs[j].toNat:=by simp [rowBytes]
   rw [e,List.getD_eq_getElem?_getD,List.getElem?_eq_getElem hjz]
   show some (Value.int .u8 zs[j])=_
   rw [UInt8.toNat_ofNat']
   congr 2
   omega
end
open Go.ChangeShapes Go.WideShapes Go.ChangeAt Go.RowKit
section
variable {H:Type} {enc:TypeId × Value->H} {W:World}
set_option maxRecDepth 100000 in
theorem open_field {n:Nat} {v:Value} {y:DataW H × List MemPlace} (h:DataW.trod enc Tryz.prog W 0 (fun _=>true) true n 22 [v]=some y):
 ∃ q:Piece,v=pv q/\Seen W q.1 q.2.1/\q.2.1.length<=9223372036854775807:=by
 have c8:Tryz.prog.cellsOf 5=1:=by kernel_rfl
 rcases open_ints Tryz.underlying22 Tryz.underlying5 c8 h with ⟨e,_⟩ | ⟨a,len,cap,zs,e,_,hlen,hcm,hzl,_,hcell,hwf⟩
 · injection e with e _
   exact ⟨(none,[],0),e,.inl rfl,by simp⟩
 · injection e with e _
   rw [if_pos rfl] at hzl
   have hn:len<=zs.length:=by omega
   have hlr:=length_rowBytes hn
   refine ⟨(some a,rowBytes zs len,cap),?_,row_seen hn hcell hwf,?_⟩
   · unfold pv;rw [hlr];exact e
   · show (rowBytes zs len).length<=_;rw [hlr];unfold maxLen at hcm;omega
set_option maxRecDepth 100000 in
theorem open_put {n:Nat} {cs:List Value} {y:DataW H × List MemPlace} (h:DataW.trod enc Tryz.prog W 0 (fun _=>true) true n 72 cs=some y):
 ∃ q:PPut,cs=pcells q/\PutOk W q:=by
 obtain ⟨y0,y1,y2,m,_,hl,h0,h1,h2⟩:=Go.Deep.trod_struct3 Tryz.underlying72 h
 have hl3:cs.length=3:=by rw [hl];kernel_rfl
 obtain ⟨v0,v1,v2,rfl⟩:∃ v0 v1 v2,cs=[v0,v1,v2]:=by
  match cs,hl3 with
  | [a,b,c],_=>exact ⟨a,b,c,rfl⟩
 have cb:Tryz.prog.cellsOf 22=1:=by kernel_rfl
 have cl:Tryz.prog.cellsOf 4=1:=by kernel_rfl
 simp only [cb,cl,List.drop_zero,List.take_succ_cons,List.take_zero,List.drop_succ_cons] at h0 h1 h2
 obtain ⟨q,rfl,hq⟩:=open_field h0
 obtain ⟨u,rfl,hu⟩:=open_field h1
 obtain ⟨g,hg,_⟩:=DataW.trod_bool Tryz.underlying4 h2
 injection hg with hg _
 subst hg
 exact ⟨(q,u,g),rfl,hq,hu⟩
end
open Go.ChangeShapes Go.WideShapes Go.ChangeAt Go.RowKit
section
variable {H:Type} {enc:TypeId × Value->H} {W:World}
set_option maxRecDepth 100000 in
theorem puts_field {n:Nat} {v:Value} {y:DataW H × List MemPlace} (h:DataW.trod enc Tryz.prog W 0 (fun _=>true) true n 38 [v]=some y):
 ∃ r:PRow,v= .slice r.1 r.2.1.length r.2.2/\PutsSeen W r.1 r.2.1/\r.2.1.length<=r.2.2/\r.2.1.length<=9223372036854775807:=by
 have c3:Tryz.prog.cellsOf 72=3:=by kernel_rfl
 rcases DataW.trod_slice Tryz.underlying38 h with ⟨h1,_⟩ | ⟨a,len,cap,elems,rest,n,_,h1,_,_,hlc,hcm,hlen,hel,_⟩
 · injection h1 with h1 _
   exact ⟨(none,[],0),h1,.inl rfl,Nat.le_refl _,by simp⟩
 · injection h1 with h1 _
   have each:∀ i,i<len->∃ q:PPut,W.cells? 0 (a.add (i*3)) 3=some (pcells q)/\PutOk W q:=by
    intro i hi
    have:=hel i hi
    rw [c3,List.getElem?_eq_getElem (by omega)] at this
    obtain ⟨cs,hcs,hy⟩:=Option.bind_eq_some_iff.1 this
    obtain ⟨q,rfl,hq⟩:=open_put hy
    exact ⟨q,hcs,hq⟩
   obtain ⟨f,hfo⟩:=Go.Deep.choose_lt each
   have hl:((List.range len).map f).length=len:=by simp
   refine ⟨(some a,(List.range len).map f,cap),by show v= .slice (some a) ((List.range len).map f).length cap;rw [hl];exact h1,?_,by show ((List.range len).map f).length<=cap;rw [hl];exact hlc,by show ((List.range len).map f).length<=_;rw [hl];unfold maxLen at hcm;omega⟩
   show PutsSeen W (some a) ((List.range len).map f)
   by_cases h0:len=0
   · subst h0;exact .inl rfl
   · obtain ⟨b,off,spot⟩:=a
     have hspot:spot=none:=by
      have:=(World.cells?_some (hfo 0 (by omega)).1).2.2 0 (by decide)
      simpa [Addr.add] using World.cell?_spot this
     subst hspot
     have hc:∀ i,i<len->∀ j,j<3->W.cell? ⟨b,off+i*3+j,none⟩=(pcells (f i))[j]? :=fun i hi j hj=>by
      have:=(World.cells?_some (hfo i hi).1).2.2 j hj
      rwa [add_plain,add_plain] at this
     refine .inr ⟨b,off,rfl,block_of_cell (o:=off+0*3+0) (hc 0 (by omega) 0 (by decide)),fun j hj=> ?_⟩
     rw [hl] at hj
     simp only [List.getElem_map,List.getElem_range]
     exact ⟨hc j hj 0 (by decide),hc j hj 1 (by decide),hc j hj 2 (by decide),(hfo j hj).2⟩
end
open Go.ChangeShapes Go.WideShapes Go.ChangeAt Go.RowKit
open Go.ChangeShapes Go.WideShapes Go.ChangeAt Go.RowKit
theorem ints_of_row {W:World} {a:Addr} {zs:List Int} {len:Nat} (hn:len<=zs.length) (hcell:∀ i,i<zs.length->W.cell? (a.add i)=some (.int .i64 (zs.getD i 0))):Ints W (some a) (zs.take len):=by
 have hl:(zs.take len).length=len:=by simp;omega
 by_cases h0:len=0
 · subst h0;exact .inl (by simp)
 · obtain ⟨b,off,rfl,hc'⟩:=ints_at hcell (by omega)
   refine .inr ⟨b,off,rfl,block_of_cell (hc' 0 (by omega)),fun j hj=> ?_⟩
   rw [hl] at hj
   have hjz:j<zs.length:=by omega
   rw [hc' j (by omega),List.getD_eq_getElem?_getD,List.getElem?_eq_getElem hjz,List.getElem_take]
   rfl
theorem six_of {α:Type} {cs:List α} (h:cs.length=6):∃ a b c d e f,cs=[a,b,c,d,e,f]:=by
 match cs,h with
 | [a,b,c,d,e,f],_=>exact ⟨a,b,c,d,e,f,rfl⟩
section
variable {H:Type} {enc:TypeId × Value->H} {W:World}
set_option maxRecDepth 100000 in
theorem trod_struct6 {P:Program} {w:World} {base:Nat} {spare:Nat->Bool} {held:Bool} {t:TypeId} {f0 f1 f2 f3 f4 f5:Field} {fuel:Nat} {cs:List Value} {x:DataW H × List MemPlace} (ht:P.underlying t=some (.struct #[f0,f1,f2,f3,f4,f5])) (h:DataW.trod enc P w base spare held fuel t cs=some x):
 ∃ y0 y1 y2 y3 y4 y5 n,cs.length=P.cellsOf t/\DataW.trod enc P w base spare held n f0.type ((cs.drop f0.offset).take (P.cellsOf f0.type))=some y0/\
  DataW.trod enc P w base spare held n f1.type ((cs.drop f1.offset).take (P.cellsOf f1.type))=some y1/\DataW.trod enc P w base spare held n f2.type ((cs.drop f2.offset).take (P.cellsOf f2.type))=some y2/\
  DataW.trod enc P w base spare held n f3.type ((cs.drop f3.offset).take (P.cellsOf f3.type))=some y3/\DataW.trod enc P w base spare held n f4.type ((cs.drop f4.offset).take (P.cellsOf f4.type))=some y4/\
  DataW.trod enc P w base spare held n f5.type ((cs.drop f5.offset).take (P.cellsOf f5.type))=some y5:=by
 obtain ⟨xs,n,_,rfl,hl,hlen,hf⟩:=DataW.trod_struct ht h
 obtain ⟨y0,y1,y2,y3,y4,y5,rfl⟩:=six_of hlen
 exact ⟨y0,y1,y2,y3,y4,y5,n,hl,by simpa using hf 0 f0 rfl,by simpa using hf 1 f1 rfl,by simpa using hf 2 f2 rfl,by simpa using hf 3 f3 rfl,by simpa using hf 4 f4 rfl,by simpa using hf 5 f5 rfl⟩
set_option maxRecDepth 100000 in
theorem int_of_trod {n:Nat} {v:Value} {y:DataW H × List MemPlace} (h:DataW.trod enc Tryz.prog W 0 (fun _=>true) true n 3 [v]=some y):∃ z:Int,v= .int .i64 z/\IntOk z:=by
 obtain ⟨z,hz,_,wz⟩:=DataW.trod_int Tryz.underlying3 h
 injection hz with hz _
 exact ⟨z,hz,by simpa [IntOk,Lit.wf,IntKind.min,IntKind.max,IntKind.signed,IntKind.bits] using wz⟩
set_option maxRecDepth 100000 in
theorem open_field_cap {n:Nat} {v:Value} {y:DataW H × List MemPlace} (h:DataW.trod enc Tryz.prog W 0 (fun _=>true) true n 22 [v]=some y):
 ∃ q:Piece,v=pv q/\Seen W q.1 q.2.1/\q.2.1.length<=q.2.2/\q.2.1.length<=9223372036854775807:=by
 have c8:Tryz.prog.cellsOf 5=1:=by kernel_rfl
 rcases open_ints Tryz.underlying22 Tryz.underlying5 c8 h with ⟨e,_⟩ | ⟨a,len,cap,zs,e,_,hlen,hcm,hzl,_,hcell,hwf⟩
 · injection e with e _
   exact ⟨(none,[],0),e,.inl rfl,by simp,by simp⟩
 · injection e with e _
   rw [if_pos rfl] at hzl
   have hn:len<=zs.length:=by omega
   have hlr:=length_rowBytes hn
   refine ⟨(some a,rowBytes zs len,cap),?_,row_seen hn hcell hwf,?_,?_⟩
   · unfold pv;rw [hlr];exact e
   · show (rowBytes zs len).length<=cap;rw [hlr];omega
   · show (rowBytes zs len).length<=_;rw [hlr];unfold maxLen at hcm;omega
set_option maxRecDepth 100000 in
theorem open_kop {n:Nat} {cs:List Value} {y:DataW H × List MemPlace} (h:DataW.trod enc Tryz.prog W 0 (fun _=>true) true n 41 cs=some y):
 ∃ o:KOp,cs=kcells o/\KOk W o:=by
 obtain ⟨y0,y1,y2,y3,y4,y5,m,hl,h0,h1,h2,h3,h4,h5⟩:=trod_struct6 Tryz.underlying41 h
 have hl6:cs.length=6:=by rw [hl];kernel_rfl
 obtain ⟨v0,v1,v2,v3,v4,v5,rfl⟩:=six_of hl6
 have ci:Tryz.prog.cellsOf 3=1:=by kernel_rfl
 have cu:Tryz.prog.cellsOf 38=1:=by kernel_rfl
 have cb:Tryz.prog.cellsOf 22=1:=by kernel_rfl
 have cp:Tryz.prog.cellsOf 39=1:=by kernel_rfl
 simp only [ci,cb,cp,cu,List.drop_zero,List.take_succ_cons,List.take_zero,List.drop_succ_cons] at h0 h1 h2 h3 h4 h5
 obtain ⟨z0,rfl,b0⟩:=int_of_trod h0
 obtain ⟨r,hr1,hr2⟩:=puts_field h1
 obtain ⟨q,hq1,hq2,hq4,hq3⟩:=open_field_cap h2
 obtain ⟨u,hu1,hu2,hu3⟩:=open_field h3
 obtain ⟨z4,rfl,b4⟩:=int_of_trod h4
 obtain ⟨A3,l3,c3,e3,s3,n3,b5⟩:∃ (A:Option Addr) (l:List Int) (c:Nat),v5= .slice A l.length c/\Ints W A l/\l.length<=9223372036854775807/\∀ x ∈ l,IntOk x:=by
  rcases open_ints Tryz.underlying39 Tryz.underlying3 ci h5 with ⟨e,_⟩ | ⟨a,len,cap,zs,e,_,hlen,hcm,hzl,_,hcell,hwf⟩
  · injection e with e _
    exact ⟨none,[],0,e,.inl rfl,by simp,by simp⟩
  · injection e with e _
    rw [if_pos rfl] at hzl
    have hn:len<=zs.length:=by omega
    have hl:(zs.take len).length=len:=by simp;omega
    refine ⟨some a,zs.take len,cap,by rw [hl];exact e,ints_of_row hn hcell,by rw [hl];unfold maxLen at hcm;omega,fun x hx=> ?_⟩
    have hm:=hwf x (List.mem_of_mem_take hx)
    simpa [IntOk,Lit.wf,IntKind.min,IntKind.max,IntKind.signed,IntKind.bits] using hm
 exact ⟨(z0,r,q,u,z4,A3,l3,c3),by rw [hr1,hq1,hu1,e3];rfl,⟨b0,b4⟩,hr2,⟨hq2,hq4,hq3⟩,⟨hu2,hu3⟩,s3,n3,b5⟩
set_option maxRecDepth 100000 in
theorem open_kops {v:Value} {d:DataW H} {ps:List MemPlace} {r:Reach} {b0:Nat} (hval:Value.okWide Tryz.prog W r b0 23 v) (h:DataW.Trod enc Tryz.prog W 0 (fun _=>true) true 23 v d ps):
 ∃ (A:Option Addr) (l:List KOp) (c:Nat),v= .slice A l.length c/\KsSeen W A l/\l.length<=9223372036854775807:=by
 have hsl:∀ cs,v.cells.toList=[cs]->v=cs:=by
  obtain ⟨a,n,c,rfl⟩:=okWide_slice Tryz.underlying23 hval
  intro cs h
  simpa [Value.cells] using h
 obtain ⟨fuel,hf⟩:=h
 have c6:Tryz.prog.cellsOf 41=6:=by kernel_rfl
 rcases DataW.trod_slice Tryz.underlying23 hf with ⟨h1,_⟩ | ⟨a,len,cap,elems,rest,n,_,h1,_,_,hlc,hcm,hlen,hel,_⟩
 · obtain rfl:=hsl _ h1
   exact ⟨none,[],0,rfl,.inl rfl,by simp⟩
 · obtain rfl:=hsl _ h1
   have each:∀ i,i<len->∃ o:KOp,W.cells? 0 (a.add (i*6)) 6=some (kcells o)/\KOk W o:=by
    intro i hi
    have:=hel i hi
    rw [c6,List.getElem?_eq_getElem (by omega)] at this
    obtain ⟨cs,hcs,hy⟩:=Option.bind_eq_some_iff.1 this
    obtain ⟨o,rfl,ho⟩:=open_kop hy
    exact ⟨o,hcs,ho⟩
   obtain ⟨f,hfo⟩:=Go.Deep.choose_lt each
   have hl:((List.range len).map f).length=len:=by simp
   refine ⟨some a,(List.range len).map f,cap,by rw [hl],?_,by rw [hl];unfold maxLen at hcm;omega⟩
   by_cases h0:len=0
   · subst h0;exact .inl rfl
   · obtain ⟨b,off,spot⟩:=a
     have hspot:spot=none:=by
      have:=(World.cells?_some (hfo 0 (by omega)).1).2.2 0 (by decide)
      simpa [Addr.add,kcells] using World.cell?_spot this
     subst hspot
     have hc:∀ i,i<len->∀ j,j<6->W.cell? ⟨b,off+i*6+j,none⟩=(kcells (f i))[j]? :=fun i hi j hj=>by
      have:=(World.cells?_some (hfo i hi).1).2.2 j hj
      rwa [add_plain,add_plain] at this
     refine .inr ⟨b,off,rfl,block_of_cell (o:=off+0*6+0) (hc 0 (by omega) 0 (by decide)),fun j hj=> ?_⟩
     rw [hl] at hj
     simp only [List.getElem_map,List.getElem_range]
     exact ⟨fun i hi=>hc j hj i hi,(hfo j hj).2⟩
end
end Go.Proofs.YtdaahapbpnjkfaaGreat
