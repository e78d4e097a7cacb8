/-
What Scan's closure does with a pair: it is found, or all are. Conditions: fewer than 1,000,000 found so far.
-/
import Derived.Test.YtdaahapbpnjkfaaGreatCSearch
import Derived.Test.YtdaahapbpnjkfaaGreatCTrGet
import Derived.Deep.AppendLies
namespace Go.Proofs.YtdaahapbpnjkfaaGreat
open Go.RowKit
def see (to:Key) (mo:Int) (acc:List Kv) (x:Kv):List Kv × Bool:=if to≠[]/\ltK x.1 to=false then (acc,false) else (acc++[x],decide ((acc.length:Int)+1<mo))
def visit (to:Key) (mo:Int):List Kv->List Kv->List Kv × Bool
 | acc,[]=>(acc,true)
 | acc,x::r=>if (see to mo acc x).2 then visit to mo (see to mo acc x).1 r else ((see to mo acc x).1,false)
theorem visit_append (to:Key) (mo:Int) (a b:List Kv):∀ acc,visit to mo acc (a++b)=if (visit to mo acc a).2 then visit to mo (visit to mo acc a).1 b else ((visit to mo acc a).1,false):=by
 induction a with
 | nil=>intro acc;rfl
 | cons x a ih=>
  intro acc
  rw [List.cons_append,visit,visit]
  cases h:(see to mo acc x).2
  · simp
  · simp only [if_true]
    exact ih _
theorem see_length (to:Key) (mo:Int) (acc:List Kv) (x:Kv):(see to mo acc x).1.length<=acc.length+1:=by
 unfold see;split<;>simp
theorem visit_length (to:Key) (mo:Int) (l:List Kv):∀ acc,(visit to mo acc l).1.length<=acc.length+l.length:=by
 induction l with
 | nil=>intro acc;exact Nat.le_refl _
 | cons x l ih=>
  intro acc
  rw [visit]
  have h1:=see_length to mo acc x
  split
  · have:=ih (see to mo acc x).1;rw [List.length_cons];omega
  · rw [List.length_cons];show (see to mo acc x).1.length<=_;omega
structure TFound (B0:Nat) (W:World) (acc:List (El 0)) (v:Value):Prop where
 row:W.ownsRow B0 123 2 v acc.length (rowCells 0 acc)
 each:∀ q ∈ acc,EOk W (fun b=>b<B0\/some b=v.ownBlock) 0 q
 base:B0<=W.heap.size
section
variable {B0:Nat} {W W':World} {acc:List (El 0)} {v:Value}
theorem TFound.lt (h:TFound B0 W acc v) {g:Nat} (hg:v.ownBlock=some g):B0<=g/\g<W.heap.size:=h.row.lt g hg
theorem TFound.moved (h:TFound B0 W acc v) (hs:Spared W W' (fun b=>b<B0)):TFound B0 W' acc v:=by
 refine ⟨⟨h.row.1,?_⟩,fun q hq=>EOk.moved (hs.mono (fun _ h=> .inl h)) (fun _ h=> .inl h) 0 q (h.each q hq),Nat.le_trans h.base hs.size⟩
 rcases h.row.2 with h0 | ⟨g,cap,cur,hv,hb,hg,rest⟩
 · exact .inl h0
 · exact .inr ⟨g,cap,cur,hv,hb,(hs.block g (h.lt (by rw [hv];rfl)).2 (by omega)).trans hg,rest⟩
theorem TFound.below (h:TFound B0 W acc v) (hb:Below W.heap.size W W'):TFound B0 W' acc v:=h.moved (.of_below hb _)
theorem TFound.nil (W:World):TFound W.heap.size W [] (.slice none 0 0):=⟨World.ownsRow_nil _ _ _ _,(fun q hq=>by cases hq),Nat.le_refl _⟩
theorem TFound.form (h:TFound B0 W acc v):∃ A c,v= .slice A acc.length c:=own_shape h.row
theorem TFound.more {W1 W2 W3:World} {g c:Nat} (h:TFound B0 W acc v) {q:El 0} (hq:EOk W1 (fun b=>b<W.heap.size) 0 q) (h1:Below W.heap.size W W1) (h2:Below W1.heap.size W1 W2) (hown:W3.ownsRow B0 123 2 (.slice (some ⟨g,0,none⟩) (acc.length+1) c) (acc.length+1) (rowCells 0 acc++ecells 0 q)) (hg:W2.grownBy W3 v.ownBlock) (hat:v.ownBlock=some g\/g=W2.heap.size):
 TFound B0 W3 (acc++[q]) (.slice (some ⟨g,0,none⟩) (acc.length+1) c)/\Spared W W3 (fun b=>some b=v.ownBlock):=by
 have hf2:=(h.below h1).below h2
 have hsp:Spared W2 W3 (fun b=>some b=v.ownBlock):= .of_grown hg (fun k e _=>e.symm)
 have hG:∀ i,(i<B0\/(some i:Option Nat)=(Value.slice (some ⟨g,0,none⟩) (acc.length+1) c).ownBlock)->(i<B0\/some i=v.ownBlock)\/W2.heap.size<=i:=fun i hi=>by
  rcases hi with hi | hi
  · exact .inl (.inl hi)
  · change some i=some g at hi
    injection hi with hi
    rcases hat with e | e
    · exact .inl (.inr (by rw [e,hi]))
    · exact .inr (by omega)
 refine ⟨⟨?_,fun x hx=> ?_,Nat.le_trans hf2.base hg.size⟩,((Spared.of_below h1 (fun b=>some b=v.ownBlock)).trans (.of_below h2 (fun b=>some b=v.ownBlock)) (fun _ h=> .inl h)).trans hsp (fun _ h=> .inl h)⟩
 · rw [List.length_append,rowCells_append,rowCells_single];exact hown
 · rcases List.mem_append.1 hx with hx | hx
   · exact EOk.moved (hsp.mono (fun _ h=> .inr h)) hG 0 x (hf2.each x hx)
   · rw [List.mem_singleton.1 hx]
     have hlt:∀ b,some b=v.ownBlock->b<W.heap.size:=fun b hb=>(h.lt hb.symm).2
     have hq2:=hq.below h2
     refine EOk.moved (hsp.mono (fun b hb=>hlt b hb)) (fun i hi=> ?_) 0 q hq2
     rcases hG i hi with (hi | hi) | hi
     · exact .inl (Nat.lt_of_lt_of_le hi h.base)
     · exact .inl (hlt i hi)
     · exact .inr hi
end
structure ScanAt (B0 bf:Nat) (W:World) (acc:List (El 0)) (v:Value):Prop where
 found:TFound B0 W acc v
 var:Blk W bf [v] 63
 lt:bf<B0
structure ScanMoved (bf:Nat) (W:World) (v:Value) (W':World) (v':Value):Prop where
 spared:Spared W W' (fun b=>b=bf\/some b=v.ownBlock)
 row:v'.ownBlock=v.ownBlock\/∃ g,v'.ownBlock=some g/\W.heap.size<=g
theorem ScanMoved.below {bf:Nat} {W W':World} (v:Value) (h:Below W.heap.size W W'):ScanMoved bf W v W' v:=⟨.of_below h _,.inl rfl⟩
theorem ScanMoved.trans {bf:Nat} {W W1 W2:World} {v v1 v2:Value} (h:ScanMoved bf W v W1 v1) (k:ScanMoved bf W1 v1 W2 v2):ScanMoved bf W v W2 v2:=by
 refine ⟨h.spared.trans k.spared (fun i hi=> ?_),?_⟩
 · rcases hi with hi | hi
   · exact .inl (.inl hi)
   · rcases h.row with e | ⟨g,e,hg⟩
     · exact .inl (.inr (by rw [<-e];exact hi))
     · rw [e] at hi;injection hi with hi;exact .inr (by omega)
 · rcases k.row with e | ⟨g,e,hg⟩
   · rw [e];exact h.row
   · exact .inr ⟨g,e,Nat.le_trans h.spared.size hg⟩
theorem ScanAt.below {B0 bf:Nat} {W W':World} {acc:List (El 0)} {v:Value} (h:ScanAt B0 bf W acc v) (hb:Below W.heap.size W W'):ScanAt B0 bf W' acc v:=⟨h.found.below hb,h.var.below hb h.var.lt,h.lt⟩
theorem step_call1 {P:Program} {ops:Array Oper} {o:Oper} {a:Act} {K:Act->World->Prop} {Q:Exit->Act->World->Prop} {E:Prop} {w:World} (hgd:o.guard=none) (f:FuncId) (hcall:∀ (args:Array Value) (w:World),(callFunc f args).run P w= .ok (.enter f args) w) (x:Operand) {ts:Array TypeId} {u:Value}
 (ho:o.op= .call { callee:= .value (.func f),args:= #[x],argTypes:=ts }) (hx:a.eval x=u) (h:Calls P f #[u] w fun e w'=>∃ r,e= .returned r/\K (a.put o.dst r) w'):
 if Region.wanted o (yielded ops a.tmps)=true then Oper.wp P o a w K Q else E:=by
 have hw:Region.wanted o (yielded ops a.tmps)=true:=by simp [Region.wanted,hgd]
 rw [if_pos hw]
 subst hx
 have hrun:(execOp a.eval o).run P w= .ok (.enter f #[a.eval x]) w:=by
  simp [execOp,ho,resolve,invoke,Act.eval,Deferred.ofValue,hcall]
 unfold Oper.wp
 rw [hrun,Oper.upon_enter]
 refine h.mono ?_
 rintro e w' ⟨r,rfl,hr⟩
 exact hr
theorem enter_own (args:Array Value) (w:World):(callFunc 99 args).run Tryz.prog w= .ok (.enter 99 args) w:=by simp [go_sem]
theorem pair_one (a b:Piece):∀ u ∈ ([.slice a.1 a.2.1.length a.2.2,.slice b.1 b.2.1.length b.2.2]:List Value),u.oneCell'=true:=fun u hu=>by
 rcases List.mem_cons.1 hu with rfl | hu
 · rfl
 · rw [List.mem_singleton.1 hu];rfl
def SeeOut (B0 bf:Nat) (w:World) (acc:List (El 0)) (v:Value) (to:Key) (mo:Int) (x:Kv) (e:Ending) (w':World):Prop:=
 ∃ (acc':List (El 0)) (v':Value),e= .returned (.bool (see to mo (acc.map kv0) x).2)/\acc'.map kv0=(see to mo (acc.map kv0) x).1/\ScanAt B0 bf w' acc' v'/\ScanMoved bf w v w' v'
set_option maxHeartbeats 2000000 in
set_option maxRecDepth 100000 in
theorem see_any (w:World) (B0 bt bf bm:Nat) (acc:List (El 0)) (v:Value) (Ak Av T:Option Addr) (k va to:Key) (nk ck nv cv m d:Nat) (mo:Int) (hs:ScanAt B0 bf w acc v) (hbt:w.cell? ⟨bt,0,none⟩=some (.slice T m d)) (hbm:w.cell? ⟨bm,0,none⟩=some (.int .i64 mo)) (hltt:bt<w.heap.size) (hltm:bm<w.heap.size) (hnm:bm≠bf) (hvt:some bt≠v.ownBlock) (hvm:some bm≠v.ownBlock)
 (hto:Seen w T to) (htl:to.length=m) (hk:Seen w Ak k) (hkl:k.length=nk) (hv:Seen w Av va) (hvl:va.length=nv) (hnk:nk<=1000000000) (hnv:nv<=1000000000) (hacc:acc.length<=999999) (hmm:m<=9223372036854775807):
 Calls Tryz.prog 97 #[.agg #[.slice Ak nk ck,.slice Av nv cv],.pointer (some ⟨bt,0,none⟩),.pointer (some ⟨bf,0,none⟩),.pointer (some ⟨bm,0,none⟩)] w (SeeOut B0 bf w acc v to mo (k,va)):=by
 obtain ⟨Av0,cv0,rfl⟩:=hs.found.form
 obtain ⟨n0,hn0⟩:∃ n0,n0=acc.length:=⟨_,rfl⟩
 rw [<-hn0] at hs hvt hvm hacc ⊢
 obtain ⟨w1,hw1⟩:∃ w1,w1=w.alloc (.cells #[.slice Ak nk ck,.slice Av nv cv] 123):=⟨_,rfl⟩
 have HW:Hid (w.alloc (.cells #[.slice Ak nk ck,.slice Av nv cv] 123)=w1):=hw1.symm
 have hb1:Below w.heap.size w w1:=by rw [hw1];exact (Below.refl _ _).alloc (Nat.le_refl _) _
 have HB0:Hid (Blk w1 w.heap.size [.slice Ak nk ck,.slice Av nv cv] 123):=by rw [hw1];exact Blk.new w _ _
 have HS1:=Lib.hid (hs.below hb1)
 have HB1:=Lib.hid hb1
 have x0:=HB0.out.cell (i:=0) (by simp)
 have x1:=HB0.out.cell (i:=1) (by simp)
 simp only [List.getElem_cons_zero,List.getElem_cons_succ] at x0 x1
 have t1:w1.cell? ⟨bt,0,none⟩=some (.slice T m d):=(hb1.cell (p:=⟨bt,0,none⟩) hltt).trans hbt
 have t1':(w.alloc (.cells #[.slice Ak nk ck,.slice Av nv cv] 123)).cell? ⟨bt,0,none⟩=some (.slice T m d):=by rw [<-hw1];exact t1
 have x0':(w.alloc (.cells #[.slice Ak nk ck,.slice Av nv cv] 123)).cell? ⟨w.heap.size,0,none⟩=some (.slice Ak nk ck):=by rw [<-hw1];exact x0
 have HTO:=Lib.hid (hto.below hb1)
 have HK1:=Lib.hid (hk.below hb1)
 have HV1:=Lib.hid (hv.below hb1)
 have HTL:=Lib.hid htl
 have HKL:=Lib.hid hkl
 have HVL:=Lib.hid hvl
 have HCMP:=Lib.hid (bcompare_any (w:=w1) HK1.out HTO.out nk ck m d hkl htl)
 have HMO:=Lib.hid hbm
 have HNE:=Lib.hid (And.intro hnm hvm)
 have HN0:=Lib.hid hn0
 by_cases hstop:0<m/\ltK k to=false
 · -- an end
   have hx:=compare_ge hstop.2
   have hm0:(0:Int)<(m:Int):=by omega
   have HSE:Hid (see to mo (acc.map kv0) (k,va)=(acc.map kv0,false)):=by
    show _=_
    unfold see
    rw [if_pos ⟨by intro e;rw [e] at htl;simp at htl;omega,hstop.2⟩]
   generalize Lib.compareBytes k to=cmp at *
   clear hbt hbm hto htl hk hkl hv hvl hw1 hn0 hstop hs hb1 hnm hvm hvt hltt hltm
   go_enter Tryz.func97,Tryz.ntmps97
   go_wp2_with fail
   rw [HW.out]
   with_reducible refine HCMP.out.mono ?_
   rintro e w3 ⟨rfl,rfl⟩
   go_wp2_with fail
   go_ret
   refine ⟨acc,_,?_,?_,HS1.out,.below _ HB1.out⟩
   · rw [HSE.out];rfl
   · rw [HSE.out]
 · -- one more
   have hgo:m=0\/(0<m/\ltK k to=true):=by
    rcases Nat.eq_zero_or_pos m with h | h
    · exact .inl h
    · cases h2:ltK k to
      · exact absurd ⟨h,h2⟩ hstop
      · exact .inr ⟨h,rfl⟩
   have HSE:Hid (see to mo (acc.map kv0) (k,va)=(acc.map kv0++[(k,va)],decide ((n0:Int)+1<mo))):=by
    show _=_
    unfold see
    rw [if_neg (by
     rintro ⟨h1,h2⟩
     rcases hgo with h | ⟨_,h⟩
     · rw [h] at htl;exact h1 (List.eq_nil_of_length_eq_zero htl)
     · rw [h] at h2;cases h2),List.length_map,<-hn0]
   have HOWN:Hid (∀ W,Below w1.heap.size w1 W->Calls Tryz.prog 99 #[.agg #[.slice Ak nk ck,.slice Av nv cv]] W fun e w'=>(∃ a b:Piece,e= .returned (.agg #[.slice a.1 a.2.1.length a.2.2,.slice b.1 b.2.1.length b.2.2])/\NewPiece W w' k a/\NewPiece W w' va b)/\Below W.heap.size W w'):=fun W hW=>
    own_any W Ak Av k va nk ck nv cv hkl hvl hnk hnv (HK1.out.below hW) (HV1.out.below hW)
   have HKB:Hid (∀ W,Below w1.heap.size w1 W->W.cell? ⟨w.heap.size,0,none⟩=some (.slice Ak nk ck)/\W.cell? ⟨w.heap.size,1,none⟩=some (.slice Av nv cv)):=fun W hW=>by
    have:=HB0.out.below hW HB0.out.lt
    exact ⟨this.cell (i:=0) (by simp),this.cell (i:=1) (by simp)⟩
   have HBF:Hid (∀ W,Below w1.heap.size w1 W->W.cell? ⟨bf,0,none⟩=some (.slice Av0 n0 cv0)):=fun W hW=>(HS1.out.var.below hW HS1.out.var.lt).cell (i:=0) (by simp)
   obtain ⟨i0,z0,R⟩:=rowP
   have HR:=Lib.hid R
   have HROW:Hid (∀ W,Below w1.heap.size w1 W->W.ownsRow B0 123 2 (.slice Av0 n0 cv0) n0 (rowCells 0 acc)):=fun W hW=>by
    have:=(HS1.out.found.below hW).row
    rw [<-hn0] at this
    exact this
   have HOLT:Hid (∀ g,(Value.slice Av0 n0 cv0).ownBlock=some g->g<w.heap.size):=fun g hg=>(hs.found.lt hg).2
   have HLTW:Hid (bf<w.heap.size/\bm<w.heap.size):=⟨hs.var.lt,hltm⟩
   have hb0:=hs.found.base
   have HBASE:=Lib.hid hb0
   have HDEC:Hid (∀ x:Int,decide (((n0+1:Nat):Int)<x)=decide ((n0:Int)+1<x)):=fun x=>by congr 1
   obtain ⟨go,hgoe⟩:∃ go,go=decide ((n0:Int)+1<mo):=⟨_,rfl⟩
   rw [<-hgoe] at HSE
   have hgo2:decide ((n0:Int)+1<mo)=go:=hgoe.symm
   have hcmp:m=0\/(0<m/\Lib.compareBytes k to<0):=hgo.imp id (fun h=>⟨h.1,compare_lt h.2⟩)
   generalize Lib.compareBytes k to=cmp at *
   clear hbt hbm hto htl hk hkl hv hvl hw1 hn0 hstop hs hb1 hnm hvm hvt hltt hltm hgo R hb0 hgoe
   go_enter Tryz.func97,Tryz.ntmps97
   rcases hcmp with rfl | ⟨hm0,hneg⟩
   · go_wp2_with fail
     rw [HW.out]
     obtain ⟨w3,hw3⟩:∃ w3,w3=w1:=⟨_,rfl⟩
     have b3:Below w1.heap.size w1 w3:=by rw [hw3];exact Below.refl _ _
     rw [<-hw3]
     clear hw3
     have cb3:=HBF.out _ b3
     have bd:Below w1.heap.size w1 w3.drew:=b3.drew
     have HFND:Hid (∀ W,Below w1.heap.size w1 W->TFound B0 W acc (.slice Av0 n0 cv0)):=fun W hW=>HS1.out.found.below hW
     obtain ⟨p0,p1⟩:=HKB.out _ b3
     go_region_law (first
      | (refine step_call1 rfl 99 enter_own (.tmp 17) rfl (by simp [Act.eval]) ((HOWN.out _ bd).mono ?_);rintro e w4 ⟨⟨qa,qb,rfl,⟨hqa,hpa⟩,⟨hqb,hpb⟩⟩,hb4⟩;refine ⟨_,rfl,?_⟩;have bd4:Below w1.heap.size w1 w4:=hop bd hb4;have cb4:=HBF.out _ bd4;have cb5:=HBF.out _ (bd4.alloc bd4.size (.cells #[.slice qa.1 qa.2.1.length qa.2.2,.slice qb.1 qb.2.1.length qb.2.2] 123));have HQA:=Lib.hid hqa;have HQB:=Lib.hid hqb;have HPA:=Lib.hid hpa;have HPB:=Lib.hid hpb;have HB34:Hid (Below w3.heap.size w3 w4):=undrew hb4;clear hqa hqb hpa hpb hb4)
      | (
       refine step_append_lies (w4.alloc (.cells #[.slice qa.1 qa.2.1.length qa.2.2,.slice qb.1 qb.2.1.length qb.2.2] 123)) rfl (.tmp 16) (.tmp 19) 63 rfl B0 123 i0 z0 2 48 HR.out.ht HR.out.hi HR.out.hz HR.out.hs HR.out.hb HR.out.zs (by decide) (.slice Av0 n0 cv0) n0 (rowCells 0 acc) (by simp [Act.eval]) (HROW.out _ (bd4.alloc bd4.size _)) ⟨w4.heap.size,0,none⟩ 1 1 [.slice qa.1 qa.2.1.length qa.2.2,.slice qb.1 qb.2.1.length qb.2.2] (by simp [Act.eval]) rfl (World.news_of_block (heap_alloc_new _ _)) (pair_one qa qb) (by decide) (by unfold maxLen;omega) (by omega) (by have:=HBASE.out;have:=(hop HB1.out bd4).size;simp;omega) (w4.heap.size+1) (by simp) ?_
       intro g cap w5 hown5 hgr5 hat5 hlt5
       obtain ⟨hf5,hs5⟩:=(HFND.out w3 b3).more (q:=mkPair qa qb) (show EOk w4 (fun b=>b<w3.heap.size) 0 (mkPair qa qb) from ⟨HPA.out,HPB.out⟩) HB34.out ((Below.refl _ _).alloc (Nat.le_refl _) _) (by rw [<-HN0.out];exact hown5) hgr5 (by rcases hat5 with h | h;exact .inl h;exact .inr (by simp;omega))
       have HF5:=Lib.hid hf5
       have HS5:Hid (Spared w1 w5 (fun b=>some b=(Value.slice Av0 n0 cv0).ownBlock)):=(Spared.of_below b3 _).trans hs5 (fun _ h=> .inl h)
       have HV5:Hid (Blk w5 bf [.slice Av0 n0 cv0] 63):=HS5.out.blk HS1.out.var (fun e=>by have:=(HS1.out.found.lt e.symm).1;have:=HS1.out.lt;omega)
       have HG5:=Lib.hid hat5
       have c5:=HV5.out.cell (i:=0) (by simp)
       have f5:=HV5.out.free 0
       have HK5:Hid (w5.cell? ⟨w.heap.size,0,none⟩=some (.slice Ak nk ck)/\w5.cell? ⟨w.heap.size,1,none⟩=some (.slice Av nv cv)):=by
        have:=HS5.out.blk HB0.out (fun e=>by have:=HOLT.out _ e.symm;omega)
        exact ⟨this.cell (i:=0) (by simp),this.cell (i:=1) (by simp)⟩
       have HK6:Hid (∀ u:Value,(w5.setCell ⟨bf,0,none⟩ u).cell? ⟨w.heap.size,0,none⟩=some (.slice Ak nk ck)/\(w5.setCell ⟨bf,0,none⟩ u).cell? ⟨w.heap.size,1,none⟩=some (.slice Av nv cv)):=fun u=>by
        have:=(HS5.out.blk HB0.out (fun e=>by have:=HOLT.out _ e.symm;omega)).other ⟨bf,0,none⟩ u (by have:=HLTW.out.1;show _≠bf;omega)
        exact ⟨this.cell (i:=0) (by simp),this.cell (i:=1) (by simp)⟩
       clear hown5 hgr5 hat5 hlt5 hf5 hs5))
     all_goals
      have HBE:Hid (∀ u,Spared w5 (w5.setCell ⟨bf,0,none⟩ u) (fun b=>b=bf)):=fun u=>(Spared.refl w5 (fun b=>b=bf)).setCell (g:=bf) rfl _ _
      have HM6:Hid (∀ u,(w5.setCell ⟨bf,0,none⟩ u).cell? ⟨bm,0,none⟩=some (.int .i64 mo)):=fun u=>by
       rw [World.cell?_setCell_other _ _ _ _ (fun e=>HNE.out.1 (by injection e with e;exact e.symm))]
       refine (World.cell?_of_block (a:=⟨bm,0,none⟩) (HS5.out.block bm (Nat.lt_of_lt_of_le HLTW.out.2 HB1.out.size) (by intro e;exact HNE.out.2 e))).trans ?_
       exact (HB1.out.cell (p:=⟨bm,0,none⟩) HLTW.out.2).trans HMO.out
      have m6:=HM6.out (.slice (some ⟨g,0,none⟩) (n0+1) cap)
      have HSZ4:Hid (w.heap.size<=w4.heap.size):=(hop HB1.out bd4).size
      go_wp2_with fail
      go_ret
      refine ⟨acc++[mkPair qa qb],.slice (some ⟨g,0,none⟩) (n0+1) cap,by rw [HSE.out];rfl,?_,⟨?_,?_,HS1.out.lt⟩,⟨?_,?_⟩⟩
      · rw [HSE.out,List.map_append]
        show _++[(qa.2.1,qb.2.1)]=_++[(k,va)]
        rw [HQA.out,HQB.out]
      · have:=HF5.out
        rw [<-HN0.out] at this
        exact this.moved ((HBE.out _).mono (fun b hb=>by have:=HS1.out.lt;show b<B0;omega))
      · exact HV5.out.set 0 _
      · exact ((Spared.of_below HB1.out _).trans (HS5.out.mono (fun _ h=> .inr h)) (fun _ h=> .inl h)).trans ((HBE.out _).mono (fun _ h=> .inl h)) (fun _ h=> .inl h)
      · rcases HG5.out with h | h
        · exact .inl h.symm
        · exact .inr ⟨g,rfl,by have:=HSZ4.out;omega⟩
   · have hm0':(0:Int)<(m:Int):=by omega
     go_wp2_with fail
     rw [HW.out]
     with_reducible refine HCMP.out.mono ?_
     rintro e w3 ⟨rfl,hw3⟩
     have b3:Below w1.heap.size w1 w3:=by rw [hw3];exact Below.refl _ _
     clear hw3
     go_wp2_with fail
     have cb3:=HBF.out _ b3
     have bd:Below w1.heap.size w1 w3.drew:=b3.drew
     have HFND:Hid (∀ W,Below w1.heap.size w1 W->TFound B0 W acc (.slice Av0 n0 cv0)):=fun W hW=>HS1.out.found.below hW
     obtain ⟨p0,p1⟩:=HKB.out _ b3
     go_region_law (first
      | (refine step_call1 rfl 99 enter_own (.tmp 17) rfl (by simp [Act.eval]) ((HOWN.out _ bd).mono ?_);rintro e w4 ⟨⟨qa,qb,rfl,⟨hqa,hpa⟩,⟨hqb,hpb⟩⟩,hb4⟩;refine ⟨_,rfl,?_⟩;have bd4:Below w1.heap.size w1 w4:=hop bd hb4;have cb4:=HBF.out _ bd4;have cb5:=HBF.out _ (bd4.alloc bd4.size (.cells #[.slice qa.1 qa.2.1.length qa.2.2,.slice qb.1 qb.2.1.length qb.2.2] 123));have HQA:=Lib.hid hqa;have HQB:=Lib.hid hqb;have HPA:=Lib.hid hpa;have HPB:=Lib.hid hpb;have HB34:Hid (Below w3.heap.size w3 w4):=undrew hb4;clear hqa hqb hpa hpb hb4)
      | (
       refine step_append_lies (w4.alloc (.cells #[.slice qa.1 qa.2.1.length qa.2.2,.slice qb.1 qb.2.1.length qb.2.2] 123)) rfl (.tmp 16) (.tmp 19) 63 rfl B0 123 i0 z0 2 48 HR.out.ht HR.out.hi HR.out.hz HR.out.hs HR.out.hb HR.out.zs (by decide) (.slice Av0 n0 cv0) n0 (rowCells 0 acc) (by simp [Act.eval]) (HROW.out _ (bd4.alloc bd4.size _)) ⟨w4.heap.size,0,none⟩ 1 1 [.slice qa.1 qa.2.1.length qa.2.2,.slice qb.1 qb.2.1.length qb.2.2] (by simp [Act.eval]) rfl (World.news_of_block (heap_alloc_new _ _)) (pair_one qa qb) (by decide) (by unfold maxLen;omega) (by omega) (by have:=HBASE.out;have:=(hop HB1.out bd4).size;simp;omega) (w4.heap.size+1) (by simp) ?_
       intro g cap w5 hown5 hgr5 hat5 hlt5
       obtain ⟨hf5,hs5⟩:=(HFND.out w3 b3).more (q:=mkPair qa qb) (show EOk w4 (fun b=>b<w3.heap.size) 0 (mkPair qa qb) from ⟨HPA.out,HPB.out⟩) HB34.out ((Below.refl _ _).alloc (Nat.le_refl _) _) (by rw [<-HN0.out];exact hown5) hgr5 (by rcases hat5 with h | h;exact .inl h;exact .inr (by simp;omega))
       have HF5:=Lib.hid hf5
       have HS5:Hid (Spared w1 w5 (fun b=>some b=(Value.slice Av0 n0 cv0).ownBlock)):=(Spared.of_below b3 _).trans hs5 (fun _ h=> .inl h)
       have HV5:Hid (Blk w5 bf [.slice Av0 n0 cv0] 63):=HS5.out.blk HS1.out.var (fun e=>by have:=(HS1.out.found.lt e.symm).1;have:=HS1.out.lt;omega)
       have HG5:=Lib.hid hat5
       have c5:=HV5.out.cell (i:=0) (by simp)
       have f5:=HV5.out.free 0
       have HK5:Hid (w5.cell? ⟨w.heap.size,0,none⟩=some (.slice Ak nk ck)/\w5.cell? ⟨w.heap.size,1,none⟩=some (.slice Av nv cv)):=by
        have:=HS5.out.blk HB0.out (fun e=>by have:=HOLT.out _ e.symm;omega)
        exact ⟨this.cell (i:=0) (by simp),this.cell (i:=1) (by simp)⟩
       have HK6:Hid (∀ u:Value,(w5.setCell ⟨bf,0,none⟩ u).cell? ⟨w.heap.size,0,none⟩=some (.slice Ak nk ck)/\(w5.setCell ⟨bf,0,none⟩ u).cell? ⟨w.heap.size,1,none⟩=some (.slice Av nv cv)):=fun u=>by
        have:=(HS5.out.blk HB0.out (fun e=>by have:=HOLT.out _ e.symm;omega)).other ⟨bf,0,none⟩ u (by have:=HLTW.out.1;show _≠bf;omega)
        exact ⟨this.cell (i:=0) (by simp),this.cell (i:=1) (by simp)⟩
       clear hown5 hgr5 hat5 hlt5 hf5 hs5))
     all_goals
      have HBE:Hid (∀ u,Spared w5 (w5.setCell ⟨bf,0,none⟩ u) (fun b=>b=bf)):=fun u=>(Spared.refl w5 (fun b=>b=bf)).setCell (g:=bf) rfl _ _
      have HM6:Hid (∀ u,(w5.setCell ⟨bf,0,none⟩ u).cell? ⟨bm,0,none⟩=some (.int .i64 mo)):=fun u=>by
       rw [World.cell?_setCell_other _ _ _ _ (fun e=>HNE.out.1 (by injection e with e;exact e.symm))]
       refine (World.cell?_of_block (a:=⟨bm,0,none⟩) (HS5.out.block bm (Nat.lt_of_lt_of_le HLTW.out.2 HB1.out.size) (by intro e;exact HNE.out.2 e))).trans ?_
       exact (HB1.out.cell (p:=⟨bm,0,none⟩) HLTW.out.2).trans HMO.out
      have m6:=HM6.out (.slice (some ⟨g,0,none⟩) (n0+1) cap)
      have HSZ4:Hid (w.heap.size<=w4.heap.size):=(hop HB1.out bd4).size
      go_wp2_with fail
      go_ret
      refine ⟨acc++[mkPair qa qb],.slice (some ⟨g,0,none⟩) (n0+1) cap,by rw [HSE.out];rfl,?_,⟨?_,?_,HS1.out.lt⟩,⟨?_,?_⟩⟩
      · rw [HSE.out,List.map_append]
        show _++[(qa.2.1,qb.2.1)]=_++[(k,va)]
        rw [HQA.out,HQB.out]
      · have:=HF5.out
        rw [<-HN0.out] at this
        exact this.moved ((HBE.out _).mono (fun b hb=>by have:=HS1.out.lt;show b<B0;omega))
      · exact HV5.out.set 0 _
      · exact ((Spared.of_below HB1.out _).trans (HS5.out.mono (fun _ h=> .inr h)) (fun _ h=> .inl h)).trans ((HBE.out _).mono (fun _ h=> .inl h)) (fun _ h=> .inl h)
      · rcases HG5.out with h | h
        · exact .inl h.symm
        · exact .inr ⟨g,rfl,by have:=HSZ4.out;omega⟩
end Go.Proofs.YtdaahapbpnjkfaaGreat
