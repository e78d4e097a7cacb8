/-
What the program's Size and Encode come to: the size, and the bytes, of a frame. Condition: the data are at most 2^46 bytes.
-/
import Derived.Test.YtdaahapbpnjkfaaGreatChecked
import Derived.Test.YtdaahapbpnjkfaaGreatCOnly
import Derived.Deep.MidRow
import Derived.WalkLawsBesides
import Derived.Test.YtdaahapbpnjkfaaGreatCGet
namespace Go.Proofs.YtdaahapbpnjkfaaGreat
open Go.RowKit
theorem text_on {w:World} {A:Option Addr} {l:List UInt8} (h:Seen w A l) (n c:Nat) (hn:l.length=n):
 ∀ w',Below w.heap.size w w'->(convert 22 9 (.slice A n c)).run Tryz.prog w'= .ok (.string ⟨l.toArray⟩) w':=by
 intro w' hb
 subst hn
 exact (h.below hb).text 22 9 5 Tryz.underlying22 Tryz.underlying5 Tryz.underlying9 c
theorem Made.form_cap {e:TypeId} {w0 w:World} {l:List UInt8} {v:Value} (h:Made e w0 l v w):∃ A c,v= .slice A l.length c/\Seen w A l/\l.length<=c:=by
 have h1:=h.1
 rcases h1.2 with ⟨rfl,h0⟩ | ⟨g,cap,cur,rfl,_,_,hnc,_⟩
 · exact ⟨none,0,by rw [h0],.inl (List.eq_nil_of_length_eq_zero h0),by omega⟩
 · exact ⟨_,_,rfl,(Seen.of_own h1).1,hnc⟩
theorem text_beq (a b:List UInt8):((⟨a.toArray⟩:ByteArray).toList==(⟨b.toArray⟩:ByteArray).toList)=decide (a=b):=by
 simp only [ByteArray.toList_eq]
 rw [Bool.eq_iff_iff,beq_iff_eq,decide_eq_true_iff]
theorem seen_mark (w:World) (e:TypeId) (l:List UInt8) (fr:Nat × Nat):Seen (w.alloc (.cells (l.map bv).toArray e fr)) (some ⟨w.heap.size,0,none⟩) l:=
 .inr ⟨w.heap.size,0,rfl,by simp,fun j hj=>by
  have h:(w.alloc (.cells (l.map bv).toArray e fr)).heap[w.heap.size]? =some (.cells (l.map bv).toArray e fr):=by
   show (w.heap.push _)[w.heap.size]? =_
   simp
  simp only [World.cell?,h,Nat.zero_add]
  simp [hj,bv]⟩
section
variable {α:Type} {m:Nat}
theorem flat_length:∀ (R:List (List α)),(∀ r ∈ R,r.length=m)->R.flatten.length=R.length*m
 | [],_=>by simp
 | r::R,h=>by
  rw [List.flatten_cons,List.length_append,flat_length R (fun x hx=>h x (by simp [hx])),h r (by simp),List.length_cons,Nat.succ_mul,Nat.add_comm]
theorem flat_at:∀ (R:List (List α)) (i j:Nat) (hi:i<R.length) (_:∀ r ∈ R,r.length=m) (hj:j<R[i].length),R.flatten[i*m+j]? =some (R[i][j])
 | [],_,_,hi,_,_=>by simp at hi
 | r::R,0,j,_,_,hj=>by
  rw [List.flatten_cons,Nat.zero_mul,Nat.zero_add]
  have hj':j<r.length:=hj
  rw [List.getElem?_append_left hj',List.getElem?_eq_getElem hj']
  rfl
 | r::R,i+1,j,hi,h,hj=>by
  have e:(i+1)*m+j=r.length+(i*m+j):=by rw [h r (by simp),Nat.succ_mul];omega
  rw [List.flatten_cons,e,List.getElem?_append_right (by omega),Nat.add_sub_cancel_left]
  exact flat_at R i j (by simpa using hi) (fun x hx=>h x (by simp [hx])) hj
theorem flat_set:∀ (R:List (List α)) (i:Nat) (x:List α),i<R.length->(∀ r ∈ R,r.length=m)->x.length=m->splice R.flatten (i*m) x=(R.set i x).flatten
 | [],_,_,hi,_,_=>by simp at hi
 | r::R,0,x,_,h,hx=>by
  unfold splice
  rw [List.set_cons_zero,List.flatten_cons,List.flatten_cons,Nat.zero_mul,List.take_zero,List.nil_append,Nat.zero_add,hx,<-h r (by simp),List.drop_left]
 | r::R,i+1,x,hi,h,hx=>by
  have ih:=flat_set R i x (by simpa using hi) (fun x hx=>h x (by simp [hx])) hx
  unfold splice at ih ⊢
  have e:(i+1)*m=r.length+i*m:=by rw [h r (by simp),Nat.succ_mul];omega
  rw [List.set_cons_succ,List.flatten_cons,List.flatten_cons,<-ih,e,List.take_length_add_append,Nat.add_assoc,List.drop_length_add_append,List.append_assoc]
end
theorem splice_one {α:Type} (L:List α) (o:Nat) (v:α) (r:List α) (h:o+(r.length+1)<=L.length):splice (L.set o v) (o+1) r=splice L o (v::r):=by
 unfold splice
 rw [List.take_succ_eq_append_getElem (by simp;omega),List.getElem_set_self,List.take_set_of_le (Nat.le_refl _),List.drop_set_of_lt (by omega)]
 simp only [List.append_assoc,List.length_cons,List.cons_append,List.nil_append]
 rw [show o+1+r.length=o+(r.length+1) by omega]
theorem blk_setCells {g:Nat} {t:TypeId}:∀ (vs:List Value) (o:Nat) (w:World) (L:List Value),Blk w g L t->o+vs.length<=L.length->Blk (w.setCells g o vs) g (splice L o vs) t
 | [],o,w,L,h,_=>by simpa [World.setCells,splice] using h
 | v::r,o,w,L,h,hl=>by
  rw [World.setCells,<-splice_one L o v r (by simpa using hl)]
  exact blk_setCells r (o+1) _ _ (h.set o v) (by simp;simp at hl;omega)
theorem blk_there {w:World} {g:Nat} {L:List Value} {t:TypeId} (h:Blk w g L t) (o n:Nat) (hn:o+n<=L.length):w.there g o n:=fun j hj=>
 ⟨by rw [h.cell (by omega:o+j<L.length)];rfl,h.free _⟩
theorem blk_away {g g':Nat} {t:TypeId} {L:List Value}:∀ (vs:List Value) (o:Nat) (w:World),Blk w g L t->g≠g'->Blk (w.setCells g' o vs) g L t
 | [],_,_,h,_=>h
 | v::r,o,_,h,hg=>by rw [World.setCells];exact blk_away r (o+1) _ (h.other _ _ hg) hg
section
variable {w:World} {g m:Nat} {R:List (List Value)} {t:TypeId}
theorem flat_range (h:Blk w g R.flatten t) (hm:∀ r ∈ R,r.length=m) (i:Nat) (hi:i<R.length):w.rangeAt g (i*m) R[i]:=fun j v hv=>by
 obtain ⟨hj,hju⟩:=List.getElem?_eq_some_iff.1 hv
 have e:=flat_at R i j hi hm hj
 obtain ⟨h1,h2⟩:=List.getElem?_eq_some_iff.1 e
 rw [h.cell h1,h2,hju]
theorem flat_there (h:Blk w g R.flatten t) (hm:∀ r ∈ R,r.length=m) (i:Nat) (hi:i<R.length):w.there g (i*m) m:=
 blk_there h _ _ (by rw [flat_length R hm,<-Nat.succ_mul];exact Nat.mul_le_mul_right _ hi)
theorem flat_store (h:Blk w g R.flatten t) (hm:∀ r ∈ R,r.length=m) (i:Nat) (hi:i<R.length) (x:List Value) (hx:x.length=m):Blk (w.setCells g (i*m) x) g (R.set i x).flatten t:=by
 have:=blk_setCells x (i*m) w _ h (by rw [flat_length R hm,hx,<-Nat.succ_mul];exact Nat.mul_le_mul_right _ hi)
 rwa [flat_set R i x hi hm hx] at this
end
structure Spared (w w':World) (F:Nat->Prop):Prop where
 os:w'.os=w.os
 tape:w'.tape=w.tape
 output:w'.output=w.output
 size:w.heap.size<=w'.heap.size
 block:∀ k,k<w.heap.size-> ¬ F k->w'.heap[k]? =w.heap[k]?
section
variable {w w' w'':World} {F G:Nat->Prop}
theorem Spared.refl (w:World) (F:Nat->Prop):Spared w w F:=⟨rfl,rfl,rfl,Nat.le_refl _,fun _ _ _=>rfl⟩
theorem Spared.trans (h:Spared w w' F) (k:Spared w' w'' G) (hG:∀ i,G i->F i\/w.heap.size<=i):Spared w w'' F:=
 ⟨k.os.trans h.os,k.tape.trans h.tape,k.output.trans h.output,Nat.le_trans h.size k.size,fun i hi hn=>
  (k.block i (Nat.lt_of_lt_of_le hi h.size) (fun hg=>(hG i hg).elim hn (fun hs=>by omega))).trans (h.block i hi hn)⟩
theorem Spared.of_below (h:Below w.heap.size w w') (F:Nat->Prop):Spared w w' F:=⟨h.os,h.tape,h.output,h.size,fun k hk _=>h.block k hk⟩
theorem Spared.of_grown {row:Option Nat} (h:w.grownBy w' row) (hF:∀ k,row=some k->k<w.heap.size->F k):Spared w w' F:=
 ⟨h.os,h.tape,h.output,h.size,fun k hk hn=>h.block k hk (fun e=>hn (hF k e.symm hk))⟩
theorem Spared.below (h:Spared w w' F) {W:World} (hb:Below W.heap.size W w) (hF:∀ k,F k->W.heap.size<=k):Below W.heap.size W w':=
 ⟨h.os.trans hb.os,h.tape.trans hb.tape,h.output.trans hb.output,Nat.le_trans hb.size h.size,fun k hk=>(h.block k (Nat.lt_of_lt_of_le hk hb.size) (fun hf=>by have:=hF k hf;omega)).trans (hb.block k hk)⟩
theorem Spared.drew (h:Spared w w' F):Spared w w'.drew F:=⟨h.os,h.tape,h.output,h.size,h.block⟩
theorem Spared.mono (h:Spared w w' F) (hG:∀ k,F k->G k):Spared w w' G:=⟨h.os,h.tape,h.output,h.size,fun k hk hn=>h.block k hk (fun hf=>hn (hG k hf))⟩
theorem Spared.blk {g:Nat} {L:List Value} {t:TypeId} (h:Spared w w' F) (hb:Blk w g L t) (hg: ¬ F g):Blk w' g L t:=(h.block g hb.lt hg).trans hb
theorem Spared.setCell {g:Nat} (h:Spared w w' F) (hg:F g) (i:Nat) (u:Value):Spared w (w'.setCell ⟨g,i,none⟩ u) F:=
 ⟨h.os,h.tape,h.output,by simpa [World.setCell] using h.size,fun k hk hn=>(heap_setCell_other w' ⟨g,i,none⟩ k u (fun e=>hn (by rw [e];exact hg))).trans (h.block k hk hn)⟩
theorem Spared.setCells {g:Nat} (hg:F g):∀ (vs:List Value) (o:Nat) (w':World),Spared w w' F->Spared w (w'.setCells g o vs) F
 | [],_,_,h=>h
 | v::r,o,_,h=>Spared.setCells hg r (o+1) _ (h.setCell hg o v)
end
def Away (w:World) (F:Nat->Prop) (A:Option Addr) (l:List UInt8):Prop:=
 l=[]\/∃ b off,A=some ⟨b,off,none⟩/\b<w.heap.size/\ ¬ F b/\∀ j (h:j<l.length),w.cell? ⟨b,off+j,none⟩=some (.int .u8 (l[j].toNat:Int))
section
variable {w w':World} {F G:Nat->Prop} {A:Option Addr} {l:List UInt8}
theorem Away.seen (h:Away w F A l):Seen w A l:=by
 rcases h with rfl | ⟨b,off,rfl,hb,_,hc⟩
 · exact .inl rfl
 · exact .inr ⟨b,off,rfl,hb,hc⟩
theorem Away.of_seen (h:Seen w A l) (hF:∀ b off,A=some ⟨b,off,none⟩->b<w.heap.size-> ¬ F b):Away w F A l:=by
 rcases h with rfl | ⟨b,off,rfl,hb,hc⟩
 · exact .inl rfl
 · exact .inr ⟨b,off,rfl,hb,hF b off rfl hb,hc⟩
theorem Away.moved (h:Away w F A l) (hs:Spared w w' F) (hG:∀ i,G i->F i\/w.heap.size<=i):Away w' G A l:=by
 rcases h with rfl | ⟨b,off,rfl,hb,hn,hc⟩
 · exact .inl rfl
 · refine .inr ⟨b,off,rfl,Nat.lt_of_lt_of_le hb hs.size,fun hg=>(hG b hg).elim hn (fun h=>by omega),fun j hj=> ?_⟩
   exact (World.cell?_of_block (a:=⟨b,off+j,none⟩) (hs.block b hb hn)).trans (hc j hj)
end
theorem range_setCell {w:World} {b o g i:Nat} {cs:List Value} {u:Value} (h:w.rangeAt b o cs) (hne:g≠b):(w.setCell ⟨g,i,none⟩ u).rangeAt b o cs:=fun j v hv=>by
 rw [World.cell?_setCell_other _ _ _ _ (fun e=>hne (by injection e))]
 exact h j v hv
theorem range_grown {w w':World} {b o:Nat} {cs:List Value} {row:Option Nat} (h:w.rangeAt b o cs) (hg:w.grownBy w' row) (hne:some b≠row):w'.rangeAt b o cs:=fun j v hv=>by
 have h1:=h j v hv
 exact (World.cell?_of_block (a:=⟨b,o+j,none⟩) (hg.block b (World.block_lt_of_cell? w _ h1) hne)).trans h1
theorem wpList_copy_into {P:Program} {w:World} {ops:Array Oper} {rest:List Oper} {o:Oper} {a:Act} {Q:Exit->Act->World->Prop} (hgd:o.guard=none) (d s:Operand) (dT:TypeId)
 (ho:o.op= .call { callee:= .builtin .copy,args:= #[d,s],argTypes:= #[dT,dT] }) (elem:TypeId) (hu:P.underlying dT=some (.slice elem)) (hsz:(P.info? elem).map (·.size)=some 1)
 (g off dLen dCap:Nat) (A:Option Addr) (r:List UInt8) (n sCap:Nat) (hd:a.eval d= .slice (some ⟨g,off,none⟩) dLen dCap) (hs:a.eval s= .slice A n sCap) (hrn:r.length=n)
 (cur:List Value) (t:TypeId) (hg:Blk w g cur t) (hr:Seen w A r) (h0:0<n) (m:Nat) (hm:m=min n dLen) (hfit:off+m<=cur.length)
 (h:∀ w',Hid (Blk w' g (splice cur off ((r.take m).map bv)) t)->Hid (w.grownBy w' (some g))->wpList P ops Q rest (a.put o.dst (.int .i64 (m:Int))) w'):wpList P ops Q (o::rest) a w:=by
 subst hrn
 rcases hr with rfl | ⟨b,off',rfl,hb,hc⟩
 · simp at h0
 · have hl:((r.take m).map bv).length=m:=by simp;omega
   refine wpList_copy_own hgd d s dT dT ho elem hu hsz g off dLen dCap ⟨b,off',none⟩ r.length sCap hd hs cur.toArray t hg ((r.take m).map bv) (by rw [hl,hm]) (fun j v hv=> ?_) (by rw [hl];simpa using hfit) (fun v hv=>by obtain ⟨x,_,rfl⟩:=List.mem_map.1 hv;rfl) ?_
   · obtain ⟨hj,hju⟩:=List.getElem?_eq_some_iff.1 hv
     rw [hl] at hj
     rw [add_plain,hc j (by omega),<-hju,List.getElem_map,List.getElem_take]
     rfl
   · rw [hl]
     refine h _ ?_ (only_setRow (World.grownBy.refl w _) _)
     have:=setRow_heap w g _ (splice cur off ((r.take m).map bv)).toArray t _ hg
     unfold splice at this ⊢
     rw [hl] at this ⊢
     exact this
theorem Seen.drop {w:World} {A:Option Addr} {l:List UInt8} (h:Seen w A l) (m c:Nat) (hc:l.length<=c):Seen w (if c=m then A else A.map (·.add (m*1))) (l.drop m):=by
 by_cases hm:l.length<=m
 · exact .inl (List.drop_eq_nil_of_le hm)
 · rcases h with rfl | ⟨b,off,rfl,hb,hc'⟩
   · simp at hm
   · rw [if_neg (by omega)]
     refine .inr ⟨b,off+m,?_,hb,fun j hj=> ?_⟩
     · rw [Nat.mul_one];show some (Addr.add _ _)=_;rw [add_plain]
     · rw [List.length_drop] at hj
       rw [Nat.add_assoc,hc' (m+j) (by omega),List.getElem_drop]
def Ints (w:World) (A:Option Addr) (l:List Int):Prop:=
 l=[]\/∃ b off,A=some ⟨b,off,none⟩/\b<w.heap.size/\∀ j (h:j<l.length),w.cell? ⟨b,off+j,none⟩=some (.int .i64 l[j])
def IntsAway (w:World) (F:Nat->Prop) (A:Option Addr) (l:List Int):Prop:=
 l=[]\/∃ b off,A=some ⟨b,off,none⟩/\b<w.heap.size/\ ¬ F b/\∀ j (h:j<l.length),w.cell? ⟨b,off+j,none⟩=some (.int .i64 l[j])
section
variable {w w':World} {F G:Nat->Prop} {A:Option Addr} {l:List Int}
theorem Ints.below (h:Ints w A l) (hb:Below w.heap.size w w'):Ints w' A l:=by
 rcases h with rfl | ⟨b,off,rfl,hlt,hc⟩
 · exact .inl rfl
 · exact .inr ⟨b,off,rfl,Nat.lt_of_lt_of_le hlt hb.size,fun j hj=>(hb.cell (p:=⟨b,off+j,none⟩) hlt).trans (hc j hj)⟩
theorem Ints.away (h:Ints w A l) (hb:Below w.heap.size w w') (hF:∀ k,F k->w.heap.size<=k):IntsAway w' F A l:=by
 rcases h with rfl | ⟨b,off,rfl,hlt,hc⟩
 · exact .inl rfl
 · exact .inr ⟨b,off,rfl,Nat.lt_of_lt_of_le hlt hb.size,fun hf=>by have:=hF b hf;omega,fun j hj=>(hb.cell (p:=⟨b,off+j,none⟩) hlt).trans (hc j hj)⟩
theorem IntsAway.moved (h:IntsAway w F A l) (hs:Spared w w' F) (hG:∀ i,G i->F i\/w.heap.size<=i):IntsAway w' G A l:=by
 rcases h with rfl | ⟨b,off,rfl,hb,hn,hc⟩
 · exact .inl rfl
 · refine .inr ⟨b,off,rfl,Nat.lt_of_lt_of_le hb hs.size,fun hg=>(hG b hg).elim hn (fun h=>by omega),fun j hj=> ?_⟩
   exact (World.cell?_of_block (a:=⟨b,off+j,none⟩) (hs.block b hb hn)).trans (hc j hj)
theorem IntsAway.at_ (h:IntsAway w F A l) (k:Nat) (hk:k<l.length):∃ b off,A=some ⟨b,off,none⟩/\w.cell? ⟨b,off+k,none⟩=some (.int .i64 l[k]):=by
 rcases h with rfl | ⟨b,off,rfl,_,_,hc⟩
 · simp at hk
 · exact ⟨b,off,rfl,hc k hk⟩
end
theorem Seen.byte {w:World} {A:Option Addr} {l:List UInt8} (h:Seen w A l) (k:Nat) (hk:k<l.length):∃ b off,A=some ⟨b,off,none⟩/\w.cell? ⟨b,off+k,none⟩=some (.int .u8 (l[k].toNat:Int)):=by
 obtain ⟨b,off,h1,_,h2⟩:=h.at_ hk
 exact ⟨b,off,h1,h2⟩
def MadeN (e:TypeId) (w0:World) (l:List UInt8) (A:Option Addr) (n c:Nat) (w:World):Prop:=l.length=n/\Made e w0 l (.slice A n c) w
theorem Made.since {e:TypeId} {w0 w w':World} {l:List UInt8} {v:Value} (h:Made e w l v w') (hb:Below w0.heap.size w0 w):Made e w0 l v w':=by
 refine ⟨⟨h.1.1,?_⟩,hop hb h.2⟩
 rcases h.1.2 with hn | ⟨g,cap,cur,hv,hg,rest⟩
 · exact .inl hn
 · exact .inr ⟨g,cap,cur,hv,Nat.le_trans hb.size hg,rest⟩
theorem Made.finish {e:TypeId} {w w2 w3 w4:World} {l:List UInt8} {v:Value} (h:Made e w2 l v w3) (hsz:w.heap.size<=w2.heap.size) (hs:Spared w3 w4 (fun b=>b<w2.heap.size)) (hb:Below w.heap.size w w4):Made e w l v w4:=by
 refine ⟨⟨h.1.1,?_⟩,hb⟩
 rcases h.1.2 with hn | ⟨g,cap,cur,hv,hB,hg,rest⟩
 · exact .inl hn
 · have hlt:g<w3.heap.size:=by
    rcases Nat.lt_or_ge g w3.heap.size with hlt | hge
    · exact hlt
    · rw [Array.getElem?_eq_none hge] at hg;cases hg
   exact .inr ⟨g,cap,cur,hv,Nat.le_trans hsz hB,(hs.block g hlt (by omega)).trans hg,rest⟩
theorem MadeN.seen {e:TypeId} {w0 w:World} {l:List UInt8} {A:Option Addr} {n c:Nat} (h:MadeN e w0 l A n c w):Seen w A l:=h.2.at_len.2
theorem Made.named {e:TypeId} {w0 w:World} {l:List UInt8} {v:Value} (h:Made e w0 l v w):∃ A n c,v= .slice A n c/\MadeN e w0 l A n c w:=by
 obtain ⟨A,c,rfl,_⟩:=h.form
 exact ⟨A,l.length,c,rfl,rfl,h⟩
theorem cap_of {e:TypeId} {w0 w:World} {l:List UInt8} {A:Option Addr} {n c:Nat} (h:Made e w0 l (.slice A n c) w):l.length<=c:=by
 obtain ⟨A',c',e,_,hc⟩:=h.form_cap
 injection e with _ _ e
 omega
theorem cut_tail (A:Option Addr) (n c m:Nat) (hm:m<=n) (W:World):(Instr.slice 22 (.slice A n c) (some (.int .i64 (m:Int))) none none).run Tryz.prog W= .ok (.slice (if c=m then A else A.map (·.add (m*1))) (n-m) (c-m)) W:=by
 have e2:Tryz.prog.elem 22=5:=by kernel_rfl
 obtain ⟨i,hi,hz⟩:=Option.map_eq_some_iff.1 info8p
 simp only [Prod.mk.injEq] at hz
 rw [run_slice_l W 22 A n c (by kernel_rfl) .i64 (m:Int) (by omega) (by omega),e2]
 simp [sizeOf,typeInfo,hi,hz.2.1,sliced]
theorem cut_head (A:Option Addr) (n c m:Nat) (hm:m<=c) (W:World):(Instr.slice 22 (.slice A n c) none (some (.int .i64 (m:Int))) none).run Tryz.prog W= .ok (.slice A m c) W:=by
 have e2:Tryz.prog.elem 22=5:=by kernel_rfl
 obtain ⟨i,hi,hz⟩:=Option.map_eq_some_iff.1 info8p
 simp only [Prod.mk.injEq] at hz
 rw [run_slice_h W 22 A n c (by kernel_rfl) .i64 (m:Int) (by omega) (by omega),e2]
 simp [sizeOf,typeInfo,hi,hz.2.1,sliced]
 intro _
 cases A with
 | none=>rfl
 | some a=>
  show some (a.add 0)=some a
  rw [Addr.add_zero']
theorem cut_mid (A:Option Addr) (n c a b:Nat) (ha:a<=b) (hn:b<=c) (W:World):(Instr.slice 22 (.slice A n c) (some (.int .i64 (a:Int))) (some (.int .i64 (b:Int))) none).run Tryz.prog W= .ok (.slice (if c=a then A else A.map (·.add (a*1))) (b-a) (c-a)) W:=by
 have e2:Tryz.prog.elem 22=5:=by kernel_rfl
 obtain ⟨i,hi,hz⟩:=Option.map_eq_some_iff.1 info8p
 simp only [Prod.mk.injEq] at hz
 rw [run_slice_lh W 22 A n c (by kernel_rfl) .i64 .i64 (a:Int) (b:Int) (by omega) (by omega) (by omega),e2]
 simp [sizeOf,typeInfo,hi,hz.2.1,sliced]
theorem Seen.take {w:World} {A:Option Addr} {l:List UInt8} (h:Seen w A l) (m:Nat):Seen w A (l.take m):=by
 rcases h with rfl | ⟨b,off,e,hb,hc⟩
 · exact .inl (by simp)
 · refine .inr ⟨b,off,e,hb,fun j hj=> ?_⟩
   rw [List.length_take] at hj
   rw [hc j (by omega),List.getElem_take]
theorem Away.take {w:World} {F:Nat->Prop} {A:Option Addr} {l:List UInt8} (h:Away w F A l) (m:Nat):Away w F A (l.take m):=by
 rcases h with rfl | ⟨b,off,e,hb,hF,hc⟩
 · exact .inl (by simp)
 · refine .inr ⟨b,off,e,hb,hF,fun j hj=> ?_⟩
   rw [List.length_take] at hj
   rw [hc j (by omega),List.getElem_take]
theorem Away.drop {w:World} {F:Nat->Prop} {A:Option Addr} {l:List UInt8} (h:Away w F A l) (m c:Nat) (hc:l.length<=c):Away w F (if c=m then A else A.map (·.add (m*1))) (l.drop m):=by
 by_cases hm:l.length<=m
 · exact .inl (List.drop_eq_nil_of_le hm)
 · rcases h with rfl | ⟨b,off,rfl,hb,hF,hc'⟩
   · simp at hm
   · rw [if_neg (by omega)]
     refine .inr ⟨b,off+m,?_,hb,hF,fun j hj=> ?_⟩
     · rw [Nat.mul_one];show some (Addr.add _ _)=_;rw [add_plain]
     · rw [List.length_drop] at hj
       rw [Nat.add_assoc,hc' (m+j) (by omega),List.getElem_drop]
theorem Away.mono {w:World} {F G:Nat->Prop} {A:Option Addr} {l:List UInt8} (h:Away w F A l) (hG:∀ b,G b->F b):Away w G A l:=
 h.moved (Spared.refl w F) (fun i hi=> .inl (hG i hi))
theorem Seen.tail_cut {w:World} {A:Option Addr} {l:List UInt8} (h:Seen w A l) (n c m:Nat) (x:Int) (hx:(m:Int)=x) (hn:l.length=n) (hm:m<=n) (hc:n<=c):
 ∃ A',(∀ W,(Instr.slice 22 (.slice A n c) (some (.int .i64 x)) none none).run Tryz.prog W= .ok (.slice A' (n-m) (c-m)) W)/\Seen w A' (l.drop m):=by
 subst hx
 exact ⟨_,cut_tail A n c m hm,h.drop m c (by omega)⟩
theorem tail_cut_all (A:Option Addr) (l:List UInt8) (n c m:Nat) (x:Int) (hx:(m:Int)=x) (hn:l.length=n) (hm:m<=n) (hc:n<=c):
 ∃ A',(∀ W,(Instr.slice 22 (.slice A n c) (some (.int .i64 x)) none none).run Tryz.prog W= .ok (.slice A' (n-m) (c-m)) W)/\∀ w,Seen w A l->Seen w A' (l.drop m):=by
 subst hx
 exact ⟨_,cut_tail A n c m hm,fun w h=>h.drop m c (by omega)⟩
theorem Seen.head_cut {w:World} {A:Option Addr} {l:List UInt8} (h:Seen w A l) (n c m:Nat) (x:Int) (hx:(m:Int)=x) (hn:l.length=n) (hm:m<=n) (hc:n<=c):
 (∀ W,(Instr.slice 22 (.slice A n c) none (some (.int .i64 x)) none).run Tryz.prog W= .ok (.slice A m c) W)/\Seen w A (l.take m)/\(l.take m).length=m:=by
 subst hx
 exact ⟨cut_head A n c m (by omega),h.take m,by rw [List.length_take];omega⟩
theorem Seen.mid_cut {w:World} {A:Option Addr} {l:List UInt8} (h:Seen w A l) (n c a b N:Nat) (x y:Int) (hx:(a:Int)=x) (hy:(b:Int)=y) (hN:b-a=N) (hn:l.length=n) (hab:a<=b) (hb:b<=n) (hc:n<=c):
 ∃ A' c',(∀ W,(Instr.slice 22 (.slice A n c) (some (.int .i64 x)) (some (.int .i64 y)) none).run Tryz.prog W= .ok (.slice A' N c') W)/\Seen w A' ((l.drop a).take N)/\((l.drop a).take N).length=N:=by
 subst hx hy hN
 refine ⟨_,_,cut_mid A n c a b hab (by omega),(h.drop a c (by omega)).take _,by rw [List.length_take,List.length_drop];omega⟩
theorem clone_made (A:Option Addr) (l:List UInt8) (n c:Nat) (w:World) (hn:l.length=n) (hl:n<=140737488351232) (hs:Seen w A l):
 Calls Tryz.prog 69 #[.slice A n c] w fun e w'=>∃ A' c',e= .returned (.slice A' n c')/\Made 5 w l (.slice A' n c') w':=by
 subst hn
 refine (clone_any A l c w hl hs).mono ?_
 rintro e w' ⟨v,rfl,hm⟩
 obtain ⟨A',c',rfl,_⟩:=hm.form
 exact ⟨A',c',rfl,hm⟩
theorem put_made (n:Nat) (w:World) (hn:n<=9223372036854775807):
 Calls Tryz.prog 122 #[.slice none 0 0,.int .i64 (n:Int)] w fun e w'=>∃ A m c,e= .returned (.slice A m c)/\MadeN 5 w (putL n) A m c w':=by
 refine (put_any none [] 0 n w (by decide) hn (.inl rfl)).mono ?_
 rintro e w' ⟨v,rfl,hm⟩
 exact hm.named.elim fun A ⟨m,c,h1,h2⟩=>⟨A,m,c,by rw [h1],h2⟩
theorem MadeN.below {e:TypeId} {w0 w w':World} {l:List UInt8} {A:Option Addr} {n c:Nat} (h:MadeN e w0 l A n c w) (hb:Below w.heap.size w w'):MadeN e w0 l A n c w':=⟨h.1,h.2.below hb⟩
theorem wpList_append_to {P:Program} (w:World) {ops:Array Oper} {rest:List Oper} {o:Oper} {a:Act} {Q:Exit->Act->World->Prop} (hgd:o.guard=none) (s x:Operand) (t:TypeId)
 (ho:o.op= .call { callee:= .builtin .append,args:= #[s,x],argTypes:= #[t,t] })
 (e:TypeId) (i:TypeInfo) (z:Value) (ht:P.underlying t=some (.slice e)) (hi:P.info? e=some i) (hz:i.zero=some z)
 (hsize:i.size=1) (hby:i.bytes=1) (hzs:z.cells.size=1)
 (w0:World) (A:Option Addr) (n c:Nat) (d:List UInt8) (B:Option Addr) (m k:Nat) (l:List UInt8) (D:List UInt8) (N:Nat) (hs:a.eval s= .slice A n c) (hx:a.eval x= .slice B m k)
 (H:Hid (MadeN e w0 d A n c w)) (hr:Hid (Seen w B l)) (hm:Hid (l.length=m)) (hD:Hid (D=d++l)) (hN:Hid (N=n+m)) (hb:n+m<=140737488355328)
 (h:∀ A' c' w',Hid (MadeN e w0 D A' N c' w')->Hid (Below w0.heap.size w w')->wpList P ops Q rest (a.put o.dst (.slice A' N c')) w'):
 wpList P ops Q (o::rest) a w:=by
 have hm:=hm.out
 subst hm
 refine wpList_append_bytes w hgd s x t ho e i z ht hi hz hsize hby hzs w0 (.slice A n c) d B l k hs hx H.out.2 hr.out (by rw [H.out.1];exact hb) (fun v' w' HM hbl=> ?_)
 obtain ⟨A',c',rfl,_⟩:=HM.form
 rw [<-hD.out] at HM
 have hl:D.length=N:=by rw [hD.out,hN.out,List.length_append,H.out.1]
 have e1:(d++l).length=N:=by rw [<-hD.out];exact hl
 rw [hl] at HM
 rw [e1]
 exact h A' c' w' ⟨hl,HM⟩ hbl
theorem wpList_append_new {P:Program} (w:World) {ops:Array Oper} {rest:List Oper} {o:Oper} {a:Act} {Q:Exit->Act->World->Prop} (hgd:o.guard=none) (s x:Operand) (t:TypeId)
 (ho:o.op= .call { callee:= .builtin .append,args:= #[s,x],argTypes:= #[t,t] })
 (e:TypeId) (i:TypeInfo) (z:Value) (ht:P.underlying t=some (.slice e)) (hi:P.info? e=some i) (hz:i.zero=some z)
 (hsize:i.size=1) (hby:i.bytes=1) (hzs:z.cells.size=1)
 (w0:World) (A:Option Addr) (n c:Nat) (d:List UInt8) (m:Nat) (cs:Array Value) (l:List UInt8) (D:List UInt8) (N:Nat) (hs:a.eval s= .slice A n c) (b:Nat) (hb0:w.heap.size=b) (hx:a.eval x= .slice (some ⟨b,0,none⟩) m m)
 (H:Hid (MadeN e w0 d A n c w)) (hcs:(l.map bv).toArray=cs) (hm:Hid (l.length=m)) (hD:Hid (D=d++l)) (hN:Hid (N=n+m)) (hb:n+m<=140737488355328)
 (h:∀ A' c' w',Hid (MadeN e w0 D A' N c' w')->Hid (Below w0.heap.size w w')->wpList P ops Q rest (a.put o.dst (.slice A' N c')) w'):
 wpList P ops Q (o::rest) a (w.alloc (.cells cs e)):=by
 subst hcs
 subst hb0
 have hal:Below w.heap.size w (w.alloc (.cells (l.map bv).toArray e)):=(Below.refl _ _).alloc (Nat.le_refl _) _
 exact wpList_append_to (w.alloc (.cells (l.map bv).toArray e)) hgd s x t ho e i z ht hi hz hsize hby hzs w0 A n c d (some ⟨w.heap.size,0,none⟩) m m l D N hs hx (H.out.below hal) (seen_mark w e l (0,0)) hm hD hN hb
  (fun A' c' w' h1 h2=>h A' c' w' h1 ((hal.mono H.out.2.2.size).trans h2.out))
def Grew (w:World) (v:Value) (w':World) (v':Value):Prop:=w.grownBy w' v.ownBlock/\(v'.ownBlock=v.ownBlock\/∃ g,v'.ownBlock=some g/\w.heap.size<=g)
theorem Grew.after {w w1 w2:World} {v v':Value} (h:Grew w1 v w2 v') (hb:Below w.heap.size w w1):Grew w v w2 v':=
 ⟨only_trans (only_of_below hb _) h.1,h.2.elim .inl (fun ⟨g,h1,h2⟩=> .inr ⟨g,h1,Nat.le_trans hb.size h2⟩)⟩
theorem Grew.trans {w w1 w2:World} {v v1 v2:Value} (h:Grew w v w1 v1) (k:Grew w1 v1 w2 v2):Grew w v w2 v2:=by
 refine ⟨⟨k.1.os.trans h.1.os,k.1.tape.trans h.1.tape,k.1.output.trans h.1.output,Nat.le_trans h.1.size k.1.size,fun i hi hn=> ?_⟩,?_⟩
 · refine (k.1.block i (Nat.lt_of_lt_of_le hi h.1.size) ?_).trans (h.1.block i hi hn)
   rcases h.2 with e | ⟨g,e,hg⟩
   · rw [e];exact hn
   · rw [e];intro e';injection e' with e';omega
 · rcases k.2 with e | ⟨g,e,hg⟩
   · rw [e];exact h.2
   · exact .inr ⟨g,e,Nat.le_trans h.1.size hg⟩
theorem run_append_to {P:Program} (w:World) (t ty e:TypeId) (i:TypeInfo) (z:Value) (ht:P.underlying t=some (.slice e)) (hi:P.info? e=some i) (hz:i.zero=some z)
 (hsize:i.size=1) (hby:i.bytes=1) (hzs:z.cells.size=1)
 (w0:World) (A:Option Addr) (n c:Nat) (d:List UInt8) (B:Option Addr) (m k:Nat) (l:List UInt8) (D:List UInt8) (N:Nat)
 (H:Hid (MadeN e w0 d A n c w)) (hr:Hid (Seen w B l)) (hm:Hid (l.length=m)) (hD:Hid (D=d++l)) (hN:Hid (N=n+m)) (hb:n+m<=140737488355328):
 ∃ A' c' w',(Builtin.append_ #[t,t] ty #[.slice A n c,.slice B m k]).run P w= .ok (.slice A' N c') w'/\Hid (MadeN e w0 D A' N c' w')/\Hid (Below w0.heap.size w w')/\Hid (Grew w (.slice A n c) w' (.slice A' N c')):=by
 have hm:=hm.out
 subst hm
 have hown:w.ownsRow w0.heap.size e 1 (.slice A n c) d.length (d.map bv):=H.out.2.1
 obtain ⟨v',w',hrun,hown',hg,hat⟩:=run_append_seen (P:=P) w w0.heap.size t ty e i z ht hi hz hsize hby hzs (.slice A n c) d.length (d.map bv) hown B l k hr.out (by rw [H.out.1];exact hb) H.out.2.2.size
 have hB:=H.out.2.2
 have e1:d.length+l.length=N:=by rw [hN.out,H.out.1]
 have hlen:D.length=N:=by rw [hD.out,List.length_append];exact e1
 have hown2:w'.ownsRow w0.heap.size e 1 v' D.length (D.map bv):=by
  rw [hD.out,List.map_append,List.length_append]
  exact hown'
 have hmade:Made e w0 D v' w':=⟨hown2,below_grown hB hB.size hown hg⟩
 obtain ⟨A',c',rfl,_⟩:=hmade.form
 rw [hlen] at hrun hmade
 refine ⟨A',c',w',hrun,⟨hlen,hmade⟩,below_grown (Below.refl _ _) hB.size hown hg,hg,?_⟩
 rw [hlen] at hat
 exact hat.elim .inl (fun h=> .inr ⟨_,h,Nat.le_refl _⟩)
theorem step_append_to {P:Program} {ops:Array Oper} {o:Oper} {a:Act} {K:Act->World->Prop} {Q:Exit->Act->World->Prop} {E:Prop} (w:World) (hgd:o.guard=none) (s x:Operand) (t:TypeId)
 (ho:o.op= .call { callee:= .builtin .append,args:= #[s,x],argTypes:= #[t,t] })
 (e:TypeId) (i:TypeInfo) (z:Value) (ht:P.underlying t=some (.slice e)) (hi:P.info? e=some i) (hz:i.zero=some z)
 (hsize:i.size=1) (hby:i.bytes=1) (hzs:z.cells.size=1)
 (w0:World) (A:Option Addr) (n c:Nat) (d:List UInt8) (B:Option Addr) (m k:Nat) (l:List UInt8) (D:List UInt8) (N:Nat) (hs:a.eval s= .slice A n c) (hx:a.eval x= .slice B m k)
 (H:Hid (MadeN e w0 d A n c w)) (hr:Hid (Seen w B l)) (hm:Hid (l.length=m)) (hD:Hid (D=d++l)) (hN:Hid (N=n+m)) (hb:n+m<=140737488355328)
 (h:∀ A' c' w',Hid (MadeN e w0 D A' N c' w')->Hid (Below w0.heap.size w w')->Hid (Grew w (.slice A n c) w' (.slice A' N c'))->K (a.put o.dst (.slice A' N c')) w'):
 if Region.wanted o (yielded ops a.tmps)=true then Oper.wp P o a w K Q else E:=by
 have hw:Region.wanted o (yielded ops a.tmps)=true:=by simp [Region.wanted,hgd]
 rw [if_pos hw]
 obtain ⟨A',c',w',hrun,h1,h2,h3⟩:=run_append_to (P:=P) w t o.type e i z ht hi hz hsize hby hzs w0 A n c d B m k l D N H hr hm hD hN hb
 unfold Oper.wp execOp
 simp only [ho,resolve,invoke,builtin,Sem.run_bind,Sem.run_pure,Result.andThen_ok,List.map_toArray,List.map_cons,List.map_nil,hs,hx,hrun]
 exact h A' c' w' h1 h2 h3
theorem wpList_append_by {P:Program} (w:World) {ops:Array Oper} {rest:List Oper} {o:Oper} {a:Act} {Q:Exit->Act->World->Prop} (hgd:o.guard=none) (s x:Operand) (t:TypeId)
 (ho:o.op= .call { callee:= .builtin .append,args:= #[s,x],argTypes:= #[t,t] })
 (e:TypeId) (i:TypeInfo) (z:Value) (ht:P.underlying t=some (.slice e)) (hi:P.info? e=some i) (hz:i.zero=some z)
 (hsize:i.size=1) (hby:i.bytes=1) (hzs:z.cells.size=1)
 (w0:World) (A:Option Addr) (n c:Nat) (d:List UInt8) (B:Option Addr) (m k:Nat) (l:List UInt8) (D:List UInt8) (N:Nat) (hs:a.eval s= .slice A n c) (hx:a.eval x= .slice B m k)
 (H:Hid (MadeN e w0 d A n c w)) (hr:Hid (Seen w B l)) (hm:Hid (l.length=m)) (hD:Hid (D=d++l)) (hN:Hid (N=n+m)) (hb:n+m<=140737488355328)
 (h:∀ A' c' w',Hid (MadeN e w0 D A' N c' w')->Hid (Grew w (.slice A n c) w' (.slice A' N c'))->wpList P ops Q rest (a.put o.dst (.slice A' N c')) w'):
 wpList P ops Q (o::rest) a w:=by
 refine wpList_plain hgd fun K hK=> ?_
 obtain ⟨A',c',w',hrun,h1,_,h3⟩:=run_append_to (P:=P) w t o.type e i z ht hi hz hsize hby hzs w0 A n c d B m k l D N H hr hm hD hN hb
 unfold Oper.wp execOp
 simp only [ho,resolve,invoke,builtin,Sem.run_bind,Sem.run_pure,Result.andThen_ok,List.map_toArray,List.map_cons,List.map_nil,hs,hx,hrun]
 exact hK _ _ (h A' c' w' h1 h3)
theorem ret_bool {a b:Bool} (h:a=b):Ending.returned (.bool a)= .returned (.bool b):=by rw [h]
theorem size_any (n:Int) (w:World) (h0: -9223372036854775808<=n) (h1:n<=9223372036854775807):
 Calls Tryz.prog 115 #[.int .i64 n] w fun e w'=>e= .returned (.int .i64 (sizeL n))/\Below w.heap.size w w':=by
 by_cases hn:n<0
 · have HE:Hid (sizeL n=0):=if_pos (.inl hn)
   go_enter Tryz.func115,Tryz.ntmps115
   go_wp2_with fail
   go_ret
   exact ⟨ret_int HE.out.symm,Below.refl _ _⟩
 · by_cases hb:65536<n
   · have HE:Hid (sizeL n=0):=if_pos (.inr hb)
     have hn':0<=n:=by omega
     clear hn
     go_enter Tryz.func115,Tryz.ntmps115
     go_wp2_with fail
     go_ret
     exact ⟨ret_int HE.out.symm,Below.refl _ _⟩
   · obtain ⟨m,rfl⟩:=Int.eq_ofNat_of_zero_le (show 0<=n by omega)
     have HE:Hid (sizeL (m:Int)=((putL m).length:Int)+m+21):=by show _=_;rw [sizeL,if_neg (by omega)];rfl
     have hm:m<=65536:=by omega
     have h3:=putL3 hm
     have HL:Hid ((putL m).length<=3):=h3
     clear hn hb h3
     go_enter Tryz.func115,Tryz.ntmps115
     go_wp2_with fail
     refine (put_made m _ (by omega)).mono ?_
     rintro e w1 ⟨A,k,c,rfl,hk⟩
     have HK:=Lib.hid hk.1
     have HB:=Lib.hid hk.2.2
     have hk3:k<=3:=by have:=HL.out;have:=HK.out;omega
     clear hk
     go_wp2_with fail
     go_ret
     refine ⟨ret_int ?_,HB.out⟩
     rw [HE.out,HK.out];omega
def inB (n:Int):Bool:=decide (0<=n/\n<=1152921504606846976)
theorem inRange_any (n:Int) (w:World) (h0: -9223372036854775808<=n) (h1:n<=9223372036854775807):
 Calls Tryz.prog 116 #[.int .i64 n] w fun e w'=>e= .returned (.bool (inB n))/\w=w':=by
 by_cases hn:n<0
 · have HE:Hid (inB n=false):=decide_eq_false (by omega)
   go_enter Tryz.func116,Tryz.ntmps116
   go_wp2_with fail
   go_ret
   exact ⟨ret_bool HE.out.symm,rfl⟩
 · have hn':0<=n:=by omega
   clear hn
   by_cases hb:n<=1152921504606846976
   · have HE:Hid (inB n=true):=decide_eq_true ⟨hn',hb⟩
     go_enter Tryz.func116,Tryz.ntmps116
     go_wp2_with fail
     go_ret
     exact ⟨ret_bool HE.out.symm,rfl⟩
   · have HE:Hid (inB n=false):=decide_eq_false (by omega)
     go_enter Tryz.func116,Tryz.ntmps116
     go_wp2_with fail
     go_ret
     exact ⟨ret_bool HE.out.symm,rfl⟩
set_option maxHeartbeats 400000 in
theorem appendNumber_any (w0 w:World) (A:Option Addr) (d:List UInt8) (n c m:Nat) (H:MadeN 5 w0 d A n c w) (hm:m<=9223372036854775807) (hb:n<=140737488355000):
 Calls Tryz.prog 87 #[.slice A n c,.int .i64 (m:Int)] w fun e w'=>∃ A' n' c',e= .returned (.slice A' n' c')/\MadeN 5 w0 (d++putL m) A' n' c' w'/\n'<=n+9/\Grew w (.slice A n c) w' (.slice A' n' c'):=by
 obtain ⟨i0,hi,hz0,hz1,hz2⟩:=info_parts info8p
 have HH:=Lib.hid H
 have H9:=Lib.hid (putL_length9 hm)
 clear H
 go_enter Tryz.func87,Tryz.ntmps87
 go_wp2_with fail
 refine (put_made m _ hm).mono ?_
 rintro e w1 ⟨B,k,c1,rfl,hk⟩
 have HK:=Lib.hid hk.1
 have HS:=Lib.hid hk.seen
 have HH1:=Lib.hid (HH.out.below hk.2.2)
 have HB1:=Lib.hid hk.2.2
 have hk9:k<=9:=by have:=H9.out;have:=HK.out;omega
 clear hk
 obtain ⟨D,hD⟩:∃ D,D=d++putL m:=⟨_,rfl⟩
 obtain ⟨N,hN⟩:∃ N,N=n+k:=⟨_,rfl⟩
 have ED:=Lib.hid hD
 have EN:=Lib.hid hN
 clear hD hN
 go_wp2_with (at_builtin;refine wpList_append_by w1 rfl (.tmp 5) (.tmp 7) 22 rfl 5 i0 (.int .u8 0) Tryz.underlying22 hi hz0 hz1 hz2 rfl w0 A n c d B k c1 (putL m) D N rfl rfl HH1 HS HK ED EN (by omega) ?_)
 intro A2 c2 w2 H2 G2
 go_wp2_with fail
 go_ret
 exact ⟨A2,N,c2,rfl,by rw [<-ED.out];exact H2.out,by rw [EN.out];omega,G2.out.after HB1.out⟩
end Go.Proofs.YtdaahapbpnjkfaaGreat
