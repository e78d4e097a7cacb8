/-
The small questions of a page: isLeaf, count; leaf and above, which make one. Conditions: lengths are ints; above asks for a page at least.
-/
import Derived.Test.YtdaahapbpnjkfaaGreatCGet
import Derived.Lib.Bytealg
import Derived.Test.YtdaahapbpnjkfaaGreatCFEnc
import Derived.Test.YtdaahapbpnjkfaaGreatCKvRows
import Derived.Test.YtdaahapbpnjkfaaGreatChecked
import Derived.Deep.RegionWith
import Derived.Outline
namespace Go.Proofs.YtdaahapbpnjkfaaGreat
open Go.RowKit
abbrev Key:=List UInt8
abbrev Kv:=List UInt8 × List UInt8
def ltK (a b:Key):Bool:=Op.bytesLess a b
theorem bytesLess_list:∀ (x y:List UInt8),Op.bytesLess x y=decide (x<y)
 | [],[]=>by simp [Op.bytesLess]
 | _::_,[]=>by simp [Op.bytesLess]
 | [],_::_=>by simp [Op.bytesLess]
 | a::x,b::y=>by
  rw [Op.bytesLess,bytesLess_list x y]
  simp only [List.cons_lt_cons_iff]
  by_cases h1:a<b<;>by_cases h2:a=b<;>by_cases h3:x<y<;>simp [h1,h2,h3]
theorem ltK_iff (a b:Key):ltK a b=true↔a<b:=by unfold ltK;rw [bytesLess_list];simp
theorem ltK_self (a:Key):ltK a a=false:=by
 rw [Bool.eq_false_iff];intro h;rw [ltK_iff] at h;exact List.lt_irrefl a h
theorem ltK_trans {a b c:Key} (h1:ltK a b=true) (h2:ltK b c=true):ltK a c=true:=by
 rw [ltK_iff] at h1 h2 ⊢;exact List.lt_trans h1 h2
theorem ltK_asymm {a b:Key} (h:ltK a b=true):ltK b a=false:=by
 rw [Bool.eq_false_iff];intro h2;have:=ltK_trans h h2;rw [ltK_self] at this;cases this
theorem ltK_eq {a b:Key} (h1:ltK a b=false) (h2:ltK b a=false):a=b:=by
 have h1': ¬ a<b:=fun h=>by rw [(ltK_iff a b).2 h] at h1;cases h1
 have h2': ¬ b<a:=fun h=>by rw [(ltK_iff b a).2 h] at h2;cases h2
 exact List.le_antisymm (List.not_lt.1 h2') (List.not_lt.1 h1')
theorem ltK_ne {a b:Key} (h:ltK a b=true):a≠b:=fun e=>by rw [e,ltK_self] at h;cases h
theorem ltK_nil (a:Key):ltK a []=false:=by cases a<;>rfl
theorem ltK_of_ne {a b:Key} (h:a≠b) (h1:ltK a b=false):ltK b a=true:=by
 cases h2:ltK b a
 · exact absurd (ltK_eq h1 h2) h
 · rfl
theorem ltK_le_trans {a b c:Key} (h1:ltK a b=true) (h2:ltK c b=false):ltK a c=true:=by
 cases h:ltK b c
 · rw [<-ltK_eq h h2];exact h1
 · exact ltK_trans h1 h
theorem ltK_trans_le {a b c:Key} (h1:ltK b a=false) (h2:ltK b c=true):ltK a c=true:=by
 cases h:ltK a b
 · rw [ltK_eq h h1];exact h2
 · exact ltK_trans h h2
theorem compare_spec:∀ (a b:Key),(Lib.compareBytes a b<0↔ltK a b=true)/\(0<Lib.compareBytes a b↔ltK b a=true)
 | [],[]=>by simp [Lib.compareBytes,ltK,Op.bytesLess]
 | [],_::_=>by simp [Lib.compareBytes,ltK,Op.bytesLess]
 | _::_,[]=>by simp [Lib.compareBytes,ltK,Op.bytesLess]
 | x::a,y::b=>by
  have ih:=compare_spec a b
  unfold ltK at ih ⊢
  unfold Lib.compareBytes
  simp only [Op.bytesLess]
  by_cases h1:x<y
  · have h2: ¬ y<x:=fun h=>absurd (UInt8.lt_trans h1 h) (UInt8.lt_irrefl _)
    have h3: ¬ y=x:=fun e=>by rw [e] at h1;exact UInt8.lt_irrefl _ h1
    simp [h1,h2,h3]
  · by_cases h2:y<x
    · have h3: ¬ x=y:=fun e=>by rw [e] at h2;exact UInt8.lt_irrefl _ h2
      simp [h1,h2,h3]
    · have h3:x=y:=UInt8.le_antisymm (UInt8.not_lt.1 h2) (UInt8.not_lt.1 h1)
      subst h3
      simpa [UInt8.lt_irrefl] using ih
theorem compare_lt {a b:Key} (h:ltK a b=true):Lib.compareBytes a b<0:=(compare_spec a b).1.2 h
theorem compare_ge {a b:Key} (h:ltK a b=false):0<=Lib.compareBytes a b:=by
 have:=(compare_spec a b).1
 rcases Int.lt_or_le (Lib.compareBytes a b) 0 with h' | h'
 · rw [this.1 h'] at h;cases h
 · exact h'
theorem compare_gt {a b:Key} (h:ltK b a=true):0<Lib.compareBytes a b:=(compare_spec a b).2.2 h
theorem compare_le {a b:Key} (h:ltK b a=false):Lib.compareBytes a b<=0:=by
 have:=(compare_spec a b).2
 rcases Int.lt_or_le 0 (Lib.compareBytes a b) with h' | h'
 · rw [this.1 h'] at h;cases h
 · exact h'
def Srt (l:List Kv):Prop:=l.Pairwise fun a b=>ltK a.1 b.1=true
def low (k:Key) (l:List Kv):List Kv:=l.filter fun x=>ltK x.1 k
def high (k:Key) (l:List Kv):List Kv:=l.filter fun x=>ltK k x.1
def since (k:Key) (l:List Kv):List Kv:=l.filter fun x=> !ltK x.1 k
def putT (k v:Key) (l:List Kv):List Kv:=low k l++(k,v)::high k l
def delL (k:Key) (l:List Kv):List Kv:=low k l++high k l
def hasL (k:Key) (l:List Kv):Bool:=l.any fun x=>x.1==k
def getT (k:Key) (l:List Kv):List UInt8:=match l.find? fun x=>x.1==k with | some x=>x.2 | none=>[]
def sizeT (l:List Kv):Nat:=(l.map fun x=>x.1.length+x.2.length).sum
theorem low_append (k:Key) (a b:List Kv):low k (a++b)=low k a++low k b:=List.filter_append ..
theorem high_append (k:Key) (a b:List Kv):high k (a++b)=high k a++high k b:=List.filter_append ..
theorem since_append (k:Key) (a b:List Kv):since k (a++b)=since k a++since k b:=List.filter_append ..
theorem low_all {k:Key} {l:List Kv} (h:∀ x ∈ l,ltK x.1 k=true):low k l=l:=List.filter_eq_self.2 h
theorem low_none {k:Key} {l:List Kv} (h:∀ x ∈ l,ltK x.1 k=false):low k l=[]:=List.filter_eq_nil_iff.2 fun x hx=>by rw [h x hx];decide
theorem high_all {k:Key} {l:List Kv} (h:∀ x ∈ l,ltK k x.1=true):high k l=l:=List.filter_eq_self.2 h
theorem high_none {k:Key} {l:List Kv} (h:∀ x ∈ l,ltK k x.1=false):high k l=[]:=List.filter_eq_nil_iff.2 fun x hx=>by rw [h x hx];decide
theorem since_all {k:Key} {l:List Kv} (h:∀ x ∈ l,ltK x.1 k=false):since k l=l:=List.filter_eq_self.2 fun x hx=>by rw [h x hx];rfl
theorem since_none {k:Key} {l:List Kv} (h:∀ x ∈ l,ltK x.1 k=true):since k l=[]:=List.filter_eq_nil_iff.2 fun x hx=>by rw [h x hx];decide
theorem Srt.nil:Srt []:=List.Pairwise.nil
theorem Srt.append {a b:List Kv}:Srt (a++b)↔Srt a/\Srt b/\∀ x ∈ a,∀ y ∈ b,ltK x.1 y.1=true:=List.pairwise_append
theorem Srt.cons {x:Kv} {l:List Kv}:Srt (x::l)↔(∀ y ∈ l,ltK x.1 y.1=true)/\Srt l:=List.pairwise_cons
theorem Srt.cut {l:List Kv} (h:Srt l) (k:Key):(hasL k l=true/\l=low k l++(k,getT k l)::high k l/\since k l=(k,getT k l)::high k l)\/(hasL k l=false/\l=low k l++high k l/\since k l=high k l):=by
 induction l with
 | nil=>right;exact ⟨rfl,rfl,rfl⟩
 | cons x l ih=>
  rw [Srt.cons] at h
  have ih:=ih h.2
  cases h1:ltK x.1 k
  · -- not below:nothing is below
    have hl:∀ y ∈ l,ltK k y.1=true:=fun y hy=>ltK_trans_le h1 (h.1 y hy)
    have hl2:∀ y ∈ l,ltK y.1 k=false:=fun y hy=>ltK_asymm (hl y hy)
    have e1:low k l=[]:=low_none hl2
    have e2:high k l=l:=high_all hl
    have e3:since k l=l:=since_all hl2
    have e4:hasL k l=false:=by
     unfold hasL
     rw [List.any_eq_false]
     intro y hy
     have:=ltK_ne (hl y hy)
     simp [Ne.symm this]
    by_cases hk:x.1=k
    · left
      obtain ⟨a,b⟩:=x
      dsimp at hk h1
      subst hk
      refine ⟨by simp [hasL],?_,?_⟩
      · simp only [low,high,List.filter_cons,h1,Bool.false_eq_true,if_false]
        unfold low at e1;unfold high at e2
        rw [e1,e2];simp [getT]
      · unfold since high;unfold since at e3;unfold high at e2
        simp only [List.filter_cons,h1,Bool.false_eq_true,if_false,Bool.not_false,if_true]
        rw [e3,e2];simp [getT]
    · right
      have h2:ltK k x.1=true:=ltK_of_ne hk h1
      refine ⟨?_,?_,?_⟩
      · unfold hasL at e4 ⊢
        rw [List.any_cons,e4]
        simp [hk]
      · simp only [low,high,List.filter_cons,h1,h2,Bool.false_eq_true,if_false,if_true]
        unfold low at e1;unfold high at e2
        rw [e1,e2];rfl
      · simp only [since,high,List.filter_cons,h1,h2,if_true,Bool.not_false]
        unfold since at e3;unfold high at e2
        rw [e3,e2]
  · have h2:ltK k x.1=false:=ltK_asymm h1
    have hne:x.1≠k:=ltK_ne h1
    have hb:(x.1==k)=false:=by simp [hne]
    have eg:getT k (x::l)=getT k l:=by unfold getT;rw [List.find?_cons,hb]
    have eh:hasL k (x::l)=hasL k l:=by unfold hasL;rw [List.any_cons];simp [hne]
    have el:low k (x::l)=x::low k l:=by simp [low,h1]
    have ei:high k (x::l)=high k l:=by simp [high,h2]
    have es:since k (x::l)=since k l:=by simp [since,h1]
    rw [eg,eh,el,ei,es]
    rcases ih with ⟨i1,i2,i3⟩ | ⟨i1,i2,i3⟩
    · exact .inl ⟨i1,by rw [List.cons_append,<-i2],i3⟩
    · exact .inr ⟨i1,by rw [List.cons_append,<-i2],i3⟩
theorem low_lt {k:Key} {l:List Kv} {x:Kv} (h:x ∈ low k l):x ∈ l/\ltK x.1 k=true:=by simpa [low,List.mem_filter] using h
theorem high_lt {k:Key} {l:List Kv} {x:Kv} (h:x ∈ high k l):x ∈ l/\ltK k x.1=true:=by simpa [high,List.mem_filter] using h
theorem Srt.filter {l:List Kv} (h:Srt l) (p:Kv->Bool):Srt (l.filter p):=List.Pairwise.filter p h
theorem Srt.low {l:List Kv} (h:Srt l) (k:Key):Srt (low k l):=h.filter _
theorem Srt.high {l:List Kv} (h:Srt l) (k:Key):Srt (high k l):=h.filter _
theorem Srt.put {l:List Kv} (h:Srt l) (k v:Key):Srt (putT k v l):=by
 unfold putT
 rw [Srt.append,Srt.cons]
 refine ⟨h.low k,⟨fun y hy=>(high_lt hy).2,h.high k⟩,fun x hx y hy=> ?_⟩
 rcases List.mem_cons.1 hy with rfl | hy
 · exact (low_lt hx).2
 · exact ltK_trans (low_lt hx).2 (high_lt hy).2
theorem Srt.del {l:List Kv} (h:Srt l) (k:Key):Srt (delL k l):=by
 unfold delL
 rw [Srt.append]
 exact ⟨h.low k,h.high k,fun x hx y hy=>ltK_trans (low_lt hx).2 (high_lt hy).2⟩
theorem sizeL_append (a b:List Kv):sizeT (a++b)=sizeT a+sizeT b:=by simp [sizeT]
theorem sizeL_cons (x:Kv) (l:List Kv):sizeT (x::l)=x.1.length+x.2.length+sizeT l:=by simp [sizeT]
theorem sizeL_has {l:List Kv} (h:Srt l) {k:Key} (hk:hasL k l=true):sizeT l=sizeT (delL k l)+(k.length+(getT k l).length)/\l.length=(delL k l).length+1:=by
 rcases h.cut k with ⟨_,h2,_⟩ | ⟨h1,_⟩
 · unfold delL
   constructor
   · conv=>lhs;rw [h2]
     rw [sizeL_append,sizeL_cons,sizeL_append];dsimp only;omega
   · conv=>lhs;rw [h2]
     simp;omega
 · rw [h1] at hk;cases hk
theorem delL_not {l:List Kv} (h:Srt l) {k:Key} (hk:hasL k l=false):delL k l=l:=by
 rcases h.cut k with ⟨h1,_⟩ | ⟨_,h2,_⟩
 · rw [h1] at hk;cases hk
 · exact h2.symm
theorem sizeL_put (k v:Key) (l:List Kv):sizeT (putT k v l)=sizeT (delL k l)+(k.length+v.length)/\(putT k v l).length=(delL k l).length+1:=by
 unfold putT delL
 rw [sizeL_append,sizeL_append,sizeL_cons]
 constructor
 · dsimp only;omega
 · simp;omega
theorem hasL_append (k:Key) (a b:List Kv):hasL k (a++b)=(hasL k a || hasL k b):=List.any_append ..
theorem hasL_none {k:Key} {l:List Kv} (h:∀ x ∈ l,x.1≠k):hasL k l=false:=by
 unfold hasL;rw [List.any_eq_false];intro x hx;simp [h x hx]
theorem getL_append_right {k:Key} {a b:List Kv} (h:∀ x ∈ a,x.1≠k):getT k (a++b)=getT k b:=by
 unfold getT
 rw [List.find?_append,List.find?_eq_none.2 (fun x hx=>by simp [h x hx])]
 rfl
theorem getL_append_left {k:Key} {a b:List Kv} (h:∀ x ∈ b,x.1≠k):getT k (a++b)=getT k a:=by
 unfold getT
 rw [List.find?_append,List.find?_eq_none.2 (fun x hx=>by simp [h x hx]:∀ x ∈ b,¬ (x.1==k)=true)]
 cases List.find? (fun x=>x.1==k) a<;>rfl
theorem mid_low {k:Key} {a b c:List Kv} (ha:∀ x ∈ a,ltK x.1 k=true) (hc:∀ x ∈ c,ltK k x.1=true):low k (a++b++c)=a++low k b:=by
 rw [low_append,low_append,low_all ha,low_none (fun x hx=>ltK_asymm (hc x hx)),List.append_nil]
theorem mid_high {k:Key} {a b c:List Kv} (ha:∀ x ∈ a,ltK x.1 k=true) (hc:∀ x ∈ c,ltK k x.1=true):high k (a++b++c)=high k b++c:=by
 rw [high_append,high_append,high_none (fun x hx=>ltK_asymm (ha x hx)),high_all hc,List.nil_append]
theorem mid_put {k v:Key} {a b c:List Kv} (ha:∀ x ∈ a,ltK x.1 k=true) (hc:∀ x ∈ c,ltK k x.1=true):putT k v (a++b++c)=a++putT k v b++c:=by
 unfold putT;rw [mid_low ha hc,mid_high ha hc];simp
theorem mid_del {k:Key} {a b c:List Kv} (ha:∀ x ∈ a,ltK x.1 k=true) (hc:∀ x ∈ c,ltK k x.1=true):delL k (a++b++c)=a++delL k b++c:=by
 unfold delL;rw [mid_low ha hc,mid_high ha hc];simp
theorem mid_has {k:Key} {a b c:List Kv} (ha:∀ x ∈ a,ltK x.1 k=true) (hc:∀ x ∈ c,ltK k x.1=true):hasL k (a++b++c)=hasL k b:=by
 rw [hasL_append,hasL_append,hasL_none (fun x hx=>ltK_ne (ha x hx)),hasL_none (fun x hx=>Ne.symm (ltK_ne (hc x hx)))];simp
theorem mid_get {k:Key} {a b c:List Kv} (ha:∀ x ∈ a,ltK x.1 k=true) (hc:∀ x ∈ c,ltK k x.1=true):getT k (a++b++c)=getT k b:=by
 rw [getL_append_left (fun x hx=>Ne.symm (ltK_ne (hc x hx))),getL_append_right (fun x hx=>ltK_ne (ha x hx))]
def Cells (w:World) (F:Nat->Prop) (A:Option Addr) (C:List Value):Prop:=
 C=[]\/∃ b off,A=some ⟨b,off,none⟩/\b<w.heap.size/\ ¬ F b/\∀ j (h:j<C.length),w.cell? ⟨b,off+j,none⟩=some C[j]
section
variable {w w':World} {F G:Nat->Prop} {A:Option Addr} {C:List Value}
theorem Cells.moved (h:Cells w F A C) (hs:Spared w w' F) (hG:∀ i,G i->F i\/w.heap.size<=i):Cells w' G A C:=by
 rcases h with rfl | ⟨b,off,rfl,hb,hn,hc⟩
 · exact .inl rfl
 · refine .inr ⟨b,off,rfl,Nat.lt_of_lt_of_le hb hs.size,fun hg=>(hG b hg).elim hn (fun h=>by omega),fun j hj=> ?_⟩
   exact (World.cell?_of_block (a:=⟨b,off+j,none⟩) (hs.block b hb hn)).trans (hc j hj)
theorem Cells.take (h:Cells w F A C) (m:Nat):Cells w F A (C.take m):=by
 rcases h with rfl | ⟨b,off,rfl,hb,hn,hc⟩
 · exact .inl (by simp)
 · refine .inr ⟨b,off,rfl,hb,hn,fun j hj=> ?_⟩
   rw [List.length_take] at hj
   rw [List.getElem_take]
   exact hc j (by omega)
theorem Cells.drop (h:Cells w F A C) (m s c:Nat) (hc:C.length<=c*s):Cells w F (if c=m then A else A.map (·.add (m*s))) (C.drop (m*s)):=by
 by_cases hm:C.length<=m*s
 · exact .inl (List.drop_eq_nil_of_le hm)
 · rcases h with rfl | ⟨b,off,rfl,hb,hn,hc'⟩
   · simp at hm
   · have hne: ¬ c=m:=fun e=>by rw [e] at hc;exact hm hc
     rw [if_neg hne]
     refine .inr ⟨b,off+m*s,?_,hb,hn,fun j hj=> ?_⟩
     · show some (Addr.add _ _)=_;rw [add_plain]
     · rw [List.length_drop] at hj
       rw [Nat.add_assoc,hc' (m*s+j) (by omega),List.getElem_drop]
theorem Cells.at_ (h:Cells w F A C) (k:Nat) (hk:k<C.length):∃ b off,A=some ⟨b,off,none⟩/\b<w.heap.size/\ ¬ F b/\∀ j (h:j<C.length),w.cell? ⟨b,off+j,none⟩=some C[j]:=by
 rcases h with rfl | h
 · simp at hk
 · exact h
end
structure PG (α:Type) where
 first:Piece
 at_:Option Addr
 els:List α
 cap:Nat
def El:Nat->Type
 | 0=>Piece × Piece
 | h+1=>PG (El h)
abbrev Pg (h:Nat):Type:=PG (El h)
def ecells:(h:Nat)->El h->List Value
 | 0,(q:Piece × Piece)=>[pv q.1,pv q.2]
 | 1,(p:PG (El 0))=>[pv p.first,.slice p.at_ p.els.length p.cap,.slice none 0 0]
 | _+2,(p:PG (El (_+1)))=>[pv p.first,.slice none 0 0,.slice p.at_ p.els.length p.cap]
def esize:Nat->Nat
 | 0=>2
 | _+1=>3
theorem ecells_length:(h:Nat)->(x:El h)->(ecells h x).length=esize h
 | 0,_=>rfl
 | 1,_=>rfl
 | _+2,_=>rfl
def rowCells (h:Nat) (l:List (El h)):List Value:=(l.map (ecells h)).flatten
theorem rowCells_length (h:Nat) (l:List (El h)):(rowCells h l).length=l.length*esize h:=by
 unfold rowCells
 rw [flat_length (m:=esize h) _ (fun r hr=>by obtain ⟨x,_,rfl⟩:=List.mem_map.1 hr;exact ecells_length h x),List.length_map]
theorem rowCells_append (h:Nat) (a b:List (El h)):rowCells h (a++b)=rowCells h a++rowCells h b:=by simp [rowCells]
theorem rowCells_take (h:Nat) (l:List (El h)) (m:Nat):(rowCells h l).take (m*esize h)=rowCells h (l.take m):=by
 induction l generalizing m with
 | nil=>simp [rowCells]
 | cons x l ih=>
  cases m with
  | zero=>simp [rowCells]
  | succ m=>
   have e:rowCells h (x::l)=ecells h x++rowCells h l:=by simp [rowCells]
   have e2:rowCells h (x::l.take m)=ecells h x++rowCells h (l.take m):=by simp [rowCells]
   rw [List.take_succ_cons,e,e2,<-ih m,show (m+1)*esize h=(ecells h x).length+m*esize h by rw [ecells_length,Nat.succ_mul];omega,List.take_length_add_append]
theorem rowCells_drop (h:Nat) (l:List (El h)) (m:Nat):(rowCells h l).drop (m*esize h)=rowCells h (l.drop m):=by
 induction l generalizing m with
 | nil=>simp [rowCells]
 | cons x l ih=>
  cases m with
  | zero=>simp [rowCells]
  | succ m=>
   have e:rowCells h (x::l)=ecells h x++rowCells h l:=by simp [rowCells]
   rw [List.drop_succ_cons,e,<-ih m,show (m+1)*esize h=(ecells h x).length+m*esize h by rw [ecells_length,Nat.succ_mul];omega,List.drop_length_add_append]
theorem Cells.elem {w:World} {F:Nat->Prop} {A:Option Addr} {h:Nat} {l:List (El h)} (hc:Cells w F A (rowCells h l)) (i:Nat) (hi:i<l.length):
 ∃ b off,A=some ⟨b,off,none⟩/\b<w.heap.size/\ ¬ F b/\∀ j,j<esize h->w.cell? ⟨b,off+i*esize h+j,none⟩=(ecells h l[i])[j]? :=by
 have hr:∀ r ∈ l.map (ecells h),r.length=esize h:=fun r hr=>by obtain ⟨x,_,rfl⟩:=List.mem_map.1 hr;exact ecells_length h x
 have hs:0<esize h:=by cases h with | zero=>decide | succ n=>exact Nat.zero_lt_succ 2
 have hlt:i*esize h<(rowCells h l).length:=by rw [rowCells_length];exact Nat.mul_lt_mul_of_pos_right hi hs
 obtain ⟨b,off,rfl,hb,hn,hcell⟩:=hc.at_ _ hlt
 refine ⟨b,off,rfl,hb,hn,fun j hj=> ?_⟩
 have hf:=flat_at (l.map (ecells h)) i j (by simpa using hi) hr (by simp [ecells_length];exact hj)
 obtain ⟨h1,h2⟩:=List.getElem?_eq_some_iff.1 hf
 rw [Nat.add_assoc,hcell _ h1]
 show some ((rowCells h l)[_])=_
 unfold rowCells
 rw [h2]
 simp
def AwayW (w:World) (F:Nat->Prop) (A:Option Addr) (l:List UInt8):Prop:=
 l=[]\/∃ b off,A=some ⟨b,off,none⟩/\b<w.heap.size/\ ¬ F b/\(∀ j (h:j<l.length),w.cell? ⟨b,off+j,none⟩=some (.int .u8 (l[j].toNat:Int)))/\∃ C t,w.heap[b]? =some (.cells C t (0,0))
section
variable {w w':World} {F G:Nat->Prop} {A:Option Addr} {l:List UInt8}
theorem AwayW.away (h:AwayW w F A l):Away w F A l:=by
 rcases h with rfl | ⟨b,off,rfl,hb,hn,hc,_⟩
 · exact .inl rfl
 · exact .inr ⟨b,off,rfl,hb,hn,hc⟩
theorem AwayW.seen (h:AwayW w F A l):Seen w A l:=h.away.seen
theorem AwayW.moved (h:AwayW w F A l) (hs:Spared w w' F) (hG:∀ i,G i->F i\/w.heap.size<=i):AwayW w' G A l:=by
 rcases h with rfl | ⟨b,off,rfl,hb,hn,hc,C,t,hf⟩
 · exact .inl rfl
 · refine .inr ⟨b,off,rfl,Nat.lt_of_lt_of_le hb hs.size,fun hg=>(hG b hg).elim hn (fun h=>by omega),fun j hj=> ?_,C,t,(hs.block b hb hn).trans hf⟩
   exact (World.cell?_of_block (a:=⟨b,off+j,none⟩) (hs.block b hb hn)).trans (hc j hj)
end
def PieceIn (w:World) (F:Nat->Prop) (q:Piece):Prop:=AwayW w F q.1 q.2.1/\q.2.1.length<=q.2.2/\q.2.1.length<=1000000000
theorem PieceIn.moved {w w':World} {F G:Nat->Prop} {q:Piece} (h:PieceIn w F q) (hs:Spared w w' F) (hG:∀ i,G i->F i\/w.heap.size<=i):PieceIn w' G q:=⟨h.1.moved hs hG,h.2⟩
def EOk (w:World) (F:Nat->Prop):(h:Nat)->El h->Prop
 | 0,(q:Piece × Piece)=>PieceIn w F q.1/\PieceIn w F q.2
 | h+1,(p:PG (El h))=>PieceIn w F p.first/\Cells w F p.at_ (rowCells h p.els)/\p.els.length<=p.cap/\∀ x ∈ p.els,EOk w F h x
theorem EOk.moved {w w':World} {F G:Nat->Prop} (hs:Spared w w' F) (hG:∀ i,G i->F i\/w.heap.size<=i):(h:Nat)->(x:El h)->EOk w F h x->EOk w' G h x
 | 0,_,hx=>⟨hx.1.moved hs hG,hx.2.moved hs hG⟩
 | h+1,p,hx=>by
  obtain ⟨h1,h2,h3,h4⟩:=hx
  exact ⟨h1.moved hs hG,h2.moved hs hG,h3,fun x hx=>EOk.moved hs hG h x (h4 x hx)⟩
theorem EOk.below {w w':World} {F:Nat->Prop} {h:Nat} {x:El h} (hx:EOk w F h x) (hb:Below w.heap.size w w'):EOk w' F h x:=EOk.moved (.of_below hb F) (fun _ h=> .inl h) h x hx
theorem Cells.below {w w':World} {F:Nat->Prop} {A:Option Addr} {C:List Value} (hx:Cells w F A C) (hb:Below w.heap.size w w'):Cells w' F A C:=hx.moved (.of_below hb F) (fun _ h=> .inl h)
theorem PieceIn.below {w w':World} {F:Nat->Prop} {q:Piece} (hx:PieceIn w F q) (hb:Below w.heap.size w w'):PieceIn w' F q:=hx.moved (.of_below hb F) (fun _ h=> .inl h)
def Wider (w w2:World) (F:Nat->Prop) (b:Nat):Prop:=F b\/(w.heap.size<=b/\b<w2.heap.size)
theorem Wider.lt {w w2:World} {F:Nat->Prop} (hF:∀ b,F b->b<w.heap.size) (hb:w.heap.size<=w2.heap.size):∀ b,Wider w w2 F b->b<w2.heap.size:=fun b h=>h.elim (fun h=>Nat.lt_of_lt_of_le (hF b h) hb) (fun h=>h.2)
theorem Wider.new {w w2:World} {F:Nat->Prop}:∀ i,Wider w w2 F i->F i\/w.heap.size<=i:=fun _ h=>h.imp id (fun h=>h.1)
theorem EOk.wider {w w2:World} {F:Nat->Prop} {h:Nat} {x:El h} (hx:EOk w F h x) (hb:Below w.heap.size w w2):EOk w2 (Wider w w2 F) h x:=EOk.moved (.of_below hb F) Wider.new h x hx
theorem EOk.narrow {w w2 w3 w4:World} {F:Nat->Prop} {h:Nat} {x:El h} (hx:EOk w3 (Wider w w2 F) h x) (hs:Spared w3 w4 (fun b=>w.heap.size<=b/\b<w2.heap.size)):EOk w4 F h x:=EOk.moved (hs.mono (fun _ h=> .inr h)) (fun _ h=> .inl (.inl h)) h x hx
def AllOk (w:World) (F:Nat->Prop) (h:Nat) (l:List (El h)):Prop:=∀ x ∈ l,EOk w F h x
theorem AllOk.below {w w':World} {F:Nat->Prop} {h:Nat} {l:List (El h)} (hx:AllOk w F h l) (hb:Below w.heap.size w w'):AllOk w' F h l:=fun x h=>(hx x h).below hb
theorem AllOk.append {w:World} {F:Nat->Prop} {h:Nat} {a b:List (El h)} (ha:AllOk w F h a) (hb:AllOk w F h b):AllOk w F h (a++b):=fun x hx=>(List.mem_append.1 hx).elim (ha x) (hb x)
theorem AllOk.take {w:World} {F:Nat->Prop} {h:Nat} {a:List (El h)} (ha:AllOk w F h a) (m:Nat):AllOk w F h (a.take m):=fun x hx=>ha x (List.mem_of_mem_take hx)
theorem AllOk.drop {w:World} {F:Nat->Prop} {h:Nat} {a:List (El h)} (ha:AllOk w F h a) (m:Nat):AllOk w F h (a.drop m):=fun x hx=>ha x (List.mem_of_mem_drop hx)
def eflat:(h:Nat)->El h->List Kv
 | 0,(q:Piece × Piece)=>[(q.1.2.1,q.2.2.1)]
 | h+1,(p:PG (El h))=>p.els.flatMap (eflat h)
def flats (h:Nat) (l:List (El h)):List Kv:=l.flatMap (eflat h)
theorem flats_append (h:Nat) (a b:List (El h)):flats h (a++b)=flats h a++flats h b:=by simp [flats]
theorem flats_cons (h:Nat) (x:El h) (b:List (El h)):flats h (x::b)=eflat h x++flats h b:=by simp [flats]
theorem flats_single (h:Nat) (x:El h):flats h [x]=eflat h x:=by simp [flats]
theorem flats_two (h:Nat) (x y:El h):flats h [x,y]=eflat h x++eflat h y:=by simp [flats]
theorem eflat_succ (h:Nat) (p:Pg h):eflat (h+1) p=flats h p.els:=rfl
def epiece:(h:Nat)->El h->Piece
 | 0,(q:Piece × Piece)=>q.1
 | _+1,(p:PG (El _))=>p.first
def ecount:(h:Nat)->El h->Nat
 | 0,_=>4
 | _+1,(p:PG (El _))=>p.els.length
def headKey:List Kv->Key
 | []=>[]
 | x::_=>x.1
def Inner:(h:Nat)->El h->Prop
 | 0,_=>True
 | h+1,(p:PG (El h))=>(∀ x ∈ p.els,(4<=ecount h x/\ecount h x<=8)/\Inner h x)/\p.first.2.1=headKey (flats h p.els)
def Full (h:Nat) (x:El h):Prop:=(4<=ecount h x/\ecount h x<=8)/\Inner h x
theorem Full.ne:(h:Nat)->(x:El h)->1<=ecount h x->Inner h x->eflat h x≠[]
 | 0,_,_,_=>by intro e;cases e
 | h+1,p,h1,h2=>by
  obtain ⟨f,a,els,c⟩:=p
  cases els with
  | nil=>exact absurd h1 (by decide: ¬ 1<=0)
  | cons x els=>
   have hx:=h2.1 x (List.mem_cons_self ..)
   rw [eflat_succ]
   show flats h (x::els)≠[]
   rw [flats_cons]
   intro e
   exact Full.ne h x (by have:=hx.1.1;omega) hx.2 (List.append_eq_nil_iff.1 e).1
theorem headKey_append {a b:List Kv} (h:a≠[]):headKey (a++b)=headKey a:=by
 cases a with
 | nil=>exact absurd rfl h
 | cons x a=>rfl
theorem Full.key (h:Nat) (x:El h) (h1:1<=ecount h x) (h2:Inner h x):(epiece h x).2.1=headKey (eflat h x):=by
 cases h with
 | zero=>rfl
 | succ h=>exact h2.2
def mkPg (h:Nat) (A:Option Addr) (l:List (El h)) (c:Nat):Pg h:=⟨match l with | []=>(none,[],0) | x::_=>epiece h x,A,l,c⟩
theorem mkPg_inner (h:Nat) (A:Option Addr) (l:List (El h)) (c:Nat) (hl:∀ x ∈ l,Full h x):Inner (h+1) (mkPg h A l c):=by
 refine ⟨hl,?_⟩
 show (mkPg h A l c).first.2.1=headKey (flats h l)
 cases l with
 | nil=>rfl
 | cons x l=>
  have hx:=hl x (List.mem_cons_self ..)
  have h1:1<=ecount h x:=by have:=hx.1.1;omega
  rw [flats_cons,headKey_append (Full.ne h x h1 hx.2)]
  exact Full.key h x h1 hx.2
theorem epiece_ok {w:World} {F:Nat->Prop}:(h:Nat)->(x:El h)->EOk w F h x->PieceIn w F (epiece h x)
 | 0,_,hx=>hx.1
 | _+1,_,hx=>hx.1
theorem mkPg_ok {w:World} {F:Nat->Prop} (h:Nat) (A:Option Addr) (l:List (El h)) (c:Nat) (h1:Cells w F A (rowCells h l)) (h2:AllOk w F h l) (h3:l.length<=c):EOk w F (h+1) (mkPg h A l c):=by
 refine ⟨?_,h1,h3,h2⟩
 cases l with
 | nil=>exact ⟨.inl rfl,Nat.le_refl _,Nat.zero_le _⟩
 | cons x l=>exact epiece_ok h x (h2 x (List.mem_cons_self ..))
theorem Inner.full {h:Nat} {p:Pg h} (hp:Inner (h+1) p) {x:El h} (hx:x ∈ p.els):Full h x:=hp.1 x hx
theorem isLeaf_yes (w:World) (A0 A1:Option Addr) (n0 c0 n1 c1:Nat):
 Calls Tryz.prog 128 #[.agg #[.slice A0 n0 c0,.slice A1 n1 c1,.slice none 0 0]] w fun e w'=>e= .returned (.bool true)/\Below w.heap.size w w':=by
 go_enter Tryz.func128,Tryz.ntmps128
 go_wp2
 go_ret
 exact ⟨rfl,(Below.refl _ _).alloc (Nat.le_refl _) _⟩
theorem isLeaf_no (w:World) (A0 A1 A2:Option Addr) (n0 c0 n1 c1 n2 c2:Nat) (h:0<n2):
 Calls Tryz.prog 128 #[.agg #[.slice A0 n0 c0,.slice A1 n1 c1,.slice A2 n2 c2]] w fun e w'=>e= .returned (.bool false)/\Below w.heap.size w w':=by
 have h1:((n2:Int)==0)=false:=by rw [beq_eq_false_iff_ne];omega
 go_enter Tryz.func128,Tryz.ntmps128
 go_wp2
 go_ret
 exact ⟨rfl,(Below.refl _ _).alloc (Nat.le_refl _) _⟩
theorem count_any (w:World) (A0 A1 A2:Option Addr) (n0 c0 n1 c1 n2 c2:Nat) (h1:n1<=1000000) (h2:n2<=1000000):
 Calls Tryz.prog 147 #[.agg #[.slice A0 n0 c0,.slice A1 n1 c1,.slice A2 n2 c2]] w fun e w'=>e= .returned (.int .i64 ((n1:Int)+(n2:Int)))/\Below w.heap.size w w':=by
 go_enter Tryz.func147,Tryz.ntmps147
 go_wp2
 go_ret
 exact ⟨rfl,(Below.refl _ _).alloc (Nat.le_refl _) _⟩
theorem count_leaf (w:World) (A0 A1:Option Addr) (n0 c0 n1 c1:Nat) (h1:n1<=1000000):
 Calls Tryz.prog 147 #[.agg #[.slice A0 n0 c0,.slice A1 n1 c1,.slice none 0 0]] w fun e w'=>e= .returned (.int .i64 (n1:Int))/\Below w.heap.size w w':=by
 have:=count_any w A0 A1 none n0 c0 n1 c1 0 0 h1 (by omega)
 rwa [show ((n1:Int)+((0:Nat):Int))=(n1:Int) by omega] at this
theorem count_node (w:World) (A0 A2:Option Addr) (n0 c0 n2 c2:Nat) (h2:n2<=1000000):
 Calls Tryz.prog 147 #[.agg #[.slice A0 n0 c0,.slice none 0 0,.slice A2 n2 c2]] w fun e w'=>e= .returned (.int .i64 (n2:Int))/\Below w.heap.size w w':=by
 have:=count_any w A0 none A2 n0 c0 0 0 n2 c2 (by omega) h2
 rwa [show (((0:Nat):Int)+(n2:Int))=(n2:Int) by omega] at this
theorem leaf_walk (w:World) (b off n c:Nat) (A0:Option Addr) (n0 c0:Nat) (hb:b<w.heap.size) (hc:w.cell? ⟨b,off,none⟩=some (.slice A0 n0 c0)) (hp:0<n):
 Calls Tryz.prog 145 #[.slice (some ⟨b,off,none⟩) n c] w fun e w'=>e= .returned (.agg #[.slice A0 n0 c0,.slice (some ⟨b,off,none⟩) n c,.slice none 0 0])/\Below w.heap.size w w':=by
 have hlt:(0:Int)<(n:Int):=by omega
 have hne:((n:Int)==0)=false:=by rw [beq_eq_false_iff_ne];omega
 go_enter Tryz.func145,Tryz.ntmps145
 go_wp2
 refine bodyPost_ret (v:= .agg #[.slice A0 n0 c0,.slice (some ⟨b,off,none⟩) n c,.slice none 0 0]) (by simp [results,Tryz.results145,go_sem]) rfl ⟨rfl,(Below.refl _ _).alloc (Nat.le_refl _) _⟩
theorem leaf_none (w:World) (A:Option Addr) (c:Nat):
 Calls Tryz.prog 145 #[.slice A 0 c] w fun e w'=>e= .returned (.agg #[.slice none 0 0,.slice none 0 0,.slice none 0 0])/\Below w.heap.size w w':=by
 go_enter Tryz.func145,Tryz.ntmps145
 go_wp2
 exact bodyPost_ret (v:= .agg #[.slice none 0 0,.slice none 0 0,.slice none 0 0]) (by simp [results,Tryz.results145,go_sem]) rfl ⟨rfl,(Below.refl _ _).alloc (Nat.le_refl _) _⟩
theorem above_walk (w:World) (b off n c:Nat) (A0:Option Addr) (n0 c0:Nat) (hb:b<w.heap.size) (hc:w.cell? ⟨b,off,none⟩=some (.slice A0 n0 c0)) (hp:0<n):
 Calls Tryz.prog 150 #[.slice (some ⟨b,off,none⟩) n c] w fun e w'=>e= .returned (.agg #[.slice A0 n0 c0,.slice none 0 0,.slice (some ⟨b,off,none⟩) n c])/\Below w.heap.size w w':=by
 have hlt:(0:Int)<(n:Int):=by omega
 go_enter Tryz.func150,Tryz.ntmps150
 go_wp2
 exact bodyPost_ret (v:= .agg #[.slice A0 n0 c0,.slice none 0 0,.slice (some ⟨b,off,none⟩) n c]) (by simp [results,Tryz.results150,go_sem]) rfl ⟨rfl,(Below.refl _ _).alloc (Nat.le_refl _) _⟩
structure IsPg (w:World) (F:Nat->Prop) (h:Nat) (l:List (El h)) (p:Pg h):Prop where
 els:p.els=l
 ok:EOk w F (h+1) p
 inner:Inner (h+1) p
theorem IsPg.below {w w':World} {F:Nat->Prop} {h:Nat} {l:List (El h)} {p:Pg h} (hp:IsPg w F h l p) (hb:Below w.heap.size w w'):IsPg w' F h l p:=⟨hp.els,hp.ok.below hb,hp.inner⟩
theorem IsPg.flat {w:World} {F:Nat->Prop} {h:Nat} {l:List (El h)} {p:Pg h} (hp:IsPg w F h l p):eflat (h+1) p=flats h l:=by rw [eflat_succ,hp.els]
theorem IsPg.count {w:World} {F:Nat->Prop} {h:Nat} {l:List (El h)} {p:Pg h} (hp:IsPg w F h l p):ecount (h+1) p=l.length:=by rw [<-hp.els];rfl
theorem IsPg.mk_ {w:World} {F:Nat->Prop} {h:Nat} {A:Option Addr} {l:List (El h)} {c:Nat} (h1:Cells w F A (rowCells h l)) (h2:AllOk w F h l) (h3:l.length<=c) (h4:∀ x ∈ l,Full h x):IsPg w F h l (mkPg h A l c):=
 ⟨rfl,mkPg_ok h A l c h1 h2 h3,mkPg_inner h A l c h4⟩
theorem full_pair (q:El 0):Full 0 q:=⟨⟨Nat.le_refl _,(by decide:4<=8)⟩,trivial⟩
def pval (h:Nat) (p:Pg h):Value:= .agg (ecells (h+1) p).toArray
theorem leaf_any (w:World) (F:Nat->Prop) (A:Option Addr) (l:List (El 0)) (n c:Nat) (h1:Cells w F A (rowCells 0 l)) (h2:AllOk w F 0 l) (hn:l.length=n) (hc:n<=c):
 Calls Tryz.prog 145 #[.slice A n c] w fun e w'=>(∃ p:Pg 0,e= .returned (pval 0 p)/\IsPg w F 0 l p)/\Below w.heap.size w w':=by
 subst hn
 have hI:=IsPg.mk_ h1 h2 hc (fun x _=>full_pair x)
 cases l with
 | nil=>
  refine (leaf_none w A c).mono ?_
  rintro e w' ⟨rfl,hb⟩
  exact ⟨⟨mkPg 0 none [] 0,rfl,IsPg.mk_ (.inl rfl) (fun x hx=>by cases hx) (Nat.le_refl _) (fun x hx=>by cases hx)⟩,hb⟩
 | cons q r=>
  obtain ⟨b,off,rfl,hb,_,hcell⟩:=h1.elem 0 (by simp)
  have c1:w.cell? ⟨b,off,none⟩=some (pv (epiece 0 q)):=by have:=hcell 0 (by decide);rw [Nat.zero_mul,Nat.add_zero] at this;exact this
  refine (leaf_walk w b off _ c _ _ _ hb c1 (by simp)).mono ?_
  rintro e w' ⟨rfl,hb⟩
  exact ⟨⟨mkPg 0 (some ⟨b,off,none⟩) (q::r) c,rfl,hI⟩,hb⟩
theorem above_any (w:World) (F:Nat->Prop) (h:Nat) (A:Option Addr) (l:List (El (h+1))) (n c:Nat) (h1:Cells w F A (rowCells (h+1) l)) (h2:AllOk w F (h+1) l) (hf:∀ x ∈ l,Full (h+1) x) (hn:l.length=n) (hc:n<=c) (hp:0<n):
 Calls Tryz.prog 150 #[.slice A n c] w fun e w'=>(∃ p:Pg (h+1),e= .returned (pval (h+1) p)/\IsPg w F (h+1) l p)/\Below w.heap.size w w':=by
 subst hn
 have hI:=IsPg.mk_ h1 h2 hc hf
 cases l with
 | nil=>simp at hp
 | cons q r=>
  obtain ⟨b,off,rfl,hb,_,hcell⟩:=h1.elem 0 (by simp)
  have c1:w.cell? ⟨b,off,none⟩=some (pv (epiece (h+1) q)):=by
   have:=hcell 0 (by decide:0<3)
   rw [Nat.zero_mul,Nat.add_zero] at this
   rw [this]
   cases h<;>rfl
  refine (above_walk w b off _ c _ _ _ hb c1 hp).mono ?_
  rintro e w' ⟨rfl,hb⟩
  exact ⟨⟨mkPg (h+1) (some ⟨b,off,none⟩) (q::r) c,rfl,hI⟩,hb⟩
end Go.Proofs.YtdaahapbpnjkfaaGreat
