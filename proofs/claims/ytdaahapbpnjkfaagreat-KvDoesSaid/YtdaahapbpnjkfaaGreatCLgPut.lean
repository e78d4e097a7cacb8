/-
An area's small methods: valid, before, filled; put: whole blocks are written and synced. Conditions: as each says.
-/
import Derived.Test.YtdaahapbpnjkfaaGreatCLgL
import Derived.Test.YtdaahapbpnjkfaaGreatCOnly
import Derived.Test.YtdaahapbpnjkfaaGreatCFEnc
import Derived.Deep.QuietTactic
import Derived.BigQuiet
import Derived.StillTailTactics
namespace Go.Proofs.YtdaahapbpnjkfaaGreat
open Go.RowKit
def aheadL (V:List (List UInt8)) (f pos:Nat):List UInt8:=(V.getD (f+pos/64) []).take (pos%64)
def filledL (a:List UInt8) (room:Nat):List UInt8:=a++List.replicate (min (a.length/64+1) room*64-a.length) 0
theorem filledL_length {a:List UInt8} {room:Nat} (h:a.length<=room*64):(filledL a room).length=min (a.length/64+1) room*64:=by
 unfold filledL
 rw [List.length_append,List.length_replicate]
 omega
theorem filledL_rows {a:List UInt8} {room:Nat} (h:a.length<=room*64) (h0:0<room):∃ n,(filledL a room).length=(n+1)*64/\n+1<=room/\n<=a.length/64:=
 ⟨min (a.length/64+1) room-1,by rw [filledL_length h];omega,by omega,by omega⟩
theorem aheadL_length {V:List (List UInt8)} {f pos:Nat} (h:∀ r ∈ V,r.length=64) (hl:f+pos/64<V.length):(aheadL V f pos).length=pos%64:=by
 unfold aheadL
 rw [List.getD_eq_getElem?_getD,List.getElem?_eq_getElem hl,Option.getD_some,List.length_take,h _ (List.getElem_mem hl)]
 omega
theorem flat_take {K:List (List UInt8)} (h:∀ r ∈ K,r.length=64) (i:Nat) (hi:i<=K.length):(K.take i).flatten=K.flatten.take (i*64):=by
 have e:K.flatten=(K.take i).flatten++(K.drop i).flatten:=by rw [<-List.flatten_append,List.take_append_drop]
 have hl:=take_flat_length h i hi
 rw [e,<-hl,List.take_left' rfl]
theorem flat_drop {K:List (List UInt8)} (h:∀ r ∈ K,r.length=64) (i:Nat) (hi:i<=K.length):(K.drop i).flatten=K.flatten.drop (i*64):=by
 have e:K.flatten=(K.take i).flatten++(K.drop i).flatten:=by rw [<-List.flatten_append,List.take_append_drop]
 have hl:=take_flat_length h i hi
 rw [e,<-hl,List.drop_left' rfl]
theorem flat_ahead {K:List (List UInt8)} (h:∀ r ∈ K,r.length=64) (pos:Nat) (hi:pos/64<K.length):K.flatten.take (pos/64*64)++aheadL K 0 pos=K.flatten.take pos:=by
 have e1:aheadL K 0 pos=(K.flatten.drop (pos/64*64)).take (pos%64):=by
  rw [<-flat_drop h _ (Nat.le_of_lt hi),List.drop_eq_getElem_cons hi,List.flatten_cons,List.take_append_of_le_length (by rw [h _ (List.getElem_mem hi)];omega)]
  unfold aheadL
  rw [Nat.zero_add,List.getD_eq_getElem?_getD,List.getElem?_eq_getElem hi,Option.getD_some]
 rw [e1,<-List.take_add]
 congr 1
 omega
def laidL (V:List (List UInt8)) (f blocks pos:Nat) (code:List UInt8):List UInt8:=filledL (aheadL V f pos++code) (blocks-pos/64)
theorem laidL_rows {V:List (List UInt8)} {f blocks pos:Nat} {code:List UInt8} (h:∀ r ∈ V,r.length=64) (hf:f+blocks<=V.length) (h0:0<code.length) (hfit:pos+code.length<=blocks*64):
 ∃ n,(laidL V f blocks pos code).length=(n+1)*64/\pos/64+(n+1)<=blocks/\n<=code.length/64+1:=by
 have hl:=aheadL_length h (f:=f) (pos:=pos) (by omega)
 obtain ⟨n,h1,h2,h3⟩:=filledL_rows (a:=aheadL V f pos++code) (room:=blocks-pos/64) (by rw [List.length_append,hl];omega) (by omega)
 refine ⟨n,h1,by omega,?_⟩
 rw [List.length_append,hl] at h3
 omega
theorem laid_bytes {K:List (List UInt8)} {pos:Nat} {code:List UInt8} (h:∀ r ∈ K,r.length=64) (h0:0<code.length) (hfit:pos+code.length<=K.length*64):
 ∃ t,(splice K (pos/64) (rowsOf (laidL K 0 K.length pos code))).flatten=K.flatten.take pos++(code++t)/\(t=[]\/t.head? =some 0):=by
 obtain ⟨n,h1,h2,_⟩:=laidL_rows (f:=0) (blocks:=K.length) h (by omega) h0 hfit
 have hl:=aheadL_length h (f:=0) (pos:=pos) (by omega)
 have hr:(rowsOf (laidL K 0 K.length pos code)).length=n+1:=by rw [rowsOf_length,h1];omega
 have hk:K.flatten.length=K.length*64:=flat_length K h
 refine ⟨List.replicate (min ((aheadL K 0 pos++code).length/64+1) (K.length-pos/64)*64-(aheadL K 0 pos++code).length) 0++K.flatten.drop ((pos/64+(n+1))*64),?_,?_⟩
 · unfold splice
   rw [List.flatten_append,List.flatten_append,flat_take h _ (by omega),rowsOf_flat h1,hr,flat_drop h _ h2,<-flat_ahead h pos (by omega)]
   unfold laidL filledL
   simp only [List.append_assoc]
 · have ha:(aheadL K 0 pos++code).length=pos%64+code.length:=by rw [List.length_append,hl]
   have h1':=h1
   unfold laidL at h1'
   rw [filledL_length (by omega)] at h1'
   generalize hz:min ((aheadL K 0 pos++code).length/64+1) (K.length-pos/64)*64-(aheadL K 0 pos++code).length=z
   rcases Nat.eq_zero_or_pos z with hz0 | hz0
   · left
     subst hz0
     rw [List.drop_eq_nil_of_le (by omega)];rfl
   · right
     obtain ⟨z',rfl⟩:∃ z',z=z'+1:=⟨z-1,by omega⟩
     rw [List.replicate_succ];rfl
theorem same_bytes {K K':List (List UInt8)} {pos:Nat} (h:∀ r ∈ K,r.length=64) (h':∀ r ∈ K',r.length=64) (hl:K'.length=K.length) (hp:pos<K.length*64) (ht:K'.take (pos/64+1)=K.take (pos/64+1)):
 K'.flatten.take (64*(pos/64+1))=K.flatten.take (64*(pos/64+1))/\∃ t,K'.flatten=K.flatten.take pos++t/\t.head? =(K.flatten.drop pos).head? :=by
 have e:K'.flatten.take ((pos/64+1)*64)=K.flatten.take ((pos/64+1)*64):=by
  rw [<-flat_take h _ (by omega),<-flat_take h' _ (by omega),ht]
 have hk:K.flatten.length=K.length*64:=flat_length K h
 have hk':K'.flatten.length=K'.length*64:=flat_length K' h'
 have get:∀ j,j<(pos/64+1)*64->K'.flatten[j]? =K.flatten[j]? :=fun j hj=>by
  have:=congrArg (·[j]?) e
  simpa [List.getElem?_take,hj] using this
 refine ⟨by rw [Nat.mul_comm];exact e,K'.flatten.drop pos,?_,?_⟩
 · have e2:K'.flatten.take pos=K.flatten.take pos:=by
    have:=congrArg (List.take pos) e
    rwa [List.take_take,List.take_take,Nat.min_eq_left (by omega)] at this
   rw [<-e2,List.take_append_drop]
 · rw [List.head?_drop,List.head?_drop]
   exact get pos (by omega)
def framesL (g:Int):Nat->List (List UInt8)->List UInt8
 | _,[]=>[]
 | s,d::ds=>frameL g (s:Int) d++framesL g (s+1) ds
def LogAt (g:Int):Nat->List (List UInt8)->List UInt8->Prop
 | _,[],b=>b=[]\/b.head? =some 0
 | s,d::ds,b=>mayB g (s:Int) d.length=true/\∃ t,b=frameL g (s:Int) d++t/\LogAt g (s+1) ds t
theorem framesL_append (g:Int):∀ (ds es:List (List UInt8)) (s:Nat),framesL g s (ds++es)=framesL g s ds++framesL g (s+ds.length) es
 | [],_,_=>rfl
 | d::ds,es,s=>by
  rw [List.cons_append,framesL,framesL,framesL_append g ds es (s+1),List.append_assoc,List.length_cons,Nat.add_assoc,Nat.add_comm 1]
theorem framesL_seq (g:Int):∀ (ds:List (List UInt8)) (s:Nat),ds.length<=(framesL g s ds).length
 | [],_=>Nat.zero_le _
 | d::ds,s=>by
  have:=framesL_seq g ds (s+1)
  have:=frameL_pos g (s:Int) d
  rw [framesL,List.length_append,List.length_cons];omega
theorem logAt_split {g:Int}:∀ {ds:List (List UInt8)} {s:Nat} {b:List UInt8},LogAt g s ds b->∃ t,b=framesL g s ds++t/\(t=[]\/t.head? =some 0)
 | [],_,b,h=>⟨b,rfl,h⟩
 | d::ds,s,b,⟨_,t,hb,ht⟩=>by
  obtain ⟨u,hu,hh⟩:=logAt_split ht
  exact ⟨u,by rw [hb,hu,framesL,List.append_assoc],hh⟩
theorem logAt_swap {g:Int}:∀ {ds:List (List UInt8)} {s:Nat} {b es:_} {t:List UInt8},LogAt g s ds b->LogAt g (s+ds.length) es t->LogAt g s (ds++es) (framesL g s ds++t)
 | [],_,_,_,_,_,h=>h
 | d::ds,s,b,es,t,⟨hm,u,_,hu⟩,h=>by
  refine ⟨hm,framesL g (s+1) ds++t,by rw [framesL,List.append_assoc],?_⟩
  rw [List.length_cons] at h
  exact logAt_swap hu (by rwa [show s+1+ds.length=s+(ds.length+1) by omega])
theorem logAt_take {g:Int} {ds:List (List UInt8)} {s:Nat} {b:List UInt8} (h:LogAt g s ds b):b.take (framesL g s ds).length=framesL g s ds/\(framesL g s ds).length<=b.length/\(b.drop (framesL g s ds).length=[]\/(b.drop (framesL g s ds).length).head? =some 0):=by
 obtain ⟨t,rfl,ht⟩:=logAt_split h
 exact ⟨List.take_left' rfl,by rw [List.length_append];omega,by rw [List.drop_left' rfl];exact ht⟩
def scanL (g:Int) (s:Nat) (b:List UInt8):List (List UInt8):=
 match h:decF b with
 | none=>[]
 | some f=>if f.1=g/\f.2.1=(s:Int) then f.2.2::scanL g (s+1) (b.drop (frameL f.1 f.2.1 f.2.2).length) else []
termination_by b.length
decreasing_by
 have h1:=decF_fits h
 have h2:=frameL_pos f.1 f.2.1 f.2.2
 rw [List.length_drop];omega
theorem scanL_none {g:Int} {s:Nat} {b:List UInt8} (h:decF b=none):scanL g s b=[]:=by
 rw [scanL]
 split
 · rfl
 · rename_i h';rw [h] at h';cases h'
theorem scanL_some {g:Int} {s:Nat} {b:List UInt8} {f:Int × Int × List UInt8} (h:decF b=some f):scanL g s b=if f.1=g/\f.2.1=(s:Int) then f.2.2::scanL g (s+1) (b.drop (frameL f.1 f.2.1 f.2.2).length) else []:=by
 rw [scanL]
 split
 · rename_i h';rw [h] at h';cases h'
 · rename_i f' h'
   rw [h] at h'
   injection h' with h'
   rw [h']
theorem dec_zero {b:List UInt8} (h:b=[]\/b.head? =some 0):decF b=none:=by
 rcases h with rfl | h
 · exact dec_short (by simp)
 · cases b with
   | nil=>cases h
   | cons x r=>
    rw [List.head?_cons] at h
    injection h with h
    exact dec_mark (by rw [h];decide)
theorem scan_at {g:Int}:∀ {ds:List (List UInt8)} {s:Nat} {b:List UInt8},LogAt g s ds b->scanL g s b=ds
 | [],_,_,h=>scanL_none (dec_zero h)
 | d::ds,s,b,⟨hm,t,hb,ht⟩=>by
  have hd:decF b=some (g,(s:Int),d):=by rw [hb];exact dec_enc hm t
  rw [scanL_some hd,if_pos ⟨rfl,rfl⟩]
  simp only
  rw [hb,List.drop_left' rfl,scan_at ht]
theorem scan_fits (g:Int):∀ (n:Nat) (b:List UInt8) (s:Nat),b.length<=n->(framesL g s (scanL g s b)).length<=b.length
 | 0,b,s,h=>by
  rw [scanL_none (dec_short (by omega))];exact Nat.zero_le _
 | n+1,b,s,h=>by
  rcases hd:decF b with _ | f
  · rw [scanL_none hd];exact Nat.zero_le _
  · rw [scanL_some hd]
    split
    · rename_i hf
      have h1:=decF_fits hd
      have h2:=frameL_pos f.1 f.2.1 f.2.2
      have ih:=scan_fits g n (b.drop (frameL f.1 f.2.1 f.2.2).length) (s+1) (by rw [List.length_drop];omega)
      rw [List.length_drop] at ih
      have e:frameL g (s:Int) f.2.2=frameL f.1 f.2.1 f.2.2:=by rw [hf.1,hf.2]
      rw [framesL,List.length_append,e]
      omega
    · exact Nat.zero_le _
def openL (b:List UInt8):Option (Int × List (List UInt8)):=
 match decF b with
 | none=>none
 | some f=>if f.1<1\/f.2.1≠0 then none else some (f.1,scanL f.1 0 b)
theorem open_at {g:Int} {d:List UInt8} {ds:List (List UInt8)} {b:List UInt8} (h:LogAt g 0 (d::ds) b) (hg:1<=g):openL b=some (g,d::ds):=by
 have hs:=scan_at h
 obtain ⟨hm,t,hb,_⟩:=h
 have hd:decF b=some (g,((0:Nat):Int),d):=by rw [hb];exact dec_enc hm t
 unfold openL
 rw [hd]
 simp only
 rw [if_neg (by omega),hs]
theorem open_some {b:List UInt8} {g:Int} {ds:List (List UInt8)} (h:openL b=some (g,ds)):1<=g/\g<=1152921504606846976/\ds=scanL g 0 b/\ds≠[]:=by
 unfold openL at h
 split at h
 · cases h
 · rename_i f hd
   split at h
   · cases h
   · rename_i hf
     injection h with h
     injection h with h1 h2
     have hm:=mayB_true (decF_some hd).2.1
     subst h1
     refine ⟨by omega,hm.2.1,h2.symm,?_⟩
     rw [<-h2,scanL_some hd,if_pos ⟨rfl,by omega⟩]
     exact List.cons_ne_nil _ _
structure Lg where
 f:Nat
 blocks:Nat
 gen:Int
 seq:Nat
 fin:Nat
 down:Bool
structure Lg.Fits (l:Lg) (s:Dsk):Prop where
 pos:1<=l.blocks
 area:l.f+l.blocks<=s.K.length
 fin:l.fin<=l.blocks*64
 seq:l.seq<=l.fin
 gen1:1<=l.gen
 gen2:l.gen<=1152921504606846976
namespace Lg
def room (l:Lg):Nat:=l.blocks*64-l.fin
def code (l:Lg) (d:List UInt8):List UInt8:=encF l.gen (l.seq:Int) d
def full (l:Lg) (d:List UInt8):Bool:=decide ((l.code d).length=0) || decide (l.room<(l.code d).length)
def laid (l:Lg) (s:Dsk) (d:List UInt8):List UInt8:=laidL s.view l.f l.blocks l.fin (l.code d)
def err (l:Lg) (s:Dsk) (d:List UInt8):Int:=if l.down then 5 else if l.full d then 4 else s.layErr (l.laid s d) (l.f+l.fin/64)
def dsk (l:Lg) (s:Dsk) (d:List UInt8):Dsk:=if l.down || l.full d then s else s.lay (l.laid s d) (l.f+l.fin/64)
def put (l:Lg) (d:List UInt8):Lg:= { l with fin:=l.fin+(l.code d).length,seq:=l.seq+1 }
def next (l:Lg) (s:Dsk) (d:List UInt8):Lg:=if l.down || l.full d then l else if l.err s d=0 then l.put d else { l with down:=true }
def new (f blocks:Nat) (gen:Int):Lg:=⟨f,blocks,gen,0,0,false⟩
def found (f blocks:Nat) (gen:Int) (ds:List (List UInt8)):Lg:=⟨f,blocks,gen,ds.length,(framesL gen 0 ds).length,false⟩
theorem code_fits (l:Lg) (d:List UInt8):(l.code d).length<=65560:=encF_fits _ _ _
theorem full_false {l:Lg} {d:List UInt8} (h:l.full d=false):0<(l.code d).length/\(l.code d).length<=l.room/\mayB l.gen (l.seq:Int) d.length=true/\l.code d=frameL l.gen (l.seq:Int) d:=by
 unfold full at h
 rw [Bool.or_eq_false_iff,decide_eq_false_iff_not,decide_eq_false_iff_not] at h
 have hm:mayB l.gen (l.seq:Int) d.length=true:=by
  cases hm:mayB l.gen (l.seq:Int) d.length
  · exfalso;apply h.1;unfold code;rw [encF_not hm];rfl
  · rfl
 exact ⟨by omega,by omega,hm,encF_may hm⟩
theorem rows {l:Lg} {s:Dsk} {d:List UInt8} (hf:l.Fits s) (ok:s.Ok) (h:l.full d=false):
 ∃ n,(l.laid s d).length=(n+1)*64/\l.fin/64+(n+1)<=l.blocks/\n<=(l.code d).length/64+1:=by
 obtain ⟨h0,h1,_,_⟩:=full_false h
 have h2:=hf.fin
 unfold room at h1
 exact laidL_rows (view_len ok) (by rw [view_length];exact hf.area) h0 (by omega)
theorem Fits.next {l:Lg} {s:Dsk} {d:List UInt8} (hf:l.Fits s):(l.next s d).Fits (l.dsk s d)/\(s.Ok->(l.dsk s d).Ok)/\(l.dsk s d).K.length=s.K.length:=by
 have hK:(l.dsk s d).K.length=s.K.length:=by
  unfold dsk
  split
  · rfl
  · exact Dsk.klen_lay _ _ _
 refine ⟨?_,fun ok=> ?_,hK⟩
 · unfold Lg.next
   split
   · exact ⟨hf.pos,by rw [hK];exact hf.area,hf.fin,hf.seq,hf.gen1,hf.gen2⟩
   · rename_i h
     rw [Bool.or_eq_true,not_or] at h
     have hfull:l.full d=false:=by simpa using h.2
     obtain ⟨h0,h1,_,_⟩:=full_false hfull
     unfold room at h1
     have:=hf.fin
     have:=hf.seq
     split
     · exact ⟨hf.pos,by rw [hK];exact hf.area,by show l.fin+_<=l.blocks*64;omega,by show l.seq+1<=l.fin+_;omega,hf.gen1,hf.gen2⟩
     · exact ⟨hf.pos,by rw [hK];exact hf.area,hf.fin,hf.seq,hf.gen1,hf.gen2⟩
 · unfold dsk
   split
   · exact ok
   · rename_i h
     rw [Bool.or_eq_true,not_or] at h
     obtain ⟨n,h1,h2,_⟩:=rows hf ok (d:=d) (by simpa using h.2)
     have:=hf.area
     exact ok.lay h1 (by omega)
theorem few {l:Lg} {s:Dsk} {d:List UInt8} {m:Nat} (hf:l.Fits s) (ok:s.Ok) (h:s.Few m):(l.dsk s d).Few (m+(l.code d).length/64+4):=by
 unfold dsk
 split
 · exact h.mono (by omega)
 · rename_i hn
   rw [Bool.or_eq_true,not_or] at hn
   obtain ⟨n,h1,h2,h3⟩:=rows hf ok (d:=d) (by simpa using hn.2)
   exact (h.lay h1).mono (by omega)
end Lg
theorem zeroCells_bytes (m:Nat):(Builtin.zeroCells (Value.int .u8 0).cells m).toList=(List.replicate m (0:UInt8)).map bv:=by
 have e:(Value.int .u8 0).cells= #[Value.int .u8 0]:=rfl
 rw [e]
 apply List.ext_getElem
 · simp [Builtin.zeroCells]
 · intro i h1 h2
   simp [Builtin.zeroCells,bv,Nat.mod_one]
section
variable {P:Program} (w:World)
theorem run_append_zeros (base:Nat) (t u ty e:TypeId) (i:TypeInfo) (ht:P.underlying t=some (.slice e)) (hu:P.underlying u=some (.int .i64)) (hi:P.info? e=some i) (hz:i.zero=some (.int .u8 0))
 (hsize:i.size=1) (hby:i.bytes=1)
 (v:Value) (n:Nat) (xs:List Value) (hown:w.ownsRow base e 1 v n xs) (m:Nat) (hb:n+m<=140737488355328) (hbase:base<=w.heap.size):
 ∃ v' w',(Builtin.append_ #[t,u] ty #[v,.int .i64 (m:Int)]).run P w= .ok v' w'/\w'.ownsRow base e 1 v' (n+m) (xs++(List.replicate m (0:UInt8)).map bv)/\w.grownBy w' v.ownBlock:=by
 have wm:IntKind.i64.wrap (m:Int)=(m:Int):=by rw [IntKind.wrap_i64];omega
 have m0: ¬ ((m:Int)<0):=by omega
 have mb: ¬ (281474976710656<(m:Int)):=by omega
 obtain ⟨Z,hZ⟩:∃ Z,Z=Builtin.zeroCells (Value.int .u8 0).cells m:=⟨_,rfl⟩
 have hZl:Z.toList=(List.replicate m (0:UInt8)).map bv:=by rw [hZ];exact zeroCells_bytes m
 have hZs:Z.size=m:=by rw [<-Array.length_toList,hZl];simp
 have h1:∀ u ∈ Z.toList,u.oneCell'=true:=by rw [hZl];exact bytes_one _
 rw [<-hZl]
 have hlen:(xs++Z.toList).length=(n+m)*1:=by rw [List.length_append,hown.1];simp [hZs]
 -- what the growing arm leaves
 have grown:∀ (old:Nat),old<n+m->∀ (row:Option Nat),
  (w.drew.alloc (.cells (xs.toArray++Z++Builtin.zeroCells (Value.int .u8 0).cells (grownCap w (n+m) old e-(n+m))) e)).ownsRow base e 1
   (.slice (some ⟨w.heap.size,0,none⟩) (n+m) (grownCap w (n+m) old e)) (n+m) (xs++Z.toList)/\
  w.grownBy (w.drew.alloc (.cells (xs.toArray++Z++Builtin.zeroCells (Value.int .u8 0).cells (grownCap w (n+m) old e-(n+m))) e)) row:=by
  intro old ho row
  have hge:=grownCap_ge w (n+m) old e
  have hcm:grownCap w (n+m) old e<=maxLen:=grownCap_le_maxLen w (n+m) old e (by unfold maxLen;omega)
  refine ⟨⟨hlen,.inr ⟨w.heap.size,_,_,rfl,hbase,heap_alloc_new w.drew _,hge,hcm,?_,?_⟩⟩,⟨rfl,rfl,rfl,by simp,fun k hk _=>heap_alloc_old w.drew _ hk⟩⟩
  · have hxs:=hown.1
    have e1:(Value.int .u8 0).cells.size=1:=rfl
    simp only [Array.size_append,List.size_toArray,size_zeroCells,hZs,hxs,e1]
    omega
  · simp only [Array.toList_append,List.append_assoc]
    rw [<-List.append_assoc,<-hlen]
    exact List.take_left
 rcases hown.2 with ⟨rfl,rfl⟩ | ⟨g,cap,cur,rfl,hbg,hg,hnc,hcm,hcs,htake⟩
 · have hx:xs=[]:=List.eq_nil_of_length_eq_zero (by simpa using hown.1)
   subst hx
   by_cases hm:m=0
   · subst hm
     have hz0:Z.toList=[]:=List.eq_nil_of_length_eq_zero (by simpa using hZs)
     rw [hz0]
     refine ⟨.slice none 0 0,w,?_,World.ownsRow_nil w base e 1,World.grownBy.refl w _⟩
     simp [Builtin.append_,run_underlying ht,run_underlying hu,sizeOf,typeInfo,hi,asInt,asIntOf,hby,IntKind.wrap_i64]
   · have hgr:=grown 0 (by omega) (Value.ownBlock (.slice none 0 0))
     refine ⟨_,_,?_,hgr.1,hgr.2⟩
     have h63': ¬ (9223372036854775807<(m:Int)):=by omega
     have h48': ¬ (281474976710656<Builtin.nextslicecap m 0):=by rw [nextslicecap_zero (by omega)];omega
     simp [Builtin.append_,run_underlying ht,run_underlying hu,sizeOf,typeInfo,zeroValue,hi,hz,asInt,asIntOf,hby,hsize,wm,m0,mb,hm,h63',h48',Question.forced,run_firstCells_none,newRow,grownCap,hZ]
 · by_cases hroom:n+m<=cap
   · have hfit:n*1+Z.toList.length<=cur.size:=by rw [hcs];simp [hZs];omega
     have hst:=run_storeCells_at P g (n*1) e Z.toList 0 cur w hg (by simpa using hfit) h1
     simp only [Nat.add_zero] at hst
     refine ⟨.slice (some ⟨g,0,none⟩) (n+m) cap,w.setRow g (cur.toList.take (n*1)++Z.toList++cur.toList.drop (n*1+Z.toList.length)).toArray,?_,⟨hlen,.inr ⟨g,cap,_,rfl,hbg,setRow_heap w g cur _ e _ hg,hroom,hcm,?_,?_⟩⟩,⟨rfl,rfl,rfl,by simp,fun k _ hk=>setRow_other w g k _ (fun e=>hk (by simp [Value.ownBlock,e]))⟩⟩
     · by_cases hm:m=0
       · subst hm
         have hz0:Z.toList=[]:=List.eq_nil_of_length_eq_zero (by simpa using hZs)
         rw [hz0] at hst ⊢
         simp [Builtin.append_,run_underlying ht,run_underlying hu,sizeOf,typeInfo,hi,asInt,asIntOf,hby,hsize,IntKind.wrap_i64,Addr.add_lit] at hst ⊢
         simp [hnc,hst]
       · simp only [Nat.mul_one] at hst
         rw [hZ] at hst
         simp [Builtin.append_,run_underlying ht,run_underlying hu,sizeOf,typeInfo,zeroValue,hi,hz,asInt,asIntOf,hby,hsize,wm,m0,mb,hm,hroom,Addr.add_lit,hst,hZ]
     · simp only [List.size_toArray,List.length_append,List.length_take,List.length_drop,Array.length_toList]
       simp only [Array.length_toList] at hfit
       omega
     · rw [htake,<-hlen]
       exact List.take_left
   · have hm:m≠0:=by omega
     have holds:∀ j u,xs[j]? =some u->w.cell? ((⟨g,0,none⟩:Addr).add j)=some u:=hown.cells (g:=g) rfl
     have hgr:=grown cap (by omega) (Value.ownBlock (.slice (some ⟨g,0,none⟩) n cap))
     refine ⟨_,_,?_,hgr.1,hgr.2⟩
     have h63': ¬ (9223372036854775807<((n:Int)+(m:Int))):=by omega
     have h48': ¬ (281474976710656<Builtin.nextslicecap (n+m) cap):=by
      have:=growslice_fits (need:=n+m) (old:=cap) (bytes:=1) (by omega) (by omega)
      omega
     have hfo:=run_firstCells_some (P:=P) w.drew 1 n ⟨g,0,none⟩ n cap xs hown.1 (by simpa using holds)
     simp [Builtin.append_,run_underlying ht,run_underlying hu,sizeOf,typeInfo,zeroValue,hi,hz,asInt,asIntOf,hby,hsize,wm,m0,mb,hm,hroom,h63',h48',Question.forced,hfo,newRow,grownCap,hZ]
theorem wpList_append_zeros {ops:Array Oper} {rest:List Oper} {o:Oper} {a:Act} {Q:Exit->Act->World->Prop} (hgd:o.guard=none) (s x:Operand) (t u:TypeId)
 (ho:o.op= .call { callee:= .builtin .append,args:= #[s,x],argTypes:= #[t,u] })
 (e:TypeId) (i:TypeInfo) (ht:P.underlying t=some (.slice e)) (hu:P.underlying u=some (.int .i64)) (hi:P.info? e=some i) (hz:i.zero=some (.int .u8 0))
 (hsize:i.size=1) (hby:i.bytes=1)
 (w0:World) (v:Value) (d:List UInt8) (m:Nat) (hs:a.eval s=v) (hx:a.eval x= .int .i64 (m:Int))
 (H:Made e w0 d v w) (hb:d.length+m<=140737488355328)
 (h:∀ v' w',Made e w0 (d++List.replicate m 0) v' w'->wpList P ops Q rest (a.put o.dst v') w'):
 wpList P ops Q (o::rest) a w:=by
 refine wpList_plain hgd fun K hK=> ?_
 obtain ⟨v',w',hrun,hown,hg⟩:=run_append_zeros (P:=P) w w0.heap.size t u o.type e i ht hu hi hz hsize hby v d.length (d.map bv) H.1 m hb H.2.size
 unfold Oper.wp execOp
 simp only [ho,resolve,invoke,builtin,Sem.run_bind,Sem.run_pure,Result.andThen_ok,List.map_toArray,List.map_cons,List.map_nil,hs,hx,hrun]
 refine hK _ _ (h v' w' ⟨?_,below_grown H.2 H.2.size H.1 hg⟩)
 rw [List.map_append,List.length_append,List.length_replicate]
 exact hown
end
def areaCells (g:Nat) (f N:Int):List Value:=[.pointer (some ⟨g,0,none⟩),.int .i64 f,.int .i64 N]
theorem area_cells {w:World} {b g:Nat} {f N:Int} {t:TypeId} (h:Blk w b (areaCells g f N) t):w.cell? ⟨b,0,none⟩=some (.pointer (some ⟨g,0,none⟩))/\w.cell? ⟨b,1,none⟩=some (.int .i64 f)/\w.cell? ⟨b,2,none⟩=some (.int .i64 N):=
 ⟨h.cell (i:=0) (by simp [areaCells]),h.cell (i:=1) (by simp [areaCells]),h.cell (i:=2) (by simp [areaCells])⟩
def boxA (w:World) (g:Nat) (f N:Int):World:=w.alloc (.cells #[.pointer (some ⟨g,0,none⟩),.int .i64 f,.int .i64 N] 143)
theorem boxA_blk (w:World) (g:Nat) (f N:Int):Blk (boxA w g f N) w.heap.size (areaCells g f N) 143:=Blk.new w (areaCells g f N) _
theorem boxA_below (w:World) (g:Nat) (f N:Int):Below w.heap.size w (boxA w g f N):=(Below.refl _ _).alloc (Nat.le_refl _) _
theorem Moved.blk {w w':World} {g b:Nat} {F:Nat->Prop} {s:Dsk} {L:List Value} {t:TypeId} (h:Moved w g F s w') (hb:Blk w b L t) (hF: ¬ F b):Blk w' b L t:=by
 obtain ⟨_,_,hs,_⟩:=h
 exact hs.blk hb hF
theorem Moved.before {w w1 w':World} {g:Nat} {F:Nat->Prop} {s:Dsk} (h:Moved w1 g F s w') (hb:Below w.heap.size w w1):Moved w g F s w':=by
 obtain ⟨F',h1,h2,h3⟩:=h
 exact ⟨F',h1,(Spared.of_below hb F).trans h2 (fun _ h=> .inl h),fun k hk=>(h3 k hk).elim .inl (fun h=> .inr (Nat.le_trans hb.size h))⟩
theorem Moved.away {w w':World} {g:Nat} {F:Nat->Prop} {s:Dsk} {A:Option Addr} {l:List UInt8} (h:Moved w g F s w') (ha:Away w F A l):Seen w' A l:=by
 obtain ⟨F',_,h2,h3⟩:=h
 exact (ha.moved h2 h3).seen
set_option maxRecDepth 100000 in
set_option maxHeartbeats 1000000 in
theorem area_put (w:World) (g:Nat) (F:Nat->Prop) (s:Dsk) (f i N:Nat) (B:Option Addr) (b:List UInt8) (c m q:Nat) (h:DiskAt w g F s) (hb:Away w F B b) (hn:b.length=m*64) (hc:m*64<=c) (hi:f+i+m<=s.K.length) (hf:s.Few q) (hq:q+m<=900000):
 Calls Tryz.prog 121 #[.agg #[.pointer (some ⟨g,0,none⟩),.int .i64 (f:Int),.int .i64 (N:Int)],.int .i64 (i:Int),.slice B (m*64) c] w fun e w'=>e= .returned (.int .i64 (s.putErr (f+i) (rowsOf b)))/\Moved w g F (s.putAll (f+i) (rowsOf b)) w':=by
 have hK4:=h.ok.hi
 have OK:=Lib.hid h.ok
 have HR:Hid ((rowsOf b).length=m):=by show _=_;rw [rowsOf_length,hn];omega
 have HRL:=Lib.hid (rowsOf_len b)
 have HRG:Hid (∀ k (h:k<(rowsOf b).length),(rowsOf b)[k]=(b.drop (k*64)).take 64):=fun k h=>rowsOf_get h
 generalize rowsOf b=R at HR HRL HRG ⊢
 have H:=Lib.hid h
 have HA:=Lib.hid hb
 have HN:=Lib.hid hn
 have HF:=Lib.hid hf
 clear h hb hn hf
 by_cases hm:m=0
 · subst hm
   have hR:R=[]:=List.eq_nil_of_length_eq_zero HR.out
   have h1:s.putErr (f+i) R=0:=by unfold Dsk.putErr;rw [if_pos hR]
   have h2:s.putAll (f+i) R=s:=by unfold Dsk.putAll;rw [if_pos hR]
   rw [h1,h2]
   have HB:=Lib.hid (boxA_below w g f N)
   clear h1 h2 hR
   have e0:(0:Nat)*64=0:=rfl
   rw [e0]
   go_enter Tryz.func121,Tryz.ntmps121
   go_wp2
   go_ret
   exact ⟨rfl,.still H.out HB.out⟩
 have hm0:0<m:=by omega
 have HNE:Hid (¬ R=[]):=fun e=>by have:=HR.out;rw [e] at this;simp at this;omega
 have HBX:=Lib.hid (boxA_blk w g f N)
 have HB:=Lib.hid (boxA_below w g f N)
 have HNF:Hid (¬ F w.heap.size):=fun hF=>by have:=H.out.lt _ hF;omega
 have HA1:Hid (Away (boxA w g f N) F B b):=HA.out.moved (.of_below HB.out F) (fun _ h=> .inl h)
 have HM1:Hid (Moved (boxA w g f N) g F s (boxA w g f N)):= .still (H.out.still HB.out) (Below.refl _ _)
 obtain ⟨w1,hw1⟩:∃ w1,w1=boxA w g f N:=⟨_,rfl⟩
 have HW1:=Lib.hid hw1
 rw [<-hw1] at HBX HB HA1 HM1
 clear hw1 HA
 have hm64: ¬ (m:Int)*64=0:=by omega
 have hm64':((m:Int)*64==0)=false:=by rw [beq_eq_false_iff_ne];exact hm64
 have hd64:Int.tdiv ((m:Int)*64) 64=(m:Int):=by rw [Int.tdiv_eq_ediv_of_nonneg (by omega)];omega
 go_enter Tryz.func121,Tryz.ntmps121
 go_wp2
 go_loopw [16] (fun a wr=>∃ k:Nat,k<=m/\a= .int .i64 k/\Moved w1 g F (s.puts (f+i) (R.take k)) wr/\(s.puts (f+i) (R.take k)).Few (q+k)) (fun a _=>m-(intOf a).toNat)
 case atStart=>
  refine ⟨0,Nat.zero_le _,rfl,?_,HF.out⟩
  have:=HM1.out
  rw [HW1.out] at this ⊢
  exact this
 case round=>
  clear HM1 hm64 hm64' hd64
  obtain ⟨k,hk,rfl,hmv,hfew⟩:=hrel
  have HM:=Lib.hid hmv
  have HFW:=Lib.hid hfew
  obtain ⟨c0,c1,c2⟩:=area_cells (hmv.blk HBX.out HNF.out)
  clear hmv hfew
  by_cases hlt:k<m
  · have hkl:(k:Int)<(m:Int):=by omega
    have hkR:k<R.length:=by rw [HR.out];exact hlt
    obtain ⟨A',c',hcut,hs',hl'⟩:=(HM.out.away HA1.out).mid_cut (m*64) c (k*64) ((k+1)*64) 64 ((k:Int)*64) (((k:Int)+1)*64) (by omega) (by omega) (by omega) HN.out (by omega) (by omega) hc
    have e64:((m*64:Nat):Int)=(m:Int)*64:=by omega
    have HPW:=Lib.hid (Dsk.wput_pw (s:=s.puts (f+i) (R.take k)) (i:=f+i+k) (l:=(b.drop (k*64)).take 64) (by rw [Dsk.puts_K];omega) hl')
    have HST:=Lib.hid (Dsk.puts_step (s:=s) (i:=f+i) hkR)
    rw [HRG.out k hkR] at HST
    have HSTOP:=Lib.hid (fun h=>Dsk.puts_stop (s:=s) (i:=f+i) (R:=R) (k:=k) h)
    have HFP:=Lib.hid (HFW.out.pw (f+i+k) ((b.drop (k*64)).take 64))
    generalize hst:s.puts (f+i) (R.take k)=st at *
    have HL':=Lib.hid hl'
    have HS':=Lib.hid hs'
    generalize (b.drop (k*64)).take 64=x at *
    have HW:Hid (Calls Tryz.prog 143 #[.pointer (some ⟨g,0,none⟩),.int .i64 ((f:Int)+(i:Int)+(k:Int)),.slice A' 64 c'] wr fun e w'=>e= .returned (.int .i64 (if st.off then 5 else 0))/\Moved w1 g F (st.pw (f+i+k) x) w'):=by
     obtain ⟨F',hd,hs2,hf2⟩:=HM.out
     have:=write_all wr g F' st ((f+i+k:Nat):Int) A' x 64 c' hd HL'.out (by decide) HS'.out (HFW.out.mono (by omega))
     rw [HPW.out.1,HPW.out.2,show ((f+i+k:Nat):Int)=(f:Int)+(i:Int)+(k:Int) by omega] at this
     exact this.mono fun e w' ⟨he,hmv⟩=>⟨he,.trans hs2 hf2 hmv⟩
    clear hst hl' hs' HPW HL' HS' hkR
    by_cases ho:st.off=true
    · have HE:Hid (s.putErr (f+i) R=5/\s.putAll (f+i) R=st):=by
       have e:=HSTOP.out ho
       unfold Dsk.putErr Dsk.putAll
       rw [if_neg HNE.out,if_neg HNE.out,e,if_pos ho]
       exact ⟨rfl,by unfold Dsk.sput;rw [if_pos ho]⟩
      have HPO:Hid (st.pw (f+i+k) x=st):=Dsk.pw_off ho _ _
      rw [HPO.out,if_pos ho] at HW
      clear ho HSTOP HST HFP HPO
      go_wp2_with (go_at_call 143;refine HW.out.mono ?_;rintro e w6 ⟨rfl,hp6⟩;have P6:=Lib.hid hp6;clear hp6)
      go_ret
      rw [HE.out.1,HE.out.2]
      exact ⟨rfl,P6.out.before HB.out⟩
    · have ho':st.off=false:=by cases hs:st.off<;>simp_all
      rw [ho'] at HW
      have HW':Hid (Calls Tryz.prog 143 #[.pointer (some ⟨g,0,none⟩),.int .i64 ((f:Int)+(i:Int)+(k:Int)),.slice A' 64 c'] wr fun e w'=>e= .returned (.int .i64 0)/\Moved w1 g F (st.pw (f+i+k) x) w'):=HW.out
      clear ho ho' HSTOP HW
      go_wp2_with (go_at_call 143;refine HW'.out.mono ?_;rintro e w6 ⟨rfl,hp6⟩;have P6:=Lib.hid hp6;clear hp6)
      go_roundw
      case rel=>exact ⟨k+1,by omega,by go_num,by rw [HST.out];exact P6.out,by rw [HST.out];exact HFP.out⟩
      case measure=>simp [intOf];omega
  · obtain rfl:k=m:=by omega
    have ht:R.take k=R:=List.take_of_length_le (by rw [HR.out];exact Nat.le_refl _)
    rw [ht] at HM HFW
    have HE:Hid (s.putErr (f+i) R=(if (s.puts (f+i) R).off then 5 else 0)/\s.putAll (f+i) R=(s.puts (f+i) R).sput):=by
     unfold Dsk.putErr Dsk.putAll
     rw [if_neg HNE.out,if_neg HNE.out]
     exact ⟨rfl,rfl⟩
    generalize s.puts (f+i) R=st at *
    have HS:Hid (Calls Tryz.prog 144 #[.pointer (some ⟨g,0,none⟩)] wr fun e w'=>e= .returned (.int .i64 (if st.off then 5 else 0))/\Moved w1 g F st.sput w'):=by
     obtain ⟨F',hd,hs2,hf2⟩:=HM.out
     exact (sync_all wr g F' st hd (HFW.out.mono (by omega))).mono fun e w' ⟨he,hmv⟩=>⟨he,.trans hs2 hf2 hmv⟩
    obtain ⟨E,hE⟩:∃ E:Int,E=if st.off then 5 else 0:=⟨_,rfl⟩
    rw [<-hE] at HE HS
    clear ht hE
    go_wp2_with (go_at_call 144;refine HS.out.mono ?_;rintro e w6 ⟨rfl,hp6⟩;have P6:=Lib.hid hp6;clear hp6)
    go_ret
    rw [HE.out.1,HE.out.2]
    exact ⟨rfl,P6.out.before HB.out⟩
end Go.Proofs.YtdaahapbpnjkfaaGreat
