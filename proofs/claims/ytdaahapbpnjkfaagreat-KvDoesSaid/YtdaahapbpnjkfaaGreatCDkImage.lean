/-
Of a disk, Image; the bytes of a block (the law's own helper). Conditions: as each says.
-/
import Derived.Test.YtdaahapbpnjkfaaGreatChecked
import Derived.Test.YtdaahapbpnjkfaaGreatCFEnc
namespace Go.Proofs.YtdaahapbpnjkfaaGreat
open Go.RowKit
structure Dsk where
 K:List (List UInt8)
 M:List (Nat × List UInt8)
 off:Bool
 left:Nat
 calls:Nat
namespace Dsk
structure Ok (s:Dsk):Prop where
 len:∀ r ∈ s.K,r.length=64
 num:∀ p ∈ s.M,p.1<s.K.length
 mem:∀ p ∈ s.M,p.2.length=64
 hi:s.K.length<=4096
def did (s:Dsk):Dsk:= { s with calls:=s.calls+1,left:=s.left-1,off:=if 0<s.left then decide (s.left=1) else s.off }
def arm (s:Dsk) (n:Int):Dsk:=if s.off then s else { s with left:=n.toNat,off:=decide (n<1) }
end Dsk
def kept (pick:Nat->Bool) (M:List (Nat × List UInt8)) (K:List (List UInt8)):Nat->List (List UInt8)
 | 0=>K
 | k+1=>match M[k]? with
  | some p=>if pick k then (kept pick M K k).set p.1 p.2 else kept pick M K k
  | none=>kept pick M K k
theorem kept_step {pick:Nat->Bool} {M:List (Nat × List UInt8)} {K:List (List UInt8)} {k:Nat} (h:k<M.length):
 kept pick M K (k+1)=if pick k then (kept pick M K k).set M[k].1 M[k].2 else kept pick M K k:=by
 simp only [kept];rw [List.getElem?_eq_getElem h]
theorem kept_length (pick:Nat->Bool) (M:List (Nat × List UInt8)) (K:List (List UInt8)):∀ n,(kept pick M K n).length=K.length
 | 0=>rfl
 | n+1=>by
  have ih:=kept_length pick M K n
  simp only [kept]
  split
  · split
    · rw [List.length_set];exact ih
    · exact ih
  · exact ih
theorem kept_len {pick:Nat->Bool} {M:List (Nat × List UInt8)} {K:List (List UInt8)} (hM:∀ p ∈ M,p.2.length=64) (hK:∀ r ∈ K,r.length=64):∀ n,∀ r ∈ kept pick M K n,r.length=64
 | 0=>hK
 | n+1=>by
  have ih:=kept_len (pick:=pick) hM hK n
  intro r hr
  simp only [kept] at hr
  split at hr
  · rename_i p hp
    split at hr
    · rcases List.mem_or_eq_of_mem_set hr with h | rfl
      · exact ih r h
      · exact hM p (List.mem_of_getElem? hp)
    · exact ih r hr
  · exact ih r hr
def pickOf (picks:List Int) (k:Nat):Bool:=decide (0<picks.length)&&decide ((picks.getD (k%picks.length) 0).tmod 2≠0)
namespace Dsk
def sync (s:Dsk):Dsk:=did { s with K:=kept (fun _=>true) s.M s.K s.M.length,M:=[] }
def crash (s:Dsk) (pick:Nat->Bool):Dsk:= { s with K:=kept pick s.M s.K s.M.length,M:=[],off:=false,left:=0 }
def write (s:Dsk) (i:Nat) (b:List UInt8):Dsk:=did { s with M:=s.M++[(i,b)] }
def Last (s:Dsk) (i:Nat) (x:List UInt8):Prop:=
 (∃ k,∃ h:k<s.M.length,s.M[k].1=i/\s.M[k].2=x/\∀ j (hj:j<s.M.length),k<j->s.M[j].1≠i)\/((∀ j (hj:j<s.M.length),s.M[j].1≠i)/\s.K[i]? =some x)
theorem Last.length {s:Dsk} (ok:s.Ok) {i:Nat} {x:List UInt8} (h:s.Last i x):x.length=64:=by
 rcases h with ⟨k,hk,_,rfl,_⟩ | ⟨_,h⟩
 · exact ok.mem _ (List.getElem_mem hk)
 · exact ok.len _ (List.mem_of_getElem? h)
theorem Ok.write {s:Dsk} (h:s.Ok) {i:Nat} {b:List UInt8} (hi:i<s.K.length) (hb:b.length=64):(s.write i b).Ok:=
 ⟨h.len,fun p hp=>by
  rcases List.mem_append.1 hp with h1 | h1
  · exact h.num p h1
  · rw [List.mem_singleton.1 h1];exact hi,fun p hp=>by
  rcases List.mem_append.1 hp with h1 | h1
  · exact h.mem p h1
  · rw [List.mem_singleton.1 h1];exact hb,h.hi⟩
theorem Ok.sync {s:Dsk} (h:s.Ok):s.sync.Ok:=
 ⟨kept_len h.mem h.len _,fun p hp=>by simp [Dsk.sync,Dsk.did] at hp,fun p hp=>by simp [Dsk.sync,Dsk.did] at hp,by show (kept _ _ _ _).length<=_;rw [kept_length];exact h.hi⟩
theorem Ok.crash {s:Dsk} (h:s.Ok) (pick:Nat->Bool):(s.crash pick).Ok:=
 ⟨kept_len h.mem h.len _,fun p hp=>by simp [Dsk.crash] at hp,fun p hp=>by simp [Dsk.crash] at hp,by show (kept _ _ _ _).length<=_;rw [kept_length];exact h.hi⟩
end Dsk
def dkCells (gd n:Nat) (v:Value) (off:Bool) (left calls:Nat):List Value:=[.slice (some ⟨gd,0,none⟩) n n,v,.bool off,.int .i64 (left:Int),.int .i64 (calls:Int)]
def dcell (p:Nat × List UInt8):List Value:= .int .i64 (p.1:Int)::p.2.map bv
def krows (K:List (List UInt8)):List (List Value):=K.map (·.map bv)
theorem krows_len {K:List (List UInt8)} (h:∀ r ∈ K,r.length=64):∀ r ∈ krows K,r.length=64:=fun r hr=>by
 obtain ⟨x,hx,rfl⟩:=List.mem_map.1 hr
 rw [List.length_map];exact h x hx
theorem wrows_len {M:List (Nat × List UInt8)} (h:∀ p ∈ M,p.2.length=64):∀ r ∈ M.map dcell,r.length=65:=fun r hr=>by
 obtain ⟨x,hx,rfl⟩:=List.mem_map.1 hr
 simp [dcell,h x hx]
def DiskIn (w:World) (g gd:Nat) (v:Value) (F:Nat->Prop) (s:Dsk):Prop:=
 Blk w g (dkCells gd s.K.length v s.off s.left s.calls) 79/\Blk w gd (krows s.K).flatten 81/\w.ownsRow 0 115 65 v s.M.length (s.M.map dcell).flatten/\
 F g/\F gd/\(∀ k,v.ownBlock=some k->F k/\k≠g/\k≠gd)/\g≠gd/\(∀ k,F k->k<w.heap.size)/\s.Ok
def DiskAt (w:World) (g:Nat) (F:Nat->Prop) (s:Dsk):Prop:=∃ gd v,DiskIn w g gd v F s
def Moved (w:World) (g:Nat) (F:Nat->Prop) (s:Dsk) (w':World):Prop:=
 ∃ F',DiskAt w' g F' s/\Spared w w' F/\∀ k,F' k->F k\/w.heap.size<=k
section
variable {w w':World} {g gd:Nat} {v:Value} {F:Nat->Prop} {s:Dsk}
theorem DiskIn.at_ (h:DiskIn w g gd v F s):DiskAt w g F s:=⟨gd,v,h⟩
theorem own_kept {base size n:Nat} {e:TypeId} {xs:List Value} (h:w.ownsRow base e size v n xs) (hk:∀ k,v.ownBlock=some k->k<w.heap.size->w'.heap[k]? =w.heap[k]?):w'.ownsRow base e size v n xs:=by
 refine ⟨h.1,?_⟩
 rcases h.2 with h0 | ⟨g,cap,cur,rfl,hb,hg,rest⟩
 · exact .inl h0
 · refine .inr ⟨g,cap,cur,rfl,hb,?_,rest⟩
   rw [hk g rfl (h.lt g rfl).2,hg]
theorem DiskIn.still (h:DiskIn w g gd v F s) (hb:Below w.heap.size w w'):DiskIn w' g gd v F s:=by
 obtain ⟨h1,h2,h3,h4,h5,h6,h7,h8,h9⟩:=h
 exact ⟨h1.below hb h1.lt,h2.below hb h2.lt,own_kept h3 (fun k _ hk=>hb.block k hk),h4,h5,h6,h7,fun k hk=>Nat.lt_of_lt_of_le (h8 k hk) hb.size,h9⟩
theorem DiskAt.still (h:DiskAt w g F s) (hb:Below w.heap.size w w'):DiskAt w' g F s:=by
 obtain ⟨gd,v,h⟩:=h
 exact ⟨gd,v,h.still hb⟩
theorem DiskAt.apart {G:Nat->Prop} (h:DiskAt w g F s) (hs:Spared w w' G) (hG:∀ k,F k-> ¬ G k):DiskAt w' g F s:=by
 obtain ⟨gd,v,h1,h2,h3,h4,h5,h6,h7,h8,h9⟩:=h
 exact ⟨gd,v,hs.blk h1 (hG g h4),hs.blk h2 (hG gd h5),own_kept h3 (fun k hv hk=>hs.block k hk (hG k (h6 k hv).1)),h4,h5,h6,h7,fun k hk=>Nat.lt_of_lt_of_le (h8 k hk) hs.size,h9⟩
theorem DiskAt.ok (h:DiskAt w g F s):s.Ok:=by obtain ⟨_,_,h⟩:=h;exact h.2.2.2.2.2.2.2.2
theorem DiskAt.lt (h:DiskAt w g F s):∀ k,F k->k<w.heap.size:=by obtain ⟨_,_,h⟩:=h;exact h.2.2.2.2.2.2.2.1
theorem Moved.still (h:DiskAt w g F s) (hb:Below w.heap.size w w'):Moved w g F s w':=⟨F,h.still hb,.of_below hb F,fun _ h=> .inl h⟩
theorem Moved.trans {w'':World} {s':Dsk} {F':Nat->Prop} (hs:Spared w w' F) (hF:∀ k,F' k->F k\/w.heap.size<=k) (h:Moved w' g F' s' w''):Moved w g F s' w'':=by
 obtain ⟨F2,h1,h2,h3⟩:=h
 refine ⟨F2,h1,hs.trans h2 hF,fun k hk=> ?_⟩
 rcases h3 k hk with h | h
 · exact hF k h
 · exact .inr (Nat.le_trans hs.size h)
theorem own_form65 {base size n:Nat} {e:TypeId} {xs:List Value} (h:w.ownsRow base e size v n xs):∃ A c,v= .slice A n c/\n<=c/\c<=maxLen/\(0<n->∃ gc,A=some ⟨gc,0,none⟩):=by
 rcases h.2 with ⟨rfl,h0⟩ | ⟨g,cap,cur,rfl,_,_,h1,h2,_⟩
 · exact ⟨none,0,by rw [h0],by omega,by simp,fun h=>by omega⟩
 · exact ⟨_,_,rfl,h1,h2,fun _=>⟨g,rfl⟩⟩
theorem DiskIn.cells (h:DiskIn w g gd v F s):w.cell? ⟨g,0,none⟩=some (.slice (some ⟨gd,0,none⟩) s.K.length s.K.length)/\w.cell? ⟨g,1,none⟩=some v/\w.cell? ⟨g,2,none⟩=some (.bool s.off)/\w.cell? ⟨g,3,none⟩=some (.int .i64 (s.left:Int))/\w.cell? ⟨g,4,none⟩=some (.int .i64 (s.calls:Int)):=by
 obtain ⟨h1,_⟩:=h
 exact ⟨h1.cell (i:=0) (by simp [dkCells]),h1.cell (i:=1) (by simp [dkCells]),h1.cell (i:=2) (by simp [dkCells]),h1.cell (i:=3) (by simp [dkCells]),h1.cell (i:=4) (by simp [dkCells])⟩
theorem DiskIn.free (h:DiskIn w g gd v F s) (i:Nat):w.frozen? ⟨g,i,none⟩=false:=h.1.free i
theorem DiskIn.put (h:DiskIn w g gd v F s) (i:Nat) (u:Value) {s':Dsk} {v':Value} (hc:(dkCells gd s.K.length v s.off s.left s.calls).set i u=dkCells gd s'.K.length v' s'.off s'.left s'.calls) (hK:s'.K=s.K) (hM:v'=v/\s'.M=s.M\/v'= .slice none 0 0/\s'.M=[]):DiskIn (w.setCell ⟨g,i,none⟩ u) g gd v' F s':=by
 obtain ⟨h1,h2,h3,h4,h5,h6,h7,h8,h9⟩:=h
 refine ⟨?_,?_,?_,h4,h5,?_,h7,fun k hk=>by simpa [World.setCell] using h8 k hk,?_⟩
 · rw [<-hc];exact h1.set i u
 · rw [hK];exact h2.other _ _ (fun e=>h7 e.symm)
 · rcases hM with ⟨rfl,hM⟩ | ⟨rfl,hM⟩
   · rw [hM]
     exact own_kept h3 (fun k hv _=>heap_setCell_other w ⟨g,i,none⟩ k u (fun e=>(h6 k hv).2.1 e))
   · rw [hM];exact World.ownsRow_nil _ _ _ _
 · rcases hM with ⟨rfl,_⟩ | ⟨rfl,_⟩
   · exact h6
   · intro k hk;cases hk
 · refine ⟨by rw [hK];exact h9.len,?_,?_,by rw [hK];exact h9.hi⟩
   · rcases hM with ⟨_,hM⟩ | ⟨_,hM⟩<;>rw [hM]
     · rw [hK];exact h9.num
     · intro p hp;simp at hp
   · rcases hM with ⟨_,hM⟩ | ⟨_,hM⟩<;>rw [hM]
     · exact h9.mem
     · intro p hp;simp at hp
theorem DiskIn.store (h:DiskIn w g gd v F s) (i:Nat) (hi:i<s.K.length) (x:List UInt8) (hx:x.length=64):DiskIn (w.setCells gd (i*64) (x.map bv)) g gd v F { s with K:=s.K.set i x }:=by
 obtain ⟨h1,h2,h3,h4,h5,h6,h7,h8,h9⟩:=h
 have hs:Spared w (w.setCells gd (i*64) (x.map bv)) (· =gd):=Spared.setCells (F:=(· =gd)) rfl _ _ _ (.refl w _)
 refine ⟨?_,?_,?_,h4,h5,h6,h7,fun k hk=>Nat.lt_of_lt_of_le (h8 k hk) hs.size,?_⟩
 · show Blk _ _ (dkCells gd (s.K.set i x).length _ _ _ _) _
   rw [List.length_set];exact blk_away _ _ _ h1 h7
 · have:=flat_store h2 (krows_len h9.len) i (by simpa [krows] using hi) (x.map bv) (by simpa using hx)
   show Blk _ _ (krows (s.K.set i x)).flatten _
   unfold krows at this ⊢
   rwa [List.map_set]
 · exact own_kept h3 (fun k hv hk=>hs.block k hk (h6 k hv).2.2)
 · refine ⟨fun r hr=> ?_,?_,h9.mem,?_⟩
   · rcases List.mem_or_eq_of_mem_set hr with h | rfl
     · exact h9.len r h
     · exact hx
   · intro p hp;show p.1<(s.K.set i x).length;rw [List.length_set];exact h9.num p hp
   · show (s.K.set i x).length<=_;rw [List.length_set];exact h9.hi
theorem DiskIn.laid (h:DiskIn w g gd v F s) (i:Nat) (hi:i<s.K.length) (x:List UInt8) (hx:x.length=64) (hb:Blk w' gd (splice (krows s.K).flatten (i*64) (x.map bv)) 81) (hg:w.grownBy w' (some gd)):DiskIn w' g gd v F { s with K:=s.K.set i x }:=by
 obtain ⟨h1,h2,h3,h4,h5,h6,h7,h8,h9⟩:=h
 have hs:Spared w w' (· =gd):= .of_grown hg (fun k e _=>by injection e with e;exact e.symm)
 refine ⟨?_,?_,?_,h4,h5,h6,h7,fun k hk=>Nat.lt_of_lt_of_le (h8 k hk) hs.size,?_⟩
 · show Blk _ _ (dkCells gd (s.K.set i x).length _ _ _ _) _
   rw [List.length_set];exact hs.blk h1 h7
 · rw [flat_set _ _ _ (by simpa [krows] using hi) (krows_len h9.len) (by simpa using hx)] at hb
   show Blk _ _ (krows (s.K.set i x)).flatten _
   unfold krows at hb ⊢
   rwa [List.map_set]
 · exact own_kept h3 (fun k hv hk=>hs.block k hk (h6 k hv).2.2)
 · refine ⟨fun r hr=> ?_,?_,h9.mem,?_⟩
   · rcases List.mem_or_eq_of_mem_set hr with h | rfl
     · exact h9.len r h
     · exact hx
   · intro p hp;show p.1<(s.K.set i x).length;rw [List.length_set];exact h9.num p hp
   · show (s.K.set i x).length<=_;rw [List.length_set];exact h9.hi
theorem DiskIn.cache {gc c n:Nat} (h:DiskIn w g gd (.slice (some ⟨gc,0,none⟩) n c) F s) (k:Nat) (hk:k<s.M.length):
 w.rangeAt gc (k*65) (dcell s.M[k])/\w.cell? ⟨gc,k*65,none⟩=some (.int .i64 (s.M[k].1:Int))/\w.rangeAt gc (k*65+1) (s.M[k].2.map bv):=by
 obtain ⟨_,_,h3,_,_,_,_,_,ok⟩:=h
 have hr:w.rangeAt gc (k*65) (dcell s.M[k]):=fun j v hv=>by
  obtain ⟨hj,hju⟩:=List.getElem?_eq_some_iff.1 hv
  have hk':k<(s.M.map dcell).length:=by simpa using hk
  have e:=flat_at (s.M.map dcell) k j hk' (wrows_len ok.mem) (by simpa using hj)
  have hc:=h3.cells (g:=gc) rfl (k*65+j) _ e
  rw [add_plain,Nat.zero_add] at hc
  rw [hc,<-hju]
  simp
 refine ⟨hr,?_,fun j v hv=> ?_⟩
 · have:=hr 0 (.int .i64 (s.M[k].1:Int)) rfl
   simpa using this
 · have:=hr (j+1) v (by simpa [dcell] using hv)
   rwa [show k*65+(j+1)=k*65+1+j by omega] at this
theorem DiskIn.durable (h:DiskIn w g gd v F s) (i:Nat) (hi:i<s.K.length):w.rangeAt gd (i*64) (s.K[i].map bv)/\w.there gd (i*64) 64:=by
 obtain ⟨_,h2,_,_,_,_,_,_,ok⟩:=h
 have hi':i<(krows s.K).length:=by simpa [krows] using hi
 have h1:=flat_range h2 (krows_len ok.len) i hi'
 refine ⟨?_,flat_there h2 (krows_len ok.len) i hi'⟩
 simpa [krows] using h1
end
section
variable {w:World} {g:Nat} {F:Nat->Prop} {s:Dsk}
theorem blocks_any (h:DiskAt w g F s):Calls Tryz.prog 63 #[.pointer (some ⟨g,0,none⟩)] w fun e w'=>e= .returned (.int .i64 (s.K.length:Int))/\w'=w:=by
 obtain ⟨gd,v,h⟩:=h
 obtain ⟨c0,_⟩:=h.cells
 go_enter Tryz.func63,Tryz.ntmps63
 go_wp2
 go_ret
 exact ⟨rfl,rfl⟩
theorem on_any (h:DiskAt w g F s):Calls Tryz.prog 59 #[.pointer (some ⟨g,0,none⟩)] w fun e w'=>e= .returned (.bool (!s.off))/\w'=w:=by
 obtain ⟨gd,v,h⟩:=h
 obtain ⟨_,_,c2,_⟩:=h.cells
 go_enter Tryz.func59,Tryz.ntmps59
 go_wp2
 go_ret
 exact ⟨rfl,rfl⟩
theorem calls_any (h:DiskAt w g F s):Calls Tryz.prog 22 #[.pointer (some ⟨g,0,none⟩)] w fun e w'=>e= .returned (.int .i64 (s.calls:Int))/\w'=w:=by
 obtain ⟨gd,v,h⟩:=h
 obtain ⟨_,_,_,_,c4⟩:=h.cells
 go_enter Tryz.func22,Tryz.ntmps22
 go_wp2
 go_ret
 exact ⟨rfl,rfl⟩
theorem has_any (h:DiskAt w g F s) (i:Int):Calls Tryz.prog 157 #[.pointer (some ⟨g,0,none⟩),.int .i64 i] w fun e w'=>e= .returned (.bool (decide (0<=i/\i<s.K.length)))/\w'=w:=by
 have H:=Lib.hid h
 clear h
 by_cases h0:0<=i
 · go_enter Tryz.func157,Tryz.ntmps157
   go_wp2_with (go_at_call 63;refine (blocks_any H.out).mono ?_;rintro e w' ⟨rfl,rfl⟩)
   go_ret
   refine ⟨?_,rfl⟩
   simp [h0]
 · go_enter Tryz.func157,Tryz.ntmps157
   go_wp2
   go_ret
   refine ⟨?_,rfl⟩
   have e:(decide (0<=i)&&decide (i<(s.K.length:Int)))=false:=by rw [decide_eq_false (by omega)];rfl
   rw [e]
   rfl
end
theorem performed_any (w:World) (g gd:Nat) (v:Value) (F:Nat->Prop) (s:Dsk) (h:DiskIn w g gd v F s) (hc:s.calls+1<9223372036854775808) (hl:s.left<9223372036854775808):
 Calls Tryz.prog 164 #[.pointer (some ⟨g,0,none⟩)] w fun e w'=>e= .returned (.tuple #[])/\DiskIn w' g gd v F s.did/\Spared w w' F:=by
 obtain ⟨_,_,c2,c3,c4⟩:=h.cells
 have f2:=h.free 2
 have f3:=h.free 3
 have f4:=h.free 4
 have H:=Lib.hid h
 clear h
 have e1:(s.calls:Int)+1=((s.calls+1:Nat):Int):=by omega
 by_cases h0:0<s.left
 · have e2:(s.left:Int)-1=((s.left-1:Nat):Int):=by omega
   have e3:(((s.left-1:Nat):Int)==0)=decide (s.left=1):=by rw [Bool.eq_iff_iff,beq_iff_eq,decide_eq_true_iff];omega
   have hd:(s.did).off=decide (s.left=1):=by simp [Dsk.did,h0]
   have H3:=((H.out.put 4 (.int .i64 ((s.calls+1:Nat):Int)) (s':= { s with calls:=s.calls+1 }) (v':=v) rfl rfl (.inl ⟨rfl,rfl⟩)).put 3 (.int .i64 ((s.left-1:Nat):Int)) (s':= { s with calls:=s.calls+1,left:=s.left-1 }) (v':=v) rfl rfl (.inl ⟨rfl,rfl⟩)).put 2 (.bool (decide (s.left=1))) (s':=s.did) (v':=v) (by rw [hd];rfl) rfl (.inl ⟨rfl,rfl⟩)
   have H3:=Lib.hid H3
   have E1:=Lib.hid e1
   have E2:=Lib.hid e2
   have E3:=Lib.hid e3
   clear e1 e2 e3 hd
   go_enter Tryz.func164,Tryz.ntmps164
   go_wp2
   go_end0
   rw [E1.out,E2.out,E3.out]
   have hF:=H.out.2.2.2.1
   exact ⟨rfl,H3.out,(((Spared.refl w F).setCell hF _ _).setCell hF _ _).setCell hF _ _⟩
 · have hd:(s.did).off=s.off/\s.did.left=s.left:=⟨by simp [Dsk.did,h0],by show s.left-1=s.left;omega⟩
   have H3:=(H.out.put 4 (.int .i64 ((s.calls+1:Nat):Int)) (s':=s.did) (v':=v) (by rw [hd.1,hd.2];rfl) rfl (.inl ⟨rfl,rfl⟩))
   have H3:=Lib.hid H3
   have E1:=Lib.hid e1
   clear e1 hd
   have c3':w.cell? ⟨g,3,none⟩=some (.int .i64 (0:Int)):=by rw [c3];congr 2;omega
   clear c3
   go_enter Tryz.func164,Tryz.ntmps164
   go_wp2
   go_end0
   rw [E1.out]
   exact ⟨rfl,H3.out,(Spared.refl w F).setCell H.out.2.2.2.1 _ _⟩
theorem arm_any (w:World) (g:Nat) (F:Nat->Prop) (s:Dsk) (n:Int) (h:DiskAt w g F s):
 Calls Tryz.prog 17 #[.pointer (some ⟨g,0,none⟩),.int .i64 n] w fun e w'=>e= .returned (.tuple #[])/\Moved w g F (s.arm n) w':=by
 have hat:=Lib.hid h
 obtain ⟨gd,v,h⟩:=h
 have f2:=h.free 2
 have f3:=h.free 3
 obtain ⟨_,_,c2,c3,_⟩:=h.cells
 have H:=Lib.hid h
 clear h
 by_cases h0:s.off=true
 · have ho:(!s.off)=false:=by rw [h0];rfl
   have ha:s.arm n=s:=by unfold Dsk.arm;rw [if_pos h0]
   rw [ha]
   clear h0 ha
   go_enter Tryz.func17,Tryz.ntmps17
   go_wp2_with (go_at_call 59;refine (on_any hat.out).mono ?_;rintro e w' ⟨rfl,rfl⟩;rw [ho])
   (try simp only [Exit.inBlock,Exit.then]);refine bodyPost_ret (results_none rfl _ _ _) rfl ?_
   exact ⟨rfl,.still hat.out (Below.refl _ _)⟩
 · have ho:(!s.off)=true:=by cases hs:s.off<;>simp_all
   have ha:s.arm n= { s with left:=n.toNat,off:=decide (n<1) }:=by unfold Dsk.arm;rw [if_neg h0]
   rw [ha]
   have H4:=Lib.hid ((H.out.put 3 (.int .i64 ((n.toNat:Nat):Int)) (s':= { s with left:=n.toNat }) (v':=v) rfl rfl (.inl ⟨rfl,rfl⟩)).put 2 (.bool (decide (n<1))) (s':= { s with left:=n.toNat,off:=decide (n<1) }) (v':=v) rfl rfl (.inl ⟨rfl,rfl⟩))
   have hF:=H.out.2.2.2.1
   clear h0 ha
   go_enter Tryz.func17,Tryz.ntmps17
   go_wp2_with (go_at_call 59;refine (on_any hat.out).mono ?_;rintro e w' ⟨rfl,rfl⟩;rw [ho])
   · rename_i h
     have e:((n.toNat:Nat):Int)=0:=by omega
     rw [e] at H4
     go_end0
     exact ⟨rfl,_,⟨_,_,H4.out⟩,(((Spared.refl _ F).setCell hF _ _).setCell hF _ _),fun _ h=> .inl h⟩
   · rename_i h
     have e:((n.toNat:Nat):Int)=n:=by omega
     rw [e] at H4
     go_end0
     exact ⟨rfl,_,⟨_,_,H4.out⟩,(((Spared.refl _ F).setCell hF _ _).setCell hF _ _),fun _ h=> .inl h⟩
theorem zero59 (w:World):(zeroValue 81).run Tryz.prog w= .ok (.agg ((List.replicate 64 (0:UInt8)).map bv).toArray) w:=by kernel_rfl
theorem info59:(Tryz.prog.info? 81).map (·.size)=some 64:=by kernel_rfl
theorem info62:(Tryz.prog.info? 115).map (·.size)=some 65:=by kernel_rfl
theorem map_bv_one (l:List UInt8):(l.map bv).toArray.all (·.oneCell')=true:=all_oneCell_toArray (bytes_one l)
set_option maxRecDepth 100000 in
set_option maxHeartbeats 400000 in
theorem latest_any (w:World) (g:Nat) (F:Nat->Prop) (s:Dsk) (i:Nat) (h:DiskAt w g F s) (hi:i<s.K.length):
 Calls Tryz.prog 158 #[.pointer (some ⟨g,0,none⟩),.int .i64 (i:Int)] w fun e w'=>(∃ x,e= .returned (.agg (x.map bv).toArray)/\s.Last i x)/\Below w.heap.size w w':=by
 obtain ⟨gd,v,h⟩:=h
 obtain ⟨A,c,rfl,hc,hcm,hA⟩:=own_form65 h.2.2.1
 have hi4:=h.2.2.2.2.2.2.2.2.hi
 have z:=zero59
 have hM:s.M.length<=9223372036854775807:=by unfold maxLen at hcm;omega
 have H:=Lib.hid (h.still ((Below.refl _ _).alloc (Nat.le_refl _) (.cells ((List.replicate 64 (0:UInt8)).map bv).toArray 81)))
 have HN:Hid (Blk (w.alloc (.cells ((List.replicate 64 (0:UInt8)).map bv).toArray 81)) w.heap.size ((List.replicate 64 (0:UInt8)).map bv) 81):=Blk.new w _ _
 have HZ:Hid (((List.replicate 64 (0:UInt8)).map bv).length=64):=by show _=_;simp
 have HB:Hid (Below w.heap.size w (w.alloc (.cells ((List.replicate 64 (0:UInt8)).map bv).toArray 81))):=(Below.refl _ _).alloc (Nat.le_refl _) _
 generalize (List.replicate 64 (0:UInt8)).map bv=Z at z H HN HB HZ
 clear h
 obtain ⟨c0,c1,_⟩:=H.out.cells
 go_enter Tryz.func158,Tryz.ntmps158
 go_wp2
 go_loopw [5] (fun a wr=>wr=(w.alloc (.cells Z.toArray 81))/\∃ k:Nat,k<=s.M.length/\a= .int .i64 ((k:Int)-1)/\∀ j (hj:j<s.M.length),k<=j->s.M[j].1≠i) (fun a _=>(intOf a+1).toNat)
 case atStart=>exact ⟨rfl,s.M.length,Nat.le_refl _,rfl,fun j hj h=>by omega⟩
 case round=>
  obtain ⟨rfl,k,hk,rfl,hno⟩:=hrel
  by_cases hk0:0<k
  · obtain ⟨q,rfl⟩:∃ q,k=q+1:=⟨k-1,by omega⟩
    rw [show (((q+1:Nat):Int)-1)=(q:Int) by omega]
    obtain ⟨gc,rfl⟩:=hA (by omega)
    have hq:q<s.M.length:=by omega
    obtain ⟨_,d0,d1⟩:=H.out.cache q hq
    have HX:Hid ((s.M[q].2.map bv).length=64):=by show _=_;rw [List.length_map];exact H.out.2.2.2.2.2.2.2.2.mem _ (List.getElem_mem hq)
    have HD1:=Lib.hid d1
    clear d1 hA hk hk0
    by_cases hm:s.M[q].1=i
    · have HL:Hid (s.Last i s.M[q].2):=Or.inl ⟨q,hq,hm,rfl,fun j hj hlt=>hno j hj (by omega)⟩
      rw [hm] at d0
      clear hno hm
      have HO:=Lib.hid (map_bv_one s.M[q].2)
      generalize hX:s.M[q].2=x at *
      have hX':=Lib.hid hX
      clear hX
      generalize hY:x.map bv=X at *
      have hY':=Lib.hid hY
      clear hY
      go_wp2_with (first
       | (refine wpList_load_mid rfl 81 (.tmp 32) rfl gc (q*65+1) rfl X _ HD1.out Tryz.underlying81 rfl (by rw [info59,HX.out]) ?_)
       | (refine wpList_store_row rfl 81 (.tmp 4) (.tmp 33) rfl w.heap.size X.toArray rfl rfl 81 _ HN.out (by rw [info59];simp [HX.out]) (by simp [HX.out,HZ.out]) HO.out ?_))
      have HQ:=setRow_heap (w.alloc (.cells Z.toArray 81)) w.heap.size _ X.toArray _ _ HN.out
      exact bodyPost_ret (v:= .agg X.toArray) (results_cell_row Tryz.results158 _ _ w.heap.size 81 X.toArray (0,0) _ rfl HQ Tryz.underlying81 rfl (by rw [info59];simp [HX.out])) rfl ⟨⟨x,by rw [hY'.out],HL.out⟩,below_setRow HB.out (Nat.le_refl _) _⟩
    · have hm':((s.M[q].1:Int)==(i:Int))=false:=by rw [beq_eq_false_iff_ne];omega
      obtain ⟨mm,hmm⟩:∃ mm:Int,mm=(s.M[q].1:Int):=⟨_,rfl⟩
      rw [<-hmm] at d0 hm'
      have hm'': ¬ mm=(i:Int):=by simpa using hm'
      have HNO:Hid (∀ j (hj:j<s.M.length),q<=j->s.M[j].1≠i):=fun j hj hle=>by
       rcases Nat.lt_or_ge q j with h | h
       · exact hno j hj h
       · obtain rfl:j=q:=by omega
         exact hm
      clear hno hm hmm hm' HD1 HX
      go_wp2
      go_roundw
      case rel=>exact ⟨trivial,q,by omega,rfl,HNO.out⟩
      case measure=>simp [intOf]
  · obtain rfl:k=0:=by omega
    have hno':∀ j (hj:j<s.M.length),s.M[j].1≠i:=fun j hj=>hno j hj (by omega)
    have HL:Hid (s.Last i s.K[i]):=Or.inr ⟨hno',List.getElem?_eq_getElem hi⟩
    have HD:=Lib.hid (H.out.durable i hi).1
    have HX:Hid ((s.K[i].map bv).length=64):=by show _=_;rw [List.length_map];exact H.out.2.2.2.2.2.2.2.2.len _ (List.getElem_mem hi)
    have HO:=Lib.hid (map_bv_one s.K[i])
    generalize hX:s.K[i]=x at *
    have hX':=Lib.hid hX
    clear hX hno hno' hk hk0
    generalize hY:x.map bv=X at *
    have hY':=Lib.hid hY
    clear hY
    have e:((0:Nat):Int)-1= -1:=rfl
    rw [e]
    clear e
    go_wp2_with (first
     | (refine wpList_load_mid rfl 81 (.tmp 39) rfl gd (i*64) rfl X _ HD.out Tryz.underlying81 rfl (by rw [info59,HX.out]) ?_)
     | (refine wpList_store_row rfl 81 (.tmp 4) (.tmp 40) rfl w.heap.size X.toArray rfl rfl 81 _ HN.out (by rw [info59];simp [HX.out]) (by simp [HX.out,HZ.out]) HO.out ?_))
    have HQ:=setRow_heap (w.alloc (.cells Z.toArray 81)) w.heap.size _ X.toArray _ _ HN.out
    exact bodyPost_ret (v:= .agg X.toArray) (results_cell_row Tryz.results158 _ _ w.heap.size 81 X.toArray (0,0) _ rfl HQ Tryz.underlying81 rfl (by rw [info59];simp [HX.out])) rfl ⟨⟨x,by rw [hY'.out],HL.out⟩,below_setRow HB.out (Nat.le_refl _) _⟩
theorem read_any (w:World) (g:Nat) (F:Nat->Prop) (s:Dsk) (i:Int) (h:DiskAt w g F s):
 Calls Tryz.prog 132 #[.pointer (some ⟨g,0,none⟩),.int .i64 i] w fun e w'=>Below w.heap.size w w'/\
  ((¬ (0<=i/\i<s.K.length)/\e= .returned (.tuple #[.slice none 0 0,.int .i64 1]))\/
   ((0<=i/\i<s.K.length)/\s.off=true/\e= .returned (.tuple #[.slice none 0 0,.int .i64 5]))\/
   ((0<=i/\i<s.K.length)/\s.off=false/\∃ x gb,s.Last i.toNat x/\w.heap.size<=gb/\Blk w' gb (x.map bv) 81/\e= .returned (.tuple #[.slice (some ⟨gb,0,none⟩) 64 64,.int .i64 0]))):=by
 have H:=Lib.hid h
 clear h
 by_cases h0:0<=i/\i<s.K.length
 · have hd:decide (0<=i/\i<(s.K.length:Int))=true:=decide_eq_true h0
   have HI:=Lib.hid h0
   by_cases ho:s.off=true
   · have ho':(!s.off)=false:=by rw [ho];rfl
     have HO:=Lib.hid ho
     clear h0 ho
     go_enter Tryz.func132,Tryz.ntmps132
     go_wp2_with (first
      | (go_at_call 157;refine (has_any H.out i).mono ?_;rintro e w' ⟨rfl,rfl⟩;rw [hd])
      | (go_at_call 59;refine (on_any H.out).mono ?_;rintro e w' ⟨rfl,rfl⟩;rw [ho']))
     go_ret2
     exact ⟨Below.refl _ _,.inr (.inl ⟨HI.out,HO.out,rfl⟩)⟩
   · have ho':(!s.off)=true:=by cases hs:s.off<;>simp_all
     have HO:Hid (s.off=false):=by show _=_;cases hs:s.off<;>simp_all
     obtain ⟨n,rfl⟩:∃ n:Nat,i=(n:Int):=⟨i.toNat,by omega⟩
     have hn:n<s.K.length:=by omega
     have OK:=Lib.hid H.out.ok
     have z:=zero59
     have HZ:Hid (((List.replicate 64 (0:UInt8)).map bv).length=64):=by show _=_;simp
     generalize (List.replicate 64 (0:UInt8)).map bv=Z at z HZ
     clear h0 ho
     go_enter Tryz.func132,Tryz.ntmps132
     go_wp2_with (first
      | (go_at_call 157;refine (has_any H.out n).mono ?_;rintro e w' ⟨rfl,rfl⟩;rw [hd])
      | (go_at_call 59;refine (on_any H.out).mono ?_;rintro e w' ⟨rfl,rfl⟩;rw [ho'])
      | (go_at_call 158;refine (latest_any _ g F s n H.out hn).mono ?_;rintro e w1 ⟨⟨x,rfl,hx⟩,hb⟩;have hlx:=Lib.hid (hx.length OK.out);have hx:=Lib.hid hx;have hb:=Lib.hid hb;have hox:=Lib.hid (map_bv_one x);generalize hY:x.map bv=X at *;have hY:=Lib.hid hY;have hlX:Hid (X.length=64):=(by show _=_;rw [<-hY.out,List.length_map];exact hlx.out))
      | (refine wpList_store_row rfl 81 (.tmp 6) (.tmp 16) rfl w1.heap.size X.toArray rfl rfl 81 _ (heap_alloc_new w1 _) (by rw [info59];simp [hlX.out]) (by simp [hlX.out,HZ.out]) hox.out ?_))
     go_ret2
     have hq:=setRow_heap (w1.alloc (.cells Z.toArray 81)) w1.heap.size _ X.toArray _ _ (heap_alloc_new w1 _)
     exact ⟨below_setRow (hb.out.alloc hb.out.size _) hb.out.size _,.inr (.inr ⟨HI.out,HO.out,x,w1.heap.size,hx.out,hb.out.size,by rw [hY.out];exact hq,rfl⟩)⟩
 · have hd:decide (0<=i/\i<(s.K.length:Int))=false:=decide_eq_false h0
   have HI:=Lib.hid h0
   clear h0
   go_enter Tryz.func132,Tryz.ntmps132
   go_wp2_with (go_at_call 157;refine (has_any H.out i).mono ?_;rintro e w' ⟨rfl,rfl⟩;rw [hd])
   go_ret2
   exact ⟨Below.refl _ _,.inl ⟨HI.out,rfl⟩⟩
theorem info8d:(Tryz.prog.info? 5).map (fun i=>(i.zero,i.size,i.bytes))=some (some (.int .u8 0),1,1):=by kernel_rfl
theorem make_cap (n:Nat) (h:n<=4096) (W:World):(Instr.makeSlice 22 (.int .i64 0) (.int .i64 ((n:Int)*64))).run Tryz.prog W= .ok (.slice (some ⟨W.heap.size,0,none⟩) 0 (n*64)) (W.alloc (.cells (madeCells #[.int .u8 0] (n*64)) 5)):=by
 obtain ⟨i0,hi,hz0,hz1,hz2⟩:=info_parts info8d
 have hr:=run_make (P:=Tryz.prog) W 22 5 i0 (.int .u8 0) Tryz.underlying22 hi hz0 .i64 .i64 0 ((n:Int)*64) (by omega) (by omega) (by rw [hz2];omega) (by omega)
 rw [hr,hz1,show ((n:Int)*64).toNat=n*64 from by omega,Nat.mul_one]
 rfl
theorem made_start (w:World) (n:Nat) (hn:n<=4096):Made 5 w [] (.slice (some ⟨w.heap.size,0,none⟩) 0 (n*64)) (w.alloc (.cells (madeCells #[.int .u8 0] (n*64)) 5)):=
 ⟨World.ownsRow_made w _ _ (Nat.le_refl _) (by unfold maxLen;omega) (by rw [size_madeCells,Nat.mul_one]),(Below.refl _ _).alloc (Nat.le_refl _) _⟩
theorem take_flat {K:List (List UInt8)} {k:Nat} (h:k<K.length):(K.take k).flatten++K[k]=(K.take (k+1)).flatten:=by
 rw [List.take_succ_eq_append_getElem h,List.flatten_append];simp
theorem take_flat_length {K:List (List UInt8)} (hK:∀ r ∈ K,r.length=64) (k:Nat) (h:k<=K.length):(K.take k).flatten.length=k*64:=by
 rw [flat_length (m:=64) _ (fun r hr=>hK r (List.mem_of_mem_take hr)),List.length_take,Nat.min_eq_left h]
theorem range_seen {w:World} {g o:Nat} {l:List UInt8} (h:w.rangeAt g o (l.map bv)):Seen w (some ⟨g,o,none⟩) l:=by
 rcases Nat.eq_zero_or_pos l.length with h0 | h0
 · exact .inl (List.eq_nil_of_length_eq_zero h0)
 · refine .inr ⟨g,o,rfl,World.block_lt_of_cell? w _ (h 0 (bv l[0]) (by simp [h0])),fun j hj=> ?_⟩
   exact h j _ (by simp [hj,bv])
set_option maxRecDepth 100000 in
set_option maxHeartbeats 400000 in
theorem image_any (w:World) (g:Nat) (F:Nat->Prop) (s:Dsk) (h:DiskAt w g F s):
 Calls Tryz.prog 23 #[.pointer (some ⟨g,0,none⟩)] w fun e w'=>∃ v,e= .returned v/\Made 5 w s.K.flatten v w':=by
 have H:=Lib.hid h
 have hK4:=h.ok.hi
 have HL:=Lib.hid h.ok.len
 obtain ⟨i0,hi,hz0,hz1,hz2⟩:=info_parts info8d
 have hmk:=make_cap s.K.length hK4 w
 have HM:=Lib.hid (made_start w s.K.length hK4)
 generalize (w.alloc (.cells (madeCells #[.int .u8 0] (s.K.length*64)) 5))=w1 at hmk HM
 have H1:=Lib.hid (h.still HM.out.2)
 clear h
 go_enter Tryz.func23,Tryz.ntmps23
 go_wp2_with (first
  | (go_at_call 63;refine (blocks_any H.out).mono ?_;rintro e w' ⟨rfl,hw'⟩;obtain rfl:=hw'.symm)
  | (go_at_call 63;refine (blocks_any H1.out).mono ?_;rintro e w' ⟨rfl,hw'⟩;obtain rfl:=hw'.symm))
 go_loopw [3,11] (fun v a wr=>∃ k:Nat,k<=s.K.length/\a= .int .i64 k/\Made 5 w (s.K.take k).flatten v wr) (fun _ a _=>s.K.length-(intOf a).toNat)
 case atStart=>exact ⟨0,Nat.zero_le _,rfl,HM.out⟩
 case round=>
  obtain ⟨k,hk,rfl,hm⟩:=hrel
  have HV:=Lib.hid hm
  clear hm hmk
  by_cases hlt:k<s.K.length
  · have hkl:(k:Int)<(s.K.length:Int):=by omega
    obtain ⟨gd,vd,hd⟩:=H.out.still HV.out.2
    obtain ⟨c0,_⟩:=hd.cells
    have HS:=Lib.hid (range_seen (hd.durable k hlt).1)
    have h64:s.K[k].length=64:=HL.out _ (List.getElem_mem hlt)
    have ht:=take_flat hlt
    have hfl:=take_flat_length HL.out k hk
    generalize s.K[k]=p at *
    generalize hd1:(s.K.take k).flatten=d at *
    have HT:=Lib.hid ht
    have H64:=Lib.hid h64
    have HFL:=Lib.hid hfl
    clear ht h64 hfl hd hd1
    go_wp2_with (refine wpList_append_bytes _ rfl (.tmp 14) (.tmp 21) 22 rfl 5 i0 (.int .u8 0) Tryz.underlying22 hi hz0 hz1 hz2 rfl w _ d _ p 64 rfl (by rw [H64.out];rfl) HV.out HS.out (by rw [HFL.out,H64.out];omega) ?_;intro v' w' hm' hb')
    have HM':=Lib.hid hm'
    clear hm' hb'
    go_roundw
    case rel=>exact ⟨k+1,by omega,by go_num,by rw [<-HT.out];exact HM'.out⟩
    case measure=>simp [intOf];omega
  · obtain rfl:k=s.K.length:=by omega
    rw [List.take_length] at HV
    go_wp2
    go_ret
    exact ⟨_,rfl,HV.out⟩
end Go.Proofs.YtdaahapbpnjkfaaGreat
