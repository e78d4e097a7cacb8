/-
Begins, of the document: does a key begin with bytes? Condition: lengths fit.
-/
import Derived.Test.YtdaahapbpnjkfaaGreatCKvAwake
import Derived.Test.YtdaahapbpnjkfaaGreatCRkO
import Derived.Test.YtdaahapbpnjkfaaGreatCLgL
import Derived.Test.YtdaahapbpnjkfaaGreatCCatch
import Derived.Test.YtdaahapbpnjkfaaGreatCGet
import Derived.Test.YtdaahapbpnjkfaaGreatCFEnc
import Derived.Deep.RegionHeldLaw
namespace Go.Proofs.YtdaahapbpnjkfaaGreat
open Go.RowKit
structure St where
 s:Dsk
 a:Nat
 gen:Int
 ds:List (List UInt8)
 L:List Kv
section
variable {w w':World} {T T' B:Nat->Prop} {q g b gt:Nat} {F:Nat->Prop} {h:Nat} {s:Dsk} {k:KvS}
theorem PSt.apart (p:PSt w T q g b gt F h s k) (hs:Spared w w' B) (hB:∀ x,B x->T x) (hd:∀ x,(F x\/x=b\/x=q\/x=gt)-> ¬ B x) (hT:∀ x,T x->T' x) (hT':∀ x,T' x->T x\/w.heap.size<=x) (hlt:∀ x,T' x->x<w'.heap.size):PSt w' T' q g b gt F h s k:=
 ⟨p.disk.apart hs (fun x hx=>hd x (.inl hx)),hs.blk p.log (hd b (.inr (.inl rfl))),hs.blk p.box (hd q (.inr (.inr (.inl rfl)))),p.tree.moved (hs.mono (fun x hx=>⟨hB x hx,fun e=>hd gt (.inr (.inr (.inr rfl))) (e ▸ hx)⟩)) hT' (hT gt p.tree.1),fun x hx=>hT x (p.ins x hx),hlt,p.nb,p.nq,p.nt,p.bq,p.bt,p.qt,p.fits,p.half⟩
end
section
variable {w0 w w':World} {h g1 q1 g2 q2 m1 m2:Nat} {X Y:St}
end
def PSide (w:World) (T D:Nat->Prop) (g h:Nat) (s:Dsk) (ko:Option KvS) (P:Option Addr):Prop:=
 (∀ x,T x->x<w.heap.size)/\(∀ x,D x->T x)/\match ko with
 | none=>P=none/\∃ F,DiskAt w g F s/\∀ x,F x->D x
 | some k=>∃ q b gt F,P=some ⟨q,0,none⟩/\PSt w T q g b gt F h s k/\∀ x,(F x\/x=b\/x=q\/x=gt)->D x
def RSide (w:World) (T D:Nat->Prop) (r h:Nat) (t:Dsk) (ko:Option KvS) (Q:Option Addr):Prop:=
 (∀ x,T x->x<w.heap.size)/\(∀ x,D x->T x)/\match ko with
 | none=>Q=none/\∃ G,RefAt w r G t/\∀ x,G x->D x
 | some k=>∃ q b gm G,Q=some ⟨q,0,none⟩/\RSt w T q r b gm G h t k/\∀ x,(G x\/x=b\/x=q\/x=gm)->D x
abbrev KBox:=Nat × List Value × TypeId
def KTwo (w0 w:World) (g r h:Nat) (s t:Dsk) (kp kr:Option KvS) (P Q:Option Addr) (xs:List KBox):Prop:=
 ∃ T D U,PSide w T D g h s kp P/\RSide w T U r h t kr Q/\(∀ x,D x-> ¬ U x)/\Below w0.heap.size w0 w/\(∀ x,T x->w0.heap.size<=x)/\∀ x ∈ xs,Blk w x.1 x.2.1 x.2.2/\ ¬ T x.1
section
variable {w0 w w':World} {T T' D D' U B:Nat->Prop} {g r h q b gm:Nat} {G:Nat->Prop} {s s' t t':Dsk} {k:KvS} {kp kp' kr kr':Option KvS} {P P' Q Q':Option Addr} {xs:List KBox} {c:Nat}
theorem RSt.apart (p:RSt w T q r b gm G h t k) (hs:Spared w w' B) (hB:∀ x,B x->T x) (hd:∀ x,(G x\/x=b\/x=q\/x=gm)-> ¬ B x) (hT:∀ x,T x->T' x) (hT':∀ x,T' x->T x\/w.heap.size<=x) (hlt:∀ x,T' x->x<w'.heap.size):RSt w' T' q r b gm G h t k:=
 ⟨p.disk.apart hs (fun x hx=>hd x (.inl hx)),hs.blk p.log (hd b (.inr (.inl rfl))),hs.blk p.box (hd q (.inr (.inr (.inl rfl)))),p.map.moved (hs.mono (fun x hx=>⟨hB x hx,fun e=>hd gm (.inr (.inr (.inr rfl))) (e ▸ hx)⟩)) hT' (hT gm p.map.1),fun x hx=>hT x (p.ins x hx),hlt,p.nb,p.nq,p.nm,p.bq,p.bm,p.qm,p.fits,p.half⟩
theorem PSide.apart (p:PSide w T D g h s kp P) (hs:Spared w w' B) (hB:∀ x,B x->T x) (hd:∀ x,D x-> ¬ B x) (hT:∀ x,T x->T' x) (hT':∀ x,T' x->T x\/w.heap.size<=x) (hlt:∀ x,T' x->x<w'.heap.size):PSide w' T' D g h s kp P:=by
 obtain ⟨h1,h2,h3⟩:=p
 refine ⟨hlt,fun x hx=>hT x (h2 x hx),?_⟩
 cases kp with
 | none=>
  obtain ⟨e,F,k1,k2⟩:=h3
  exact ⟨e,F,k1.apart hs (fun x hx=>hd x (k2 x hx)),k2⟩
 | some k=>
  obtain ⟨q,b,gt,F,e,k1,k2⟩:=h3
  exact ⟨q,b,gt,F,e,k1.apart hs hB (fun x hx=>hd x (k2 x hx)) hT hT' hlt,k2⟩
theorem RSide.apart (p:RSide w T D r h t kr Q) (hs:Spared w w' B) (hB:∀ x,B x->T x) (hd:∀ x,D x-> ¬ B x) (hT:∀ x,T x->T' x) (hT':∀ x,T' x->T x\/w.heap.size<=x) (hlt:∀ x,T' x->x<w'.heap.size):RSide w' T' D r h t kr Q:=by
 obtain ⟨h1,h2,h3⟩:=p
 refine ⟨hlt,fun x hx=>hT x (h2 x hx),?_⟩
 cases kr with
 | none=>
  obtain ⟨e,F,k1,k2⟩:=h3
  exact ⟨e,F,k1.apart hs (fun x hx=>hd x (k2 x hx)),k2⟩
 | some k=>
  obtain ⟨q,b,gt,F,e,k1,k2⟩:=h3
  exact ⟨q,b,gt,F,e,k1.apart hs hB (fun x hx=>hd x (k2 x hx)) hT hT' hlt,k2⟩
def PMoved (w w':World) (T D:Nat->Prop) (g h:Nat) (s':Dsk) (kp':Option KvS) (P':Option Addr):Prop:=
 ∃ T' D',PSide w' T' D' g h s' kp' P'/\Spared w w' D/\(∀ x,T x->T' x)/\(∀ x,T' x->T x\/w.heap.size<=x)/\∀ x,D' x->D x\/w.heap.size<=x
def RMovedS (w w':World) (T D:Nat->Prop) (r h:Nat) (t':Dsk) (kr':Option KvS) (Q':Option Addr):Prop:=
 ∃ T' D',RSide w' T' D' r h t' kr' Q'/\Spared w w' D/\(∀ x,T x->T' x)/\(∀ x,T' x->T x\/w.heap.size<=x)/\∀ x,D' x->D x\/w.heap.size<=x
theorem KTwo.still (k:KTwo w0 w g r h s t kp kr P Q xs) (hb:Below w.heap.size w w'):KTwo w0 w' g r h s t kp kr P Q xs:=by
 obtain ⟨T,D,U,h1,h2,h3,h4,h5,h6⟩:=k
 have hlt:∀ x,T x->x<w'.heap.size:=fun x hx=>Nat.lt_of_lt_of_le (h1.1 x hx) hb.size
 have hs:Spared w w' (fun _=>False):= .of_below hb _
 exact ⟨T,D,U,h1.apart hs (fun _ h=>h.elim) (fun _ _ h=>h) (fun _ h=>h) (fun _ h=> .inl h) hlt,h2.apart hs (fun _ h=>h.elim) (fun _ _ h=>h) (fun _ h=>h) (fun _ h=> .inl h) hlt,h3,hop h4 hb,h5,fun x hx=>⟨(h6 x hx).1.below hb (h6 x hx).1.lt,(h6 x hx).2⟩⟩
theorem KTwo.below (k:KTwo w0 w g r h s t kp kr P Q xs):Below w0.heap.size w0 w:=by obtain ⟨T,D,U,h1,h2,h3,h4,h5,h6⟩:=k;exact h4
theorem KTwo.box (k:KTwo w0 w g r h s t kp kr P Q xs) {x:KBox} (hx:x ∈ xs):Blk w x.1 x.2.1 x.2.2:=by obtain ⟨T,D,U,h1,h2,h3,h4,h5,h6⟩:=k;exact (h6 x hx).1
theorem KTwo.bare (k:KTwo w0 w g r h s t kp kr P Q xs):KTwo w0 w g r h s t kp kr P Q []:=by
 obtain ⟨T,D,U,h1,h2,h3,h4,h5,h6⟩:=k
 exact ⟨T,D,U,h1,h2,h3,h4,h5,fun x hx=>by cases hx⟩
theorem KTwo.holds (k:KTwo w0 w g r h s t kp kr P Q xs) (L:List Value) (y:TypeId):KTwo w0 (w.alloc (.cells L.toArray y)) g r h s t kp kr P Q [(w.heap.size,L,y)]:=by
 obtain ⟨T,D,U,h1,h2,h3,h4,h5,h6⟩:=k.still ((Below.refl _ _).alloc (Nat.le_refl _) (.cells L.toArray y))
 have hb:Below w.heap.size w (w.alloc (.cells L.toArray y)):=(Below.refl _ _).alloc (Nat.le_refl _) _
 obtain ⟨T,D,U,k1,k2,k3,k4,k5,k6⟩:=k
 have hlt:∀ x,T x->x<(w.alloc (.cells L.toArray y)).heap.size:=fun x hx=>Nat.lt_of_lt_of_le (k1.1 x hx) hb.size
 have hs:Spared w (w.alloc (.cells L.toArray y)) (fun _=>False):= .of_below hb _
 refine ⟨T,D,U,k1.apart hs (fun _ h=>h.elim) (fun _ _ h=>h) (fun _ h=>h) (fun _ h=> .inl h) hlt,k2.apart hs (fun _ h=>h.elim) (fun _ _ h=>h) (fun _ h=>h) (fun _ h=> .inl h) hlt,k3,hop k4 hb,k5,fun x hx=> ?_⟩
 rw [List.mem_singleton.1 hx]
 exact ⟨Blk.new w L y,fun h=>Nat.lt_irrefl _ (k1.1 _ h)⟩
theorem ktwo_left (h1:PSide w T D g h s kp P) (h2:RSide w T U r h t kr Q) (h3:∀ x,D x-> ¬ U x) (h4:Below w0.heap.size w0 w) (h5:∀ x,T x->w0.heap.size<=x) (h6:∀ x ∈ xs,Blk w x.1 x.2.1 x.2.2/\ ¬ T x.1) (hm:PMoved w w' T D g h s' kp' P'):KTwo w0 w' g r h s' t kp' kr P' Q xs:=by
 obtain ⟨T',D',m1,m2,m3,m4,m5⟩:=hm
 have hz:=h4.size
 refine ⟨T',D',U,m1,h2.apart m2 h1.2.1 (fun x hx hd=>h3 x hd hx) m3 m4 m1.1,fun x hx hu=>(m5 x hx).elim (fun h=>h3 x h hu) (fun h=>by have:=h2.1 x (h2.2.1 x hu);omega),m2.below h4 (fun x hx=>h5 x (h1.2.1 x hx)),fun x hx=>(m4 x hx).elim (h5 x) (fun h=>by omega),fun x hx=> ?_⟩
 have hb:=h6 x hx
 have hl:=hb.1.lt
 exact ⟨m2.blk hb.1 (fun h=>hb.2 (h1.2.1 _ h)),fun hx=>(m4 _ hx).elim hb.2 (fun h=>by omega)⟩
theorem ktwo_right (h1:PSide w T D g h s kp P) (h2:RSide w T U r h t kr Q) (h3:∀ x,D x-> ¬ U x) (h4:Below w0.heap.size w0 w) (h5:∀ x,T x->w0.heap.size<=x) (h6:∀ x ∈ xs,Blk w x.1 x.2.1 x.2.2/\ ¬ T x.1) (hm:RMovedS w w' T U r h t' kr' Q'):KTwo w0 w' g r h s t' kp kr' P Q' xs:=by
 obtain ⟨T',D',m1,m2,m3,m4,m5⟩:=hm
 have hz:=h4.size
 refine ⟨T',D,D',h1.apart m2 h2.2.1 (fun x hx hd=>h3 x hx hd) m3 m4 m1.1,m1,fun x hx hu=>(m5 x hu).elim (fun h=>h3 x hx h) (fun h=>by have:=h1.1 x (h1.2.1 x hx);omega),m2.below h4 (fun x hx=>h5 x (h2.2.1 x hx)),fun x hx=>(m4 x hx).elim (h5 x) (fun h=>by omega),fun x hx=> ?_⟩
 have hb:=h6 x hx
 have hl:=hb.1.lt
 exact ⟨m2.blk hb.1 (fun h=>hb.2 (h2.2.1 _ h)),fun hx=>(m4 _ hx).elim hb.2 (fun h=>by omega)⟩
theorem KvS.Fits.same (f:k.Fits h s) (hK:s'.K.length=s.K.length):k.Fits h s':=⟨⟨f.half.pos,by rw [hK];exact f.half.fits⟩,f.two,⟨f.log.pos,by rw [hK];exact f.log.area,f.log.fin,f.log.seq,f.log.gen1,f.log.gen2⟩⟩
theorem PSide.disk (p:PSide w T D g h s kp P):∃ F,DiskAt w g F s/\∀ x,F x->D x:=by
 obtain ⟨h1,h2,h3⟩:=p
 cases kp with
 | none=>obtain ⟨e,F,k1,k2⟩:=h3;exact ⟨F,k1,k2⟩
 | some k=>obtain ⟨q,b,gt,F,e,k1,k2⟩:=h3;exact ⟨F,k1.disk,fun x hx=>k2 x (.inl hx)⟩
theorem RSide.disk (p:RSide w T D r h t kr Q):∃ G,RefAt w r G t/\∀ x,G x->D x:=by
 obtain ⟨h1,h2,h3⟩:=p
 cases kr with
 | none=>obtain ⟨e,F,k1,k2⟩:=h3;exact ⟨F,k1,k2⟩
 | some k=>obtain ⟨q,b,gt,F,e,k1,k2⟩:=h3;exact ⟨F,k1.disk,fun x hx=>k2 x (.inl hx)⟩
theorem KTwo.disks (k:KTwo w0 w g r h s t kp kr P Q xs):∃ F G,DiskAt w g F s/\RefAt w r G t:=by
 obtain ⟨T,D,U,h1,h2,h3,h4,h5,h6⟩:=k
 obtain ⟨F,hF,_⟩:=h1.disk
 obtain ⟨G,hG,_⟩:=h2.disk
 exact ⟨F,G,hF,hG⟩
theorem KTwo.disks_ok (k:KTwo w0 w g r h s t kp kr P Q xs):s.Ok:=by obtain ⟨F,_,h,_⟩:=k.disks;exact h.ok
theorem PSide.disked {R:Ending->World->Prop} {c:Nat} {args:Array Value} (p:PSide w T D g h s kp P) (hK:s'.K.length=s.K.length) (hc:∀ F,DiskAt w g F s->(∀ x,F x->T x)->Calls Tryz.prog c args w fun e w'=>R e w'/\∃ F',DiskAt w' g F' s'/\Spared w w' F/\∀ x,F' x->F x\/w.heap.size<=x):
 Calls Tryz.prog c args w fun e w'=>R e w'/\PMoved w w' T D g h s' kp P:=by
 obtain ⟨h1,h2,h3⟩:=p
 cases kp with
 | none=>
  obtain ⟨e,F,k1,k2⟩:=h3
  refine (hc F k1 (fun x hx=>h2 x (k2 x hx))).mono ?_
  rintro e' w' ⟨he,F',m1,m2,m3⟩
  refine ⟨he,fun x=>T x\/F' x,fun x=>D x\/F' x,⟨fun x hx=>hx.elim (fun h=>Nat.lt_of_lt_of_le (h1 x h) m2.size) (m1.lt x),fun x hx=>hx.imp (h2 x) id,e,F',m1,fun x hx=> .inr hx⟩,m2.mono (fun x hx=>k2 x hx),fun x hx=> .inl hx,fun x hx=>hx.elim .inl (fun h=>(m3 x h).imp (fun h=>h2 x (k2 x h)) id),fun x hx=>hx.elim .inl (fun h=>(m3 x h).imp (k2 x) id)⟩
 | some k=>
  obtain ⟨q,b,gt,F,e,k1,k2⟩:=h3
  refine (hc F k1.disk (fun x hx=>h2 x (k2 x (.inl hx)))).mono ?_
  rintro e' w' ⟨he,F',m1,m2,m3⟩
  have hT':∀ x,(T x\/F' x)->T x\/w.heap.size<=x:=fun x hx=>hx.elim .inl (fun h=>(m3 x h).imp (fun h=>h2 x (k2 x (.inl h))) id)
  have hlt:∀ x,(T x\/F' x)->x<w'.heap.size:=fun x hx=>hx.elim (fun h=>Nat.lt_of_lt_of_le (h1 x h) m2.size) (m1.lt x)
  have lb:=k1.log.lt
  have lq:=k1.box.lt
  have lt:=k1.tree.lt
  refine ⟨he,fun x=>T x\/F' x,fun x=>D x\/F' x,⟨hlt,fun x hx=>hx.imp (h2 x) id,q,b,gt,F',e,⟨m1,m2.blk k1.log k1.nb,m2.blk k1.box k1.nq,k1.tree.moved (m2.mono (fun x hx=>⟨k1.ins x (.inl hx),fun e=>k1.nt (e ▸ hx)⟩)) hT' (.inl k1.tree.1),fun x hx=> ?_,hlt,fun hx=>(m3 b hx).elim k1.nb (fun h=>by omega),fun hx=>(m3 q hx).elim k1.nq (fun h=>by omega),fun hx=>(m3 gt hx).elim k1.nt (fun h=>by omega),k1.bq,k1.bt,k1.qt,k1.fits.same hK,by rw [hK];exact k1.half⟩,fun x hx=> ?_⟩,m2.mono (fun x hx=>k2 x (.inl hx)),fun x hx=> .inl hx,hT',fun x hx=>hx.elim .inl (fun h=>(m3 x h).imp (fun h=>k2 x (.inl h)) id)⟩
  · rcases hx with hx | hx
    · exact .inr hx
    · exact .inl (k1.ins x (.inr hx))
  · rcases hx with hx | hx
    · exact .inr hx
    · exact .inl (k2 x (.inr hx))
theorem RSide.disked {R:Ending->World->Prop} {c:Nat} {args:Array Value} (p:RSide w T D r h t kr Q) (hK:t'.K.length=t.K.length) (hc:∀ F,RefAt w r F t->(∀ x,F x->T x)->Calls Tryz.prog c args w fun e w'=>R e w'/\∃ F',RefAt w' r F' t'/\Spared w w' F/\∀ x,F' x->F x\/w.heap.size<=x):
 Calls Tryz.prog c args w fun e w'=>R e w'/\RMovedS w w' T D r h t' kr Q:=by
 obtain ⟨h1,h2,h3⟩:=p
 cases kr with
 | none=>
  obtain ⟨e,F,k1,k2⟩:=h3
  refine (hc F k1 (fun x hx=>h2 x (k2 x hx))).mono ?_
  rintro e' w' ⟨he,F',m1,m2,m3⟩
  refine ⟨he,fun x=>T x\/F' x,fun x=>D x\/F' x,⟨fun x hx=>hx.elim (fun h=>Nat.lt_of_lt_of_le (h1 x h) m2.size) (m1.lt x),fun x hx=>hx.imp (h2 x) id,e,F',m1,fun x hx=> .inr hx⟩,m2.mono (fun x hx=>k2 x hx),fun x hx=> .inl hx,fun x hx=>hx.elim .inl (fun h=>(m3 x h).imp (fun h=>h2 x (k2 x h)) id),fun x hx=>hx.elim .inl (fun h=>(m3 x h).imp (k2 x) id)⟩
 | some k=>
  obtain ⟨q,b,gt,F,e,k1,k2⟩:=h3
  refine (hc F k1.disk (fun x hx=>h2 x (k2 x (.inl hx)))).mono ?_
  rintro e' w' ⟨he,F',m1,m2,m3⟩
  have hT':∀ x,(T x\/F' x)->T x\/w.heap.size<=x:=fun x hx=>hx.elim .inl (fun h=>(m3 x h).imp (fun h=>h2 x (k2 x (.inl h))) id)
  have hlt:∀ x,(T x\/F' x)->x<w'.heap.size:=fun x hx=>hx.elim (fun h=>Nat.lt_of_lt_of_le (h1 x h) m2.size) (m1.lt x)
  have lb:=k1.log.lt
  have lq:=k1.box.lt
  have lt:=k1.map.lt
  refine ⟨he,fun x=>T x\/F' x,fun x=>D x\/F' x,⟨hlt,fun x hx=>hx.imp (h2 x) id,q,b,gt,F',e,⟨m1,m2.blk k1.log k1.nb,m2.blk k1.box k1.nq,k1.map.moved (m2.mono (fun x hx=>⟨k1.ins x (.inl hx),fun e=>k1.nm (e ▸ hx)⟩)) hT' (.inl k1.map.1),fun x hx=> ?_,hlt,fun hx=>(m3 b hx).elim k1.nb (fun h=>by omega),fun hx=>(m3 q hx).elim k1.nq (fun h=>by omega),fun hx=>(m3 gt hx).elim k1.nm (fun h=>by omega),k1.bq,k1.bm,k1.qm,k1.fits.same hK,by rw [hK];exact k1.half⟩,fun x hx=> ?_⟩,m2.mono (fun x hx=>k2 x (.inl hx)),fun x hx=> .inl hx,hT',fun x hx=>hx.elim .inl (fun h=>(m3 x h).imp (fun h=>k2 x (.inl h)) id)⟩
  · rcases hx with hx | hx
    · exact .inr hx
    · exact .inl (k1.ins x (.inr hx))
  · rcases hx with hx | hx
    · exact .inr hx
    · exact .inl (k2 x (.inr hx))
theorem KTwo.arm (k:KTwo w0 w g r h s t kp kr P Q xs) {i:Int}:
 Calls Tryz.prog 17 #[.pointer (some ⟨g,0,none⟩),.int .i64 i] w fun e w'=>e= .returned (.tuple #[])/\KTwo w0 w' g r h (s.arm i) t kp kr P Q xs:=by
 obtain ⟨T,D,U,h1,h2,h3,h4,h5,h6⟩:=k
 refine (h1.disked (R:=fun e _=>e= .returned (.tuple #[])) (by rw [(arm_same s i).1]) (fun F hF _=>arm_any w g F s i hF)).mono ?_
 rintro e w' ⟨he,hm⟩
 exact ⟨he,ktwo_left h1 h2 h3 h4 h5 h6 hm⟩
theorem KTwo.rarm (k:KTwo w0 w g r h s t kp kr P Q xs) {i:Int}:
 Calls Tryz.prog 18 #[.pointer (some ⟨r,0,none⟩),.int .i64 i] w fun e w'=>e= .returned (.tuple #[])/\KTwo w0 w' g r h s (t.arm i) kp kr P Q xs:=by
 obtain ⟨T,D,U,h1,h2,h3,h4,h5,h6⟩:=k
 refine (h2.disked (R:=fun e _=>e= .returned (.tuple #[])) (by rw [(arm_same t i).1]) (fun F hF _=>refArm_any w r F t i hF)).mono ?_
 rintro e w' ⟨he,hm⟩
 exact ⟨he,ktwo_right h1 h2 h3 h4 h5 h6 hm⟩
theorem KTwo.crash (k:KTwo w0 w g r h s t kp kr P Q xs) {A:Option Addr} {p:List Int} {n c:Nat} (hp:Ints w0 A p) (hn:p.length=n) (hl:n<=9223372036854775807) (hb:∀ x ∈ p, -9223372036854775808<=x/\x<=9223372036854775807):
 Calls Tryz.prog 19 #[.pointer (some ⟨g,0,none⟩),.slice A n c] w fun e w'=>e= .returned (.tuple #[])/\KTwo w0 w' g r h (s.crash (pickOf p)) t kp kr P Q xs:=by
 subst hn
 obtain ⟨T,D,U,h1,h2,h3,h4,h5,h6⟩:=k
 refine (h1.disked (R:=fun e _=>e= .returned (.tuple #[])) (crash_len s (pickOf p)) (fun F hF hT=>crash_any w g F s hF A p c (hp.away h4 (fun x hx=>h5 x (hT x hx))) hb hl)).mono ?_
 rintro e w' ⟨he,hm⟩
 exact ⟨he,ktwo_left h1 h2 h3 h4 h5 h6 hm⟩
theorem KTwo.rcrash (k:KTwo w0 w g r h s t kp kr P Q xs) {A:Option Addr} {p:List Int} {n c:Nat} (hp:Ints w0 A p) (hn:p.length=n) (hl:n<=9223372036854775807) (hb:∀ x ∈ p, -9223372036854775808<=x/\x<=9223372036854775807):
 Calls Tryz.prog 20 #[.pointer (some ⟨r,0,none⟩),.slice A n c] w fun e w'=>e= .returned (.tuple #[])/\KTwo w0 w' g r h s (t.crash (pickOf p)) kp kr P Q xs:=by
 subst hn
 obtain ⟨T,D,U,h1,h2,h3,h4,h5,h6⟩:=k
 refine (h2.disked (R:=fun e _=>e= .returned (.tuple #[])) (crash_len t (pickOf p)) (fun F hF hT=>refCrash_any w r F t hF A p c (hp.away h4 (fun x hx=>h5 x (hT x hx))) hb hl)).mono ?_
 rintro e w' ⟨he,hm⟩
 exact ⟨he,ktwo_right h1 h2 h3 h4 h5 h6 hm⟩
theorem KTwo.open_ {m:Nat} (k:KTwo w0 w g r h s t kp kr P Q xs) (hh:h=s.K.length/2) (hK:s.K.length<=3000) (hf:s.Few m) (hm:m<=700000):
 Calls Tryz.prog 13 #[.pointer (some ⟨g,0,none⟩)] w fun e w'=>∃ P',e= .returned (.tuple #[.pointer P',.int .i64 (openK h s).1])/\KTwo w0 w' g r h (openK h s).2.1 t (openK h s).2.2 kr P' Q xs:=by
 obtain ⟨T,D,U,h1,h2,h3,h4,h5,h6⟩:=k
 obtain ⟨F,hd,hFD⟩:=h1.disk
 refine (kopen_any w T h1.1 g F (fun x hx=>h1.2.1 x (hFD x hx)) s h m hd hh hK hf hm).mono ?_
 rintro e w' (⟨n1,rfl,F',n3,n4,n5⟩ | ⟨k',T',q',b',gt',F',n1,rfl,n3,n4,n5,n6,n7,n8,n9,n10,n11⟩)
 · refine ⟨none,rfl,ktwo_left h1 h2 h3 h4 h5 h6 ⟨fun x=>T x\/F' x,fun x=>D x\/F' x,⟨fun x hx=>hx.elim (fun h=>Nat.lt_of_lt_of_le (h1.1 x h) n4.size) (n3.lt x),fun x hx=>hx.imp (h1.2.1 x) id,?_⟩,n4.mono (fun x hx=>hFD x hx),fun x hx=> .inl hx,fun x hx=>hx.elim .inl (fun h=>(n5 x h).imp (fun h=>h1.2.1 x (hFD x h)) id),fun x hx=>hx.elim .inl (fun h=>(n5 x h).imp (hFD x) id)⟩⟩
   rw [n1]
   exact ⟨rfl,F',n3,fun x hx=> .inr hx⟩
 · refine ⟨_,rfl,ktwo_left h1 h2 h3 h4 h5 h6 ⟨T',fun x=>(D x\/F' x)\/x=b'\/x=q'\/x=gt',⟨n3.tlt,fun x hx=> ?_,?_⟩,n4.mono (fun x hx=>hFD x hx),n6,n7,fun x hx=> ?_⟩⟩
   · rcases hx with (hx | hx) | hx
     · exact n6 x (h1.2.1 x hx)
     · exact n3.ins x (.inl hx)
     · exact n3.ins x (.inr hx)
   · rw [n1]
     exact ⟨q',b',gt',F',rfl,n3,fun x hx=>hx.elim (fun h=> .inl (.inr h)) .inr⟩
   · rcases hx with (hx | hx) | hx | hx | hx
     · exact .inl hx
     · exact (n5 x hx).imp (hFD x) id
     · exact .inr (by omega)
     · exact .inr (by omega)
     · exact .inr (by omega)
theorem KTwo.ropen {m:Nat} (k:KTwo w0 w g r h s t kp kr P Q xs) (hh:h=t.K.length/2) (hK:t.K.length<=3000) (hf:t.Few m) (hm:m<=700000):
 Calls Tryz.prog 14 #[.pointer (some ⟨r,0,none⟩)] w fun e w'=>∃ Q',e= .returned (.tuple #[.pointer Q',.int .i64 (openK h t).1])/\KTwo w0 w' g r h s (openK h t).2.1 kp (openK h t).2.2 P Q' xs:=by
 obtain ⟨T,D,U,h1,h2,h3,h4,h5,h6⟩:=k
 obtain ⟨F,hd,hFD⟩:=h2.disk
 refine (ropen_any w T h2.1 r F (fun x hx=>h2.2.1 x (hFD x hx)) t h m hd hh hK hf hm).mono ?_
 rintro e w' (⟨n1,rfl,F',n3,n4,n5⟩ | ⟨k',T',q',b',gt',F',n1,rfl,n3,n4,n6,n7,n8⟩)
 · refine ⟨none,rfl,ktwo_right h1 h2 h3 h4 h5 h6 ⟨fun x=>T x\/F' x,fun x=>U x\/F' x,⟨fun x hx=>hx.elim (fun h=>Nat.lt_of_lt_of_le (h2.1 x h) n4.size) (n3.lt x),fun x hx=>hx.imp (h2.2.1 x) id,?_⟩,n4.mono (fun x hx=>hFD x hx),fun x hx=> .inl hx,fun x hx=>hx.elim .inl (fun h=>(n5 x h).imp (fun h=>h2.2.1 x (hFD x h)) id),fun x hx=>hx.elim .inl (fun h=>(n5 x h).imp (hFD x) id)⟩⟩
   rw [n1]
   exact ⟨rfl,F',n3,fun x hx=> .inr hx⟩
 · refine ⟨_,rfl,ktwo_right h1 h2 h3 h4 h5 h6 ⟨T',fun x=>U x\/(F' x\/x=b'\/x=q'\/x=gt'),⟨n3.tlt,fun x hx=> ?_,?_⟩,n4.mono (fun x hx=>hFD x hx),n6,n7,fun x hx=>hx.elim .inl (fun h=>(n8 x h).imp (hFD x) id)⟩⟩
   · rcases hx with hx | hx
     · exact n6 x (h2.2.1 x hx)
     · exact n3.ins x hx
   · rw [n1]
     exact ⟨q',b',gt',F',rfl,n3,fun x hx=> .inr hx⟩
theorem putsV_len9:∀ (l:List PutV),(∀ p ∈ l,p.1.length<=100000000/\p.2.1.length<=100000000)->(putsV l).length<=l.length*19+sizeP l
 | [],_=>by simp [putsV]
 | p::l,h=>by
  have h1:=h p (by simp)
  have ih:=putsV_len9 l (fun q hq=>h q (by simp [hq]))
  have e:putsV (p::l)=putV1 p++putsV l:=rfl
  have k1:=putL_length9 (n:=p.1.length) (by omega)
  have k2:=putL_length9 (n:=p.2.1.length) (by omega)
  have hp:(putV1 p).length<=19+(p.1.length+p.2.1.length):=by
   unfold putV1
   split
   · rw [List.length_cons,partP,List.length_append];omega
   · rw [List.length_cons,List.length_append,partP,partP,List.length_append,List.length_append];omega
  rw [e,List.length_append,List.length_cons,Nat.succ_mul,sizeP_cons]
  omega
theorem batch_len9 {l:List PutV} (hl:l.length<=100000000) (h:∀ p ∈ l,p.1.length<=100000000/\p.2.1.length<=100000000):(batchL l).length<=9+(l.length*19+sizeP l):=by
 have h1:=putsV_len9 l h
 have h2:=putL_length9 (n:=l.length) (by omega)
 rw [batchL,List.length_append]
 omega
structure Bound (k:KvS) (c:Nat):Prop where
 len:k.L.length<=4000+60*c
 size:sizeT k.L<=4000+60000*c
theorem bound_of {l:List PutV} (hb:Bound k c) (hc:c<=100) (hs:Srt k.L) (hl:FewV l):(batchL l).length<=140737488000000/\(batchL (allP (doAll l k.L))).length<=140737488000000/\k.L.length+l.length<=99999/\sizeT k.L+sizeP l<=1000000000/\(doAll l k.L).length<=4000+60*(c+1)/\sizeT (doAll l k.L)<=4000+60000*(c+1):=by
 have k1:=hl.1
 have k2:=hl.size
 have k3:=doAll_length (l:=l) hs
 have k4:=size_doAll (l:=l) hs
 have b1:=hb.len
 have b2:=hb.size
 have k5:=batch_len9 (l:=l) (by omega) (fun p hp=>by have:=hl.2 p hp;omega)
 have k6:(allP (doAll l k.L)).length=(doAll l k.L).length:=by unfold allP;rw [List.length_map]
 have k7:=batch_len9 (l:=allP (doAll l k.L)) (by omega) (fun p hp=>by
  unfold allP at hp
  obtain ⟨x,hx,rfl⟩:=List.mem_map.1 hp
  have:=sizeT_mem hx
  constructor
  · show x.1.length<=_;omega
  · show x.2.length<=_;omega)
 rw [sizeP_allP,k6] at k7
 exact ⟨by omega,by omega,by omega,by omega,by omega,by omega⟩
theorem KTwo.commit {m c1 c:Nat} {P:Addr} (k':KTwo w0 w g r h s t (some k) kr (some P) Q xs) (hf:s.Few m) (hm:m<=690000) (hb:Bound k c) (hc:c<=100) {A:Option Addr} {ps:List PPut} {n:Nat} (hp:PutsSeen w0 A ps) (hn:ps.length=n) (hl:FewV (valsOf ps)):
 Calls Tryz.prog 15 #[.pointer (some P),.slice A n c1] w fun e w'=>e= .returned (.int .i64 (commitL h s k (valsOf ps)).1)/\KTwo w0 w' g r h (commitL h s k (valsOf ps)).2.1 t (some (commitL h s k (valsOf ps)).2.2) kr (some P) Q xs:=by
 obtain ⟨T,D,U,h1,h2,h3,h4,h5,h6⟩:=k'
 have hh:=h1.2.2
 obtain ⟨q,b,gt,F,e,p,hD⟩:=hh
 injection e with e
 subst e
 obtain ⟨b1,b2,b3,b4,_⟩:=bound_of hb hc p.tree.srt hl
 rw [valsOf_length,hn] at b3
 refine (kcommit_any w T q g b gt F h s k A ps n c1 m p (fun W hW=>hp.below (hW.below h4 (fun x hx=>h5 x (p.ins x hx)))) hn (by omega) hf hm b3 b4 b1 b2).mono ?_
 rintro e w' ⟨rfl,T',b',gt',F',p',m1,m2,m3,m4⟩
 refine ⟨rfl,ktwo_left h1 h2 h3 h4 h5 h6 ⟨T',fun x=>D x\/(F' x\/x=b'\/x=gt'),⟨p'.tlt,fun x hx=> ?_,q,b',gt',F',rfl,p',fun x hx=> ?_⟩,m1.mono (fun x hx=>hD x hx),m2,m3,fun x hx=> ?_⟩⟩
 · rcases hx with hx | hx | hx | hx
   · exact m2 x (h1.2.1 x hx)
   · exact p'.ins x (.inl hx)
   · exact p'.ins x (.inr (.inl hx))
   · exact p'.ins x (.inr (.inr (.inr hx)))
 · rcases hx with hx | hx | hx | hx
   · exact .inr (.inl hx)
   · exact .inr (.inr (.inl hx))
   · exact .inl (hD x (.inr (.inr (.inl hx))))
   · exact .inr (.inr (.inr hx))
 · rcases hx with hx | hx
   · exact .inl hx
   · refine (m4 x hx).imp (fun h=>hD x ?_) id
     rcases h with h | h | h
     · exact .inl h
     · exact .inr (.inl h)
     · exact .inr (.inr (.inr h))
theorem KTwo.rcommit {m c1 c:Nat} {Q:Addr} (k':KTwo w0 w g r h s t kp (some k) P (some Q) xs) (hf:t.Few m) (hm:m<=690000) (hb:Bound k c) (hc:c<=100) {A:Option Addr} {ps:List PPut} {n:Nat} (hp:PutsSeen w0 A ps) (hn:ps.length=n) (hl:FewV (valsOf ps)):
 Calls Tryz.prog 16 #[.pointer (some Q),.slice A n c1] w fun e w'=>e= .returned (.int .i64 (commitL h t k (valsOf ps)).1)/\KTwo w0 w' g r h s (commitL h t k (valsOf ps)).2.1 kp (some (commitL h t k (valsOf ps)).2.2) P (some Q) xs:=by
 obtain ⟨T,D,U,h1,h2,h3,h4,h5,h6⟩:=k'
 have hh:=h2.2.2
 obtain ⟨q,b,gt,F,e,p,hD⟩:=hh
 injection e with e
 subst e
 obtain ⟨b1,b2,b3,b4,_⟩:=bound_of hb hc p.map.2.1 hl
 rw [valsOf_length,hn] at b3
 refine (rcommit_any w T q r b gt F h t k A ps n c1 m p (hp.below h4) hn (by omega) hf hm b3 b4 b1 b2).mono ?_
 rintro e w' ⟨rfl,T',b',gt',F',p',m1,m2,m3,m4⟩
 refine ⟨rfl,ktwo_right h1 h2 h3 h4 h5 h6 ⟨T',fun x=>U x\/(F' x\/x=b'\/x=gt'),⟨p'.tlt,fun x hx=> ?_,q,b',gt',F',rfl,p',fun x hx=> ?_⟩,m1.mono (fun x hx=>hD x ?_),m2,m3,fun x hx=> ?_⟩⟩
 · rcases hx with hx | hx | hx | hx
   · exact m2 x (h2.2.1 x hx)
   · exact p'.ins x (.inl hx)
   · exact p'.ins x (.inr (.inl hx))
   · exact p'.ins x (.inr (.inr (.inr hx)))
 · rcases hx with hx | hx | hx | hx
   · exact .inr (.inl hx)
   · exact .inr (.inr (.inl hx))
   · exact .inl (hD x (.inr (.inr (.inl hx))))
   · exact .inr (.inr (.inr hx))
 · rcases hx with hx | hx | hx
   · exact .inl hx
   · exact .inr (.inl hx)
   · exact .inr (.inr (.inl hx))
 · rcases hx with hx | hx
   · exact .inl hx
   · refine (m4 x hx).imp (fun h=>hD x ?_) id
     rcases h with h | h | h
     · exact .inl h
     · exact .inr (.inl h)
     · exact .inr (.inr (.inr h))
end
theorem less_nil (a:List UInt8):Op.bytesLess a []=false:=by cases a<;>rfl
theorem less_start (c:UInt8) (r:List UInt8):Op.bytesLess [] (c::r)=true:=rfl
theorem less_cons (x y:UInt8) (a b:List UInt8):Op.bytesLess (x::a) (y::b)=(decide (x<y) || (x==y&&Op.bytesLess a b)):=rfl
theorem less_same (x:UInt8) (a b:List UInt8):Op.bytesLess (x::a) (x::b)=Op.bytesLess a b:=by
 rw [less_cons];simp [UInt8.lt_irrefl]
theorem less_first {x y:UInt8} (h:x≠y) (a b:List UInt8):Op.bytesLess (x::a) (y::b)=decide (x<y):=by
 rw [less_cons];simp [h]
def behindL (p:List UInt8):List UInt8:=
 match p.reverse.dropWhile (· ==255) with
 | []=>[]
 | c::r=>r.reverse++[c+1]
theorem behind_form (p:List UInt8):(∃ m,p=List.replicate m 255/\behindL p=[])\/∃ q c m,c≠255/\p=q++c::List.replicate m 255/\behindL p=q++[c+1]:=by
 have key:∀ r:List UInt8,(∃ m,r=List.replicate m 255/\r.dropWhile (· ==255)=[])\/∃ q c m,c≠255/\r=List.replicate m 255++c::q/\r.dropWhile (· ==255)=c::q:=by
  intro r
  induction r with
  | nil=>exact .inl ⟨0,rfl,rfl⟩
  | cons x r ih=>
   by_cases hx:x=255
   · subst hx
     rcases ih with ⟨m,h1,h2⟩ | ⟨q,c,m,hc,h1,h2⟩
     · exact .inl ⟨m+1,by rw [h1,List.replicate_succ,<-h1],by simpa using h2⟩
     · exact .inr ⟨q,c,m+1,hc,by rw [h1,List.replicate_succ];rfl,by simpa using h2⟩
   · exact .inr ⟨r,x,0,hx,rfl,by simp [hx]⟩
 rcases key p.reverse with ⟨m,h1,h2⟩ | ⟨q,c,m,hc,h1,h2⟩
 · refine .inl ⟨m,?_,by rw [behindL,h2]⟩
   have:=congrArg List.reverse h1
   simpa using this
 · refine .inr ⟨q.reverse,c,m,hc,?_,by rw [behindL,h2]⟩
   have:=congrArg List.reverse h1
   simpa using this
theorem highs (m:Nat) (b:List UInt8):List.replicate m 255 <+: b↔Op.bytesLess b (List.replicate m 255)=false:=by
 induction m generalizing b with
 | zero=>simp [less_nil]
 | succ m ih=>
  rw [List.replicate_succ]
  cases b with
  | nil=>simp [less_start]
  | cons y b=>
   rw [List.cons_prefix_cons]
   by_cases hy:y=255
   · subst hy
     rw [less_same,<-ih]
     simp
   · rw [less_first hy]
     have h1:y<255:=by
      rw [UInt8.lt_iff_toNat_lt]
      have h2:=y.toNat_lt
      have h3:y.toNat≠255:=fun e=>hy (UInt8.toNat_inj.1 e)
      show y.toNat<255
      omega
     simp [h1,Ne.symm hy]
theorem succ_nat {c:UInt8} (h:c≠255):(c+1).toNat=c.toNat+1:=by
 have h2:=c.toNat_lt
 have h3:c.toNat≠255:=fun e=>h (UInt8.toNat_inj.1 e)
 rw [UInt8.toNat_add]
 show (c.toNat+1)%256=_
 omega
theorem between_one (c:UInt8) (m:Nat) (b:List UInt8) (h:c≠255):(c::List.replicate m 255) <+: b↔(Op.bytesLess b (c::List.replicate m 255)=false/\Op.bytesLess b [c+1]=true):=by
 cases b with
 | nil=>simp [less_start]
 | cons y b=>
  rw [List.cons_prefix_cons,highs]
  have hs:=succ_nat h
  by_cases hy:y=c
  · subst hy
    rw [less_same,less_cons]
    have:y<y+1:=by rw [UInt8.lt_iff_toNat_lt];omega
    simp [this]
  · rw [less_first hy,less_cons,less_nil]
    have hne:y.toNat≠c.toNat:=fun e=>hy (UInt8.toNat_inj.1 e)
    simp only [UInt8.lt_iff_toNat_lt,hs,Bool.and_false,Bool.or_false,decide_eq_false_iff_not,decide_eq_true_eq]
    constructor
    · rintro ⟨rfl,_⟩;exact absurd rfl hy
    · rintro ⟨h1,h2⟩;omega
theorem between_on (q p h b:List UInt8) (hp:∀ b,p <+: b↔(Op.bytesLess b p=false/\Op.bytesLess b h=true)):q++p <+: b↔(Op.bytesLess b (q++p)=false/\Op.bytesLess b (q++h)=true):=by
 induction q generalizing b with
 | nil=>exact hp b
 | cons x q ih=>
  rw [List.cons_append,List.cons_append]
  cases b with
  | nil=>simp [less_start]
  | cons y b=>
   rw [List.cons_prefix_cons]
   by_cases hy:y=x
   · subst hy
     rw [less_same,less_same,<-ih]
     simp
   · rw [less_first hy,less_first hy]
     simp [Ne.symm hy]
theorem between (p b:List UInt8):p <+: b↔(Op.bytesLess b p=false/\(behindL p=[]\/Op.bytesLess b (behindL p)=true)):=by
 rcases behind_form p with ⟨m,h1,h2⟩ | ⟨q,c,m,hc,h1,h2⟩
 · rw [h2,h1,highs];simp
 · rw [h2,h1,between_on q (c::List.replicate m 255) [c+1] b (fun b=>between_one c m b hc)]
   simp
theorem Seen.first {w:World} {A:Option Addr} {l:List UInt8} (h:Seen w A l) (n:Nat):Seen w A (l.take n):=by
 rcases h with rfl | ⟨b,off,rfl,hlt,hc⟩
 · exact .inl (by simp)
 · refine .inr ⟨b,off,rfl,hlt,fun j hj=> ?_⟩
   rw [List.length_take] at hj
   rw [List.getElem_take]
   exact hc j (by omega)
theorem prefix_take (b p:List UInt8):p <+: b↔b.take p.length=p:=by
 constructor
 · rintro ⟨t,rfl⟩;simp
 · intro h;rw [<-h];exact List.take_prefix _ _
set_option maxRecDepth 100000 in
set_option maxHeartbeats 400000 in
theorem refBegins_any (A:Option Addr) (b:List UInt8) (n c:Nat) (B:Option Addr) (p:List UInt8) (m d:Nat) (w:World) (hn:b.length=n) (hm:p.length=m) (hs:Seen w A b) (hs':Seen w B p) (hc:n<=c) (hm':m<=140737488355328):
 Calls Tryz.prog 94 #[.slice A n c,.slice B m d] w fun e w'=>e= .returned (.bool (decide (p <+: b)))/\Below w.heap.size w w':=by
 by_cases hle:m<=n
 · have hq:=text_beq (b.take m) p
   have U1:=text_on (hs.first m) m c (by rw [List.length_take];omega)
   have U2:=text_on hs' m d hm
   have HV:Hid (decide (p <+: b)=decide (b.take m=p)):=by show _=_;rw [decide_eq_decide,prefix_take,hm]
   rw [HV.out]
   clear HV
   generalize (⟨(b.take m).toArray⟩:ByteArray)=ta at *
   generalize (⟨p.toArray⟩:ByteArray)=tb at *
   have bd:Below w.heap.size w w.drew:=(Below.refl _ _).drew
   have u1:=U1 _ bd
   have u2:=U2 _ bd
   have hd:decide ((m:Int)<=(n:Int))=true:=by simp;omega
   clear hs hs'
   go_enter Tryz.func94,Tryz.ntmps94
   go_wp2_with fail
   go_region
   go_wp2_with fail
   go_ret
   exact ⟨by rw [<-hq];rfl,bd⟩
 · have HV:Hid (decide (p <+: b)=false):=by
    show _=_
    apply decide_eq_false
    intro h
    have:=h.length_le
    omega
   rw [HV.out]
   have bd:Below w.heap.size w w.drew:=(Below.refl _ _).drew
   have hd:decide ((m:Int)<=(n:Int))=false:=by simp;omega
   go_enter Tryz.func94,Tryz.ntmps94
   go_wp2_with fail
   go_region
   go_wp2_with fail
   go_ret
   exact ⟨rfl,bd⟩
end Go.Proofs.YtdaahapbpnjkfaaGreat
