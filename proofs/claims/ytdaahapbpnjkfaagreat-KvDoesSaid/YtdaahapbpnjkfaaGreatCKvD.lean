/-
Plain mathematics of layer 9: what Commit and Open come to on a disk that holds a store, with and without a crash. No program is run here. No conditions.
-/
import Derived.Test.YtdaahapbpnjkfaaGreatCRfKept
import Derived.Test.YtdaahapbpnjkfaaGreatCLgL
import Derived.Test.YtdaahapbpnjkfaaGreatCFEnc
import Derived.Test.YtdaahapbpnjkfaaGreatCDkWrite
import Derived.Test.YtdaahapbpnjkfaaGreatCLgRead
import Derived.Test.YtdaahapbpnjkfaaGreatCCatch
import Derived.Test.YtdaahapbpnjkfaaGreatCRf
namespace Go.Proofs.YtdaahapbpnjkfaaGreat
open Go.RowKit
def rowsDsk (R:List (List UInt8)):Dsk:=⟨R,[],false,0,0⟩
theorem of_rows {l:List UInt8} {n:Nat} {s:Dsk} (h:OfAt l n n s) (hn:l.length=n*64):s=rowsDsk (rowsOf l):=by
 obtain ⟨h1,h2,h3,h4,h5,h6⟩:=h
 have hK:s.K=rowsOf l:=by
  apply List.ext_getElem?
  intro i
  by_cases hi:i<n
  · rw [h6 i hi,List.getElem?_eq_getElem (by rw [rowsOf_length];omega),rowsOf_get]
  · rw [List.getElem?_eq_none (by omega),List.getElem?_eq_none (by rw [rowsOf_length];omega)]
 cases s
 simp only at h2 h3 h4 h5 hK
 subst h2 h3 h4 h5 hK
 rfl
theorem of_wrote {wr w4 w5:World} {r g4 cap4 gk cap':Nat} {vK:Value} {PK:List Piece} {G:Nat->Prop} {s:Dsk} {x:List UInt8} (h:RefIn wr r vK (.slice none 0 0) PK [] false 0 G s) (hb:wr.grownBy w4 none) (hl:x.length=64)
 (hown4:w4.ownsRow 0 5 1 (.slice (some ⟨g4,0,none⟩) (0+64) cap4) (0+64) ([]++x.map bv)) (hge:wr.heap.size=g4) (hlt4:g4<w4.heap.size) (hM:s.M=[]) (hhi:s.K.length+1<=4096)
 (hgr:(w4.alloc (.cells #[.slice (some ⟨g4,0,none⟩) 64 cap4] 22)).grownBy w5 vK.ownBlock)
 (hown5:w5.ownsRow 0 22 1 (.slice (some ⟨gk,0,none⟩) (PK.length+1) cap') (PK.length+1) (PK.map pv++[.slice (some ⟨g4,0,none⟩) 64 cap4])) (hat:vK.ownBlock=some gk\/gk=w4.heap.size+1) (hlt:gk<w5.heap.size):
 RefIn (w5.setCell ⟨r,0,none⟩ (.slice (some ⟨gk,0,none⟩) (PK.length+1) cap')) r (.slice (some ⟨gk,0,none⟩) (PK.length+1) cap') (.slice none 0 0) (PK++[((some ⟨g4,0,none⟩:Option Addr),x,cap4)]) [] false 0 (fun k=>G k\/(wr.heap.size<=k/\k<w5.heap.size)) { s with K:=s.K++[x] }/\
 Spared wr (w5.setCell ⟨r,0,none⟩ (.slice (some ⟨gk,0,none⟩) (PK.length+1) cap')) G/\w5.cell? ⟨r,0,none⟩=some vK/\w5.frozen? ⟨r,0,none⟩=false:=by
 have hbl:Below wr.heap.size wr w4:=⟨hb.os,hb.tape,hb.output,hb.size,fun k hk=>hb.block k hk (by simp)⟩
 have hbl1:=hbl.alloc hb.size (.cells #[.slice (some ⟨g4,0,none⟩) 64 cap4] 22)
 refine ref_kept (q:=((some ⟨g4,0,none⟩:Option Addr),x,cap4)) h hbl1 hgr hl hM hhi ⟨g4,rfl,Nat.le_of_eq hge,?_,fun j hj=> ?_⟩ ?_ (by simpa using hat) hlt
 · simp;omega
 · have hown4':w4.ownsRow 0 5 1 (.slice (some ⟨g4,0,none⟩) 64 cap4) x.length (x.map bv):=by rw [hl];exact hown4
   have hc:=own_bytes hown4' j hj
   rw [World.cell?_alloc_lt _ _ _ hlt4]
   exact hc
 · have e:pv ((some ⟨g4,0,none⟩:Option Addr),x,cap4)= .slice (some ⟨g4,0,none⟩) 64 cap4:=by unfold pv;rw [hl]
   rw [e]
   exact hown5
set_option maxRecDepth 100000 in
set_option maxHeartbeats 1000000 in
theorem refOf_any (w:World) (A:Option Addr) (l:List UInt8) (n c m:Nat) (hn:l.length=n) (hm:n=m*64) (hc:n<=c) (h4:m<=4096) (hs:Seen w A l):
 Calls Tryz.prog 12 #[.slice A n c] w (RFresh w (rowsDsk (rowsOf l))):=by
 have HST:Hid (RefIn (w.alloc (.cells #[.slice none 0 0,.slice none 0 0,.bool false,.bool false,.int .i64 0,.int .i64 0] 50)) w.heap.size (.slice none 0 0) (.slice none 0 0) [] [] false 0 (· =w.heap.size) (rowsDsk [])):=new_start w
 have HB0:Hid (Below w.heap.size w (w.alloc (.cells #[.slice none 0 0,.slice none 0 0,.bool false,.bool false,.int .i64 0,.int .i64 0] 50))):=(Below.refl _ _).alloc (Nat.le_refl _) _
 have HR:Hid ((rowsOf l).length=m):=by show _=_;rw [rowsOf_length];omega
 have HRG:Hid (∀ k (h:k<(rowsOf l).length),(rowsOf l)[k]=(l.drop (k*64)).take 64):=fun k h=>rowsOf_get h
 have HN:=Lib.hid hn
 have HS:=Lib.hid hs
 obtain ⟨R,hR⟩:∃ R,R=rowsOf l:=⟨_,rfl⟩
 rw [<-hR] at HR HRG ⊢
 obtain ⟨iB,hiB,hzB,hsB,hbB⟩:=info_parts infoB
 obtain ⟨i8,hi8,hz8,hs8,hb8⟩:=info_parts info8d
 have HM64:=Lib.hid hm
 clear hR hn hs hm
 go_enter Tryz.func12,Tryz.ntmps12
 go_wp2
 go_loopw [4] (fun a wr=>∃ k j:Nat,j=k*64/\k<=m/\a= .int .i64 j/\(∃ vK PKk G,RefIn wr w.heap.size vK (.slice none 0 0) PKk [] false 0 G (rowsDsk (R.take k))/\∀ q,G q->w.heap.size<=q)/\Below w.heap.size w wr) (fun a _=>m*64-(intOf a).toNat)
 case atStart=>exact ⟨0,0,rfl,Nat.zero_le _,rfl,⟨_,_,_,HST.out,fun q hq=>Nat.le_of_eq hq.symm⟩,HB0.out⟩
 case round=>
  obtain ⟨k,j,hj,hk,rfl,⟨vK,PKk,G,hr,hG⟩,hb⟩:=hrel
  have HRI:=Lib.hid hr
  have HG:=Lib.hid hG
  have HB:=Lib.hid hb
  clear hr hG hb HST HB0
  have hm:=HM64.out
  by_cases hlt:k<m
  · have hkl:(j:Int)+64<=(n:Int):=by omega
    have hkR:k<R.length:=by rw [HR.out];exact hlt
    obtain ⟨A',c',hcut,hs',hl'⟩:=(HS.out.below HB.out).mid_cut n c j (j+64) 64 (j:Int) ((j:Int)+64) rfl (by omega) (by omega) HN.out (by omega) (by omega) hc
    have HT:Hid (R.take (k+1)=R.take k++[(l.drop j).take 64]):=by show _=_;rw [List.take_succ_eq_append_getElem hkR,HRG.out k hkR,hj]
    generalize (l.drop j).take 64=x at *
    obtain ⟨b,off,rfl,hbw,hcc⟩:∃ b off,A'=some ⟨b,off,none⟩/\b<wr.heap.size/\∀ i (h:i<x.length),wr.cell? ⟨b,off+i,none⟩=some (.int .u8 (x[i].toNat:Int)):=by
     rcases hs' with rfl | h
     · simp at hl'
     · exact h
    have HNEWS:Hid (∀ i u,(x.map bv)[i]? =some u->wr.drew.cell? ((⟨b,off,none⟩:Addr).add i)=some u):=fun i u hu=>by
     obtain ⟨hi,hiu⟩:=List.getElem?_eq_some_iff.1 hu
     rw [List.length_map] at hi
     rw [add_plain,<-hiu,List.getElem_map]
     exact hcc i hi
    have HL':=Lib.hid hl'
    obtain ⟨c0,_⟩:=HRI.out.cells
    have f0:=HRI.out.blk.free 0
    have hrlt:=HRI.out.blk.lt
    have hPb:PKk.length<=4096:=by rw [HRI.out.len.2.2.1];exact HRI.out.hi
    have HKL:Hid ((rowsDsk (R.take k)).K.length+1<=4096):=by show (R.take k).length+1<=4096;rw [List.length_take];omega
    have HNK:=Lib.hid hj
    have hw64:IntKind.i64.wrap ((j:Int)+64)=(j:Int)+64:=by rw [IntKind.wrap_i64];omega
    clear hs' hl' hcc hbw hj hm
    go_wp2
    go_region_law (first
     | (
      refine step_append_lies wr.drew rfl (.const (.slice none 0 0)) (.tmp 23) 22 rfl 0 5 i8 (.int .u8 0) 1 1 Tryz.underlying22 hi8 hz8 hs8 hb8 rfl (by decide) (.slice none 0 0) 0 [] (by simp [Act.eval]) (World.ownsRow_nil _ _ _ _) ⟨b,off,none⟩ 64 c' (x.map bv) (by simp [Act.eval,Act.put]) (by rw [List.length_map,HL'.out]) HNEWS.out (bytes_one x) (by decide) (by unfold maxLen;decide) (by decide) (Nat.zero_le _) _ rfl ?_;intro g4 cap4 w4 hown4 hgr4 hat4 hlt4
      have c04:w4.cell? ⟨w.heap.size,0,none⟩=some vK:=(World.cell?_of_block (a:=⟨w.heap.size,0,none⟩) (hgr4.block w.heap.size hrlt (by simp [Value.ownBlock]))).trans c0
      have hr4:w.heap.size<w4.heap.size:=Nat.lt_of_lt_of_le hrlt hgr4.size
      have HO4:=Lib.hid hown4
      have HG4:Hid (wr.grownBy w4 none):=⟨hgr4.os,hgr4.tape,hgr4.output,hgr4.size,hgr4.block⟩
      have HA4:Hid (wr.heap.size=g4):=(by rcases hat4 with e | e;(· cases e);(· exact e.symm))
      have HLT4:=Lib.hid hlt4
      clear hown4 hgr4 hat4 hlt4)
     | (
      refine step_append_lies (w4.alloc (.cells #[.slice (some ⟨g4,0,none⟩) 64 cap4] 22)) rfl (.tmp 18) (.tmp 25) 47 rfl 0 22 iB (.slice none 0 0) 1 24 Tryz.underlying47 hiB hzB hsB hbB rfl (by decide) vK PKk.length (PKk.map pv) (by simp [Act.eval]) (own_kept HRI.out.rowK (fun k e hlt=>(heap_alloc_old w4 _ (Nat.lt_of_lt_of_le hlt HG4.out.size)).trans (HG4.out.block k hlt (by simp)))) ⟨w4.heap.size,0,none⟩ 1 1 [.slice (some ⟨g4,0,none⟩) 64 cap4] (by simp [Act.eval]) rfl (World.news_of_block (heap_alloc_new w4 _)) (by intro u hu;rw [List.mem_singleton.1 hu];rfl) (by decide) (by unfold maxLen;omega) (by omega) (Nat.zero_le _) (w4.heap.size+1) (by simp) ?_;intro gk cap5 w5 hown5 hgr5 hat5 hlt5
      obtain ⟨D1,D2,c05,f05⟩:=of_wrote HRI.out HG4.out HL'.out HO4.out HA4.out HLT4.out rfl HKL.out hgr5 hown5 hat5 hlt5
      have HD1:=Lib.hid D1
      have HD2:=Lib.hid D2
      have HD3:Hid (∀ q,(G q\/(wr.heap.size<=q/\q<w5.heap.size))->w.heap.size<=q):=fun q hq=>hq.elim (HG.out q) (fun h=>Nat.le_trans HB.out.size h.1)
      have HD4:=Lib.hid (D2.below HB.out HG.out)
      clear D1 D2 hown5 hgr5 hat5 hlt5))
    all_goals go_wp2_with fail
    all_goals go_roundw
    all_goals first
     | exact ⟨k+1,j+64,by have:=HNK.out;omega,by omega,by go_num,⟨_,_,_,by rw [HT.out];exact HD1.out,HD3.out⟩,HD4.out⟩
     | (have hjk:=HNK.out;simp [intOf];omega)
  · obtain rfl:k=m:=by omega
    have hkl: ¬ (j:Int)+64<=(n:Int):=by omega
    have ht:R.take k=R:=List.take_of_length_le (by rw [HR.out];exact Nat.le_refl _)
    rw [ht] at HRI
    have hw64:IntKind.i64.wrap ((j:Int)+64)=(j:Int)+64:=by rw [IntKind.wrap_i64];omega
    clear hj ht hm
    go_wp2
    go_ret
    exact ⟨_,_,rfl,⟨_,_,_,_,_,_,HRI.out⟩,HG.out,HB.out⟩
abbrev Box:=Nat × List Value × TypeId
def Two (w:World) (g r:Nat) (s t:Dsk) (xs:List Box) (wr:World):Prop:=
 ∃ F G,DiskAt wr g F s/\RefAt wr r G t/\(∀ q,F q->w.heap.size<=q)/\(∀ q,G q->w.heap.size<=q)/\(∀ q,F q-> ¬ G q)/\Below w.heap.size w wr/\∀ x ∈ xs,Blk wr x.1 x.2.1 x.2.2/\ ¬ F x.1/\ ¬ G x.1/\w.heap.size<=x.1
section
variable {w wr w':World} {g r b c:Nat} {s t s' t':Dsk} {A:Option Addr} {d:List UInt8} {p:List Int} {n q cp:Nat} {i:Int} {xs ys:List Box} {l:Lg} {F G F' G' B:Nat->Prop}
theorem Two.still (h:Two w g r s t xs wr) (hb:Below wr.heap.size wr w'):Two w g r s t xs w':=by
 obtain ⟨F,G,h1,h2,h3,h4,h5,h6,h7⟩:=h
 exact ⟨F,G,h1.still hb,h2.still hb,h3,h4,h5,hop h6 hb,fun x hx=>⟨(h7 x hx).1.below hb (h7 x hx).1.lt,(h7 x hx).2⟩⟩
end
def lp (lo:Option Lg) (b:Nat):Value:= .pointer (lo.map fun _=>⟨b,0,none⟩)
def BgTo (s:Dsk) (f N gen:Int) (d:List UInt8) (E:Int) (s':Dsk) (lo:Option Lg):Prop:=
 (¬ (OnDisk s f N/\1<=gen/\gen<=1152921504606846976)/\E=1/\s'=s/\lo=none)\/
 ((OnDisk s f N/\1<=gen/\gen<=1152921504606846976)/\(Lg.new f.toNat N.toNat gen).err s d≠0/\E=(Lg.new f.toNat N.toNat gen).err s d/\s'=(Lg.new f.toNat N.toNat gen).dsk s d/\lo=none)\/
 ((OnDisk s f N/\1<=gen/\gen<=1152921504606846976)/\(Lg.new f.toNat N.toNat gen).err s d=0/\E=0/\s'=(Lg.new f.toNat N.toNat gen).dsk s d/\lo=some ((Lg.new f.toNat N.toNat gen).next s d))
theorem bg_fits {s s':Dsk} {f N gen E:Int} {d:List UInt8} {lo:Option Lg} {m:Nat} (h:BgTo s f N gen d E s' lo) (ok:s.Ok) (hf:s.Few m):(∀ l,lo=some l->l.Fits s')/\s'.Few (m+1100):=by
 have hc:=(Lg.new f.toNat N.toNat gen).code_fits d
 rcases h with ⟨_,_,rfl,rfl⟩ | ⟨hg,_,_,rfl,rfl⟩ | ⟨hg,_,_,rfl,rfl⟩
 · exact ⟨(fun l h=>by cases h),hf.mono (by omega)⟩
 · exact ⟨(fun l h=>by cases h),(Lg.few (new_fits hg) ok hf).mono (by omega)⟩
 · refine ⟨fun l h=> ?_,(Lg.few (new_fits hg) ok hf).mono (by omega)⟩
   injection h with h
   rw [<-h]
   exact (new_fits hg).next.1
def OpTo (s:Dsk) (f N:Int) (E:Int) (lo:Option Lg) (ds:List (List UInt8)):Prop:=
 (¬ OnDisk s f N/\E=1/\lo=none/\ds=[])\/(OnDisk s f N/\s.off=true/\E=5/\lo=none/\ds=[])\/
 (OnDisk s f N/\s.off=false/\openL (s.bytes f.toNat N.toNat)=none/\E=13/\lo=none/\ds=[])\/
 (OnDisk s f N/\s.off=false/\∃ gen,openL (s.bytes f.toNat N.toNat)=some (gen,ds)/\E=0/\lo=some (Lg.found f.toNat N.toNat gen ds))
theorem op_fits {s:Dsk} {f N E:Int} {lo:Option Lg} {ds:List (List UInt8)} (h:OpTo s f N E lo ds) (ok:s.Ok):(∀ l,lo=some l->l.Fits s)/\ds.length<=262144:=by
 rcases h with ⟨_,_,rfl,rfl⟩ | ⟨_,_,_,rfl,rfl⟩ | ⟨_,_,_,_,rfl,rfl⟩ | ⟨⟨h1,h2,h3⟩,_,gen,hp,_,rfl⟩
 · exact ⟨(fun l h=>by cases h),by simp⟩
 · exact ⟨(fun l h=>by cases h),by simp⟩
 · exact ⟨(fun l h=>by cases h),by simp⟩
 · have hK:=ok.hi
   have hlen:=bytes_length ok (f:=f.toNat) (N:=N.toNat) (by omega)
   obtain ⟨g1,g2,hds,_⟩:=open_some hp
   have hfit:=scan_fits gen _ (s.bytes f.toNat N.toNat) 0 (Nat.le_refl _)
   rw [<-hds,hlen] at hfit
   have hseq:=framesL_seq gen ds 0
   refine ⟨fun l h=> ?_,by omega⟩
   injection h with h
   rw [<-h]
   exact ⟨by show 1<=N.toNat;omega,by show f.toNat+N.toNat<=_;omega,hfit,hseq,g1,g2⟩
section
variable {w wr w':World} {g r:Nat} {s t s' t':Dsk} {A:Option Addr} {d:List UInt8} {n q cp:Nat} {f N gen E:Int} {xs:List Box} {lo:Option Lg} {ds:List (List UInt8)}
theorem two_calls (h:Two w g r s t xs wr):Calls Tryz.prog 22 #[.pointer (some ⟨g,0,none⟩)] wr fun e w'=>e= .returned (.int .i64 (s.calls:Int))/\w'=wr:=by
 obtain ⟨_,_,h,_⟩:=h;exact calls_any h
def ImageTo (T:ByteArray) (n:Nat) (w w':World) (e:Ending):Prop:=
 ∃ A c,e= .returned (.slice A n c)/\(∀ w'',Below w'.heap.size w' w''->(convert 22 9 (.slice A n c)).run Tryz.prog w''= .ok (.string T) w'')/\Below w.heap.size w w'
theorem two_image (h:Two w g r s t xs wr):Calls Tryz.prog 23 #[.pointer (some ⟨g,0,none⟩)] wr fun e w'=>ImageTo ⟨s.K.flatten.toArray⟩ s.K.flatten.length wr w' e:=by
 obtain ⟨_,_,h,_⟩:=h
 refine (image_any wr g _ s h).mono ?_
 rintro e w' ⟨v,rfl,hm⟩
 obtain ⟨A,c,rfl,hs⟩:=hm.form
 exact ⟨A,c,rfl,text_on hs _ c rfl,hm.2⟩
theorem two_refImage (h:Two w g r s t xs wr):Calls Tryz.prog 24 #[.pointer (some ⟨r,0,none⟩)] wr fun e w'=>ImageTo ⟨t.K.flatten.toArray⟩ t.K.flatten.length wr w' e:=by
 obtain ⟨_,_,_,h,_⟩:=h
 refine (refImage_any wr r _ t h).mono ?_
 rintro e w' ⟨v,rfl,hm⟩
 obtain ⟨A,c,rfl,hs⟩:=hm.form
 exact ⟨A,c,rfl,text_on hs _ c rfl,hm.2⟩
theorem two_cells (h:Two w g r s t xs wr):∀ w',Below wr.heap.size wr w'->w'.cell? ⟨r,5,none⟩=some (.int .i64 (t.calls:Int)):=by
 obtain ⟨_,_,_,⟨_,_,_,_,_,_,h⟩,_⟩:=h
 intro w' hb
 exact (h.still hb).cells.2.2.2.2.2
end
structure KvS where
 a:Nat
 lg:Lg
 L:List Kv
 down:Bool
def turnL (h:Nat) (s:Dsk) (k:KvS) (M:List Kv):Int × Dsk × KvS:=
 if 1152921504606846976<=k.lg.gen then (4,s,k)
 else ((Lg.new ((1-k.a)*h) h (k.lg.gen+1)).err s (batchL (allP M)),(Lg.new ((1-k.a)*h) h (k.lg.gen+1)).dsk s (batchL (allP M)),
  if (Lg.new ((1-k.a)*h) h (k.lg.gen+1)).err s (batchL (allP M))=0 then { k with a:=1-k.a,lg:=(Lg.new ((1-k.a)*h) h (k.lg.gen+1)).next s (batchL (allP M)) } else k)
def mayOneV (p:PutV):Bool:=decide (p.1.length<=512)&&decide (p.2.1.length<=8192)
def mayV (l:List PutV):Bool:=decide (l.length<=1000)&&l.all mayOneV
def KvS.ends (k:KvS) (E:Int) (M:List Kv):KvS:= { k with down:=decide (E=5),L:=if E=0 then M else k.L }
def commitL (h:Nat) (s:Dsk) (k:KvS) (l:List PutV):Int × Dsk × KvS:=
 if k.down then (5,s,k) else if mayV l=false then (2,s,k) else if l=[] then (0,s,k)
 else if k.lg.err s (batchL l)=4 then ((turnL h s k (doAll l k.L)).1,(turnL h s k (doAll l k.L)).2.1,(turnL h s k (doAll l k.L)).2.2.ends (turnL h s k (doAll l k.L)).1 (doAll l k.L))
 else (k.lg.err s (batchL l),k.lg.dsk s (batchL l), { k with lg:=k.lg.next s (batchL l) }.ends (k.lg.err s (batchL l)) (doAll l k.L))
structure KvS.Fits (k:KvS) (h:Nat) (s:Dsk):Prop where
 half:Halves s h
 two:k.a<=1
 log:k.lg.Fits s
theorem other_on {s:Dsk} {h a:Nat} (hh:Halves s h):OnDisk s (((1-a)*h:Nat):Int) (h:Int):=by
 have h1:=two_fits (a:=1-a) (by omega) hh.fits
 have h2:=hh.pos
 exact ⟨by omega,by omega,by omega⟩
theorem turn_bg {s:Dsk} {h:Nat} {k:KvS} {M:List Kv} (f:k.Fits h s) (hg: ¬ 1152921504606846976<=k.lg.gen):
 ∃ lo,BgTo s (((1-k.a)*h:Nat):Int) (h:Int) (k.lg.gen+1) (batchL (allP M)) (turnL h s k M).1 (turnL h s k M).2.1 lo/\
  ((turnL h s k M).1=0->lo=some (turnL h s k M).2.2.lg/\(turnL h s k M).2.2= { k with a:=1-k.a,lg:=(turnL h s k M).2.2.lg })/\((turnL h s k M).1≠0->lo=none/\(turnL h s k M).2.2=k):=by
 have hon:OnDisk s (((1-k.a)*h:Nat):Int) (h:Int)/\1<=k.lg.gen+1/\k.lg.gen+1<=1152921504606846976:=⟨other_on f.half,by have:=f.log.gen1;omega,by omega⟩
 unfold turnL
 rw [if_neg hg]
 simp only
 by_cases h0:(Lg.new ((1-k.a)*h) h (k.lg.gen+1)).err s (batchL (allP M))=0
 · rw [if_pos h0]
   refine ⟨_,.inr (.inr ⟨hon,?_,h0,rfl,rfl⟩),fun _=>⟨rfl,rfl⟩,fun h1=>absurd h0 h1⟩
   exact h0
 · rw [if_neg h0]
   refine ⟨none,.inr (.inl ⟨hon,h0,rfl,rfl,rfl⟩),fun h1=>absurd h1 h0,fun _=>⟨rfl,rfl⟩⟩
theorem turn_fits {s:Dsk} {h:Nat} {k:KvS} {M:List Kv} (f:k.Fits h s):(turnL h s k M).2.2.Fits h (turnL h s k M).2.1/\(s.Ok->(turnL h s k M).2.1.Ok)/\(turnL h s k M).2.1.K.length=s.K.length:=by
 by_cases hg:1152921504606846976<=k.lg.gen
 · unfold turnL
   rw [if_pos hg]
   exact ⟨f,id,rfl⟩
 · have hfit:(Lg.new ((1-k.a)*h) h (k.lg.gen+1)).Fits s:=⟨f.half.pos,two_fits (a:=1-k.a) (by omega) f.half.fits,Nat.zero_le _,Nat.le_refl _,by show 1<=k.lg.gen+1;have:=f.log.gen1;omega,by show k.lg.gen+1<=_;omega⟩
   have hn:=hfit.next (d:=batchL (allP M))
   unfold turnL
   rw [if_neg hg]
   refine ⟨?_,hn.2.1,hn.2.2⟩
   have hh:Halves ((Lg.new ((1-k.a)*h) h (k.lg.gen+1)).dsk s (batchL (allP M))) h:=⟨f.half.pos,by rw [hn.2.2];exact f.half.fits⟩
   simp only
   split
   · exact ⟨hh,by show 1-k.a<=1;omega,hn.1⟩
   · exact ⟨hh,f.two,⟨f.log.pos,by rw [hn.2.2];exact f.log.area,f.log.fin,f.log.seq,f.log.gen1,f.log.gen2⟩⟩
theorem turn_few {s:Dsk} {h m:Nat} {k:KvS} {M:List Kv} (f:k.Fits h s) (ok:s.Ok) (hf:s.Few m):(turnL h s k M).2.1.Few (m+1100):=by
 by_cases hg:1152921504606846976<=k.lg.gen
 · unfold turnL
   rw [if_pos hg]
   exact hf.mono (by omega)
 · obtain ⟨lo,hb,_⟩:=turn_bg (M:=M) f hg
   exact (bg_fits hb ok hf).2
def Mild (L:List Kv):Prop:=L.length<=1000000000/\sizeT L<=1000000000
theorem sizeT_mem {L:List Kv} {x:Kv} (h:x ∈ L):x.1.length+x.2.length<=sizeT L:=by
 induction L with
 | nil=>cases h
 | cons y L ih=>
  rw [sizeL_cons]
  rcases List.mem_cons.1 h with rfl | h
  · omega
  · have:=ih h;omega
theorem recs_all {M:List Kv} (hs:Srt M) (hm:Mild M):recsL [batchL (allP M)] []=some M:=by
 rw [recsL_batch (by unfold allP;rw [List.length_map];have:=hm.1;omega),do_all hs]
 intro p hp
 unfold allP at hp
 obtain ⟨x,hx,rfl⟩:=List.mem_map.1 hp
 have h1:=sizeT_mem hx
 have h2:=hm.2
 constructor
 · show x.1.length<=_;omega
 · show x.2.length<=_;omega
theorem recs_batch {l:List PutV} (h:mayV l=true) (L:List Kv):recsL [batchL l] L=some (doAll l L):=by
 unfold mayV at h
 rw [Bool.and_eq_true,decide_eq_true_eq,List.all_eq_true] at h
 refine recsL_batch (by have:=h.1;omega) (fun p hp=> ?_) L
 have h2:=h.2 p hp
 unfold mayOneV at h2
 rw [Bool.and_eq_true,decide_eq_true_eq,decide_eq_true_eq] at h2
 omega
def kvAt (h a:Nat) (g:Int) (ds:List (List UInt8)) (L:List Kv):KvS:=⟨a,kvLog h a g ds,L,false⟩
def CommitTo (h:Nat) (s:Dsk) (a:Nat) (g:Int) (ds:List (List UInt8)) (L M:List Kv) (E:Int) (s':Dsk) (k':KvS):Prop:=
 (E=0/\∃ a' g' ds',KvOn s' h a' g' ds' M/\k'=kvAt h a' g' ds' M/\(s.Quiet->s'.Quiet)/\g<=g'/\g'<=g+1)\/
 (E=4/\s'=s/\k'=kvAt h a g ds L)\/
 (E=5/\ ¬ s.Quiet/\k'.down=true/\∀ pick,∃ a' g' ds' N,KvOn (s'.crash pick) h a' g' ds' N/\(N=L\/N=M))
theorem commit_none {h:Nat} {s:Dsk} {k:KvS} (hd:k.down=false):commitL h s k []=(0,s,k):=by
 unfold commitL
 rw [if_neg (by rw [hd];decide),if_neg (by decide),if_pos rfl]
theorem commit_to {h a:Nat} {s:Dsk} {g:Int} {ds:List (List UInt8)} {L:List Kv} {l:List PutV} (k:KvOn s h a g ds L) (hm:mayV l=true) (hl:l≠[]) (hM:Mild (doAll l L)):
 CommitTo h s a g ds L (doAll l L) (commitL h s (kvAt h a g ds L) l).1 (commitL h s (kvAt h a g ds L) l).2.1 (commitL h s (kvAt h a g ds L) l).2.2:=by
 have hsrt:Srt (doAll l L):=k.srt.doAll l
 have hrec:=recs_batch hm L
 have hall:=recs_all hsrt hM
 have happ:=k.append hrec
 have e0:commitL h s (kvAt h a g ds L) l=if (kvLog h a g ds).err s (batchL l)=4 then ((turnL h s (kvAt h a g ds L) (doAll l L)).1,(turnL h s (kvAt h a g ds L) (doAll l L)).2.1,(turnL h s (kvAt h a g ds L) (doAll l L)).2.2.ends (turnL h s (kvAt h a g ds L) (doAll l L)).1 (doAll l L)) else ((kvLog h a g ds).err s (batchL l),(kvLog h a g ds).dsk s (batchL l),({ kvAt h a g ds L with lg:=(kvLog h a g ds).next s (batchL l) }:KvS).ends ((kvLog h a g ds).err s (batchL l)) (doAll l L)):=by
  unfold commitL
  rw [if_neg (by show ¬ (false=true);decide),if_neg (by rw [hm];decide),if_neg hl]
  rfl
 rw [e0]
 rcases happ with ⟨h1,h2,h3⟩ | ⟨h1,h2,h3,h4⟩ | ⟨h1,h2,h3⟩
 · rw [if_pos h1]
   by_cases hg:1152921504606846976<=g
   · have e1:turnL h s (kvAt h a g ds L) (doAll l L)=(4,s,kvAt h a g ds L):=if_pos hg
     rw [e1]
     exact .inr (.inl ⟨rfl,rfl,rfl⟩)
   · have e1:turnL h s (kvAt h a g ds L) (doAll l L)=((Lg.new ((1-a)*h) h (g+1)).err s (batchL (allP (doAll l L))),(Lg.new ((1-a)*h) h (g+1)).dsk s (batchL (allP (doAll l L))),if (Lg.new ((1-a)*h) h (g+1)).err s (batchL (allP (doAll l L)))=0 then ⟨1-a,(Lg.new ((1-a)*h) h (g+1)).next s (batchL (allP (doAll l L))),L,false⟩ else kvAt h a g ds L):=if_neg hg
     rw [e1]
     rcases k.turn hall (by omega) with ⟨t1,t2⟩ | ⟨t1,t2,t3,t4⟩ | ⟨t1,t2,t3⟩
     · rw [t1,t2]
       exact .inr (.inl ⟨rfl,rfl,rfl⟩)
     · rw [t1,t3]
       exact .inl ⟨rfl,_,_,_,t2,rfl,t4,by omega,by omega⟩
     · rw [t1]
       exact .inr (.inr ⟨rfl,t2,rfl,fun pick=>(t3 pick).elim (fun h=>⟨_,_,_,_,h,.inl rfl⟩) (fun h=>⟨_,_,_,_,h,.inr rfl⟩)⟩)
 · rw [if_neg (by rw [h1];decide),h1,h3]
   exact .inl ⟨rfl,_,_,_,h2,rfl,h4,by omega,by omega⟩
 · rw [if_neg (by rw [h1];decide),h1]
   exact .inr (.inr ⟨rfl,h2,rfl,fun pick=>(h3 pick).elim (fun h=>⟨_,_,_,_,h,.inl rfl⟩) (fun h=>⟨_,_,_,_,h,.inr rfl⟩)⟩)
def pickL (h:Nat) (s:Dsk):Option (Nat × Int × List (List UInt8)):=
 match openL (s.bytes 0 h),openL (s.bytes h h) with
 | none,none=>none
 | some x,none=>some (0,x)
 | none,some y=>some (1,y)
 | some x,some y=>if x.1<y.1 then some (1,y) else some (0,x)
def openK (h:Nat) (s:Dsk):Int × Dsk × Option KvS:=
 if h<1 then (1,s,none) else if s.off=true then (5,s,none) else
 match pickL h s with
 | none=>((Lg.new 0 h 1).err s (batchL []),(Lg.new 0 h 1).dsk s (batchL []),if (Lg.new 0 h 1).err s (batchL [])=0 then some ⟨0,(Lg.new 0 h 1).next s (batchL []),[],false⟩ else none)
 | some (a,g,ds)=>match recsL ds [] with
  | none=>(3,s,none)
  | some L=>(0,s,some (kvAt h a g ds L))
section
variable {s:Dsk} {h a:Nat} {g:Int} {ds:List (List UInt8)} {L:List Kv}
theorem KvOn.pick (k:KvOn s h a g ds L):pickL h s=some (a,g,ds):=by
 have h1:=k.mine
 have h2:=fun g' es=>k.other (g':=g') (es:=es)
 have ha:=k.two
 unfold pickL
 rcases Nat.lt_or_ge a 1 with h0 | h0
 · obtain rfl:a=0:=by omega
   rw [Nat.zero_mul] at h1
   rw [show (1-0)*h=h by omega] at h2
   rw [h1]
   cases e:openL (s.bytes h h) with
   | none=>rfl
   | some y=>
    have:=h2 y.1 y.2 e
    show (if g<y.1 then _ else _)=_
    rw [if_neg (by omega)]
 · obtain rfl:a=1:=by omega
   rw [Nat.one_mul] at h1
   rw [show (1-1)*h=0 by omega] at h2
   rw [h1]
   cases e:openL (s.bytes 0 h) with
   | none=>rfl
   | some x=>
    have:=h2 x.1 x.2 e
    show (if x.1<g then _ else _)=_
    rw [if_pos this]
theorem open_off (hh:1<=h) (ho:s.off=true):openK h s=(5,s,none):=by
 unfold openK
 rw [if_neg (by omega),if_pos ho]
theorem KvOn.open_ (k:KvOn s h a g ds L) (ho:s.off=false):openK h s=(0,s,some (kvAt h a g ds L)):=by
 unfold openK
 rw [if_neg (by have:=k.half.pos;omega),if_neg (by rw [ho];decide),k.pick]
 simp only
 rw [k.recs]
theorem KvNo.pick (k:KvNo s h):pickL h s=none:=by unfold pickL;rw [k.none1,k.none2]
theorem first_fits (hh:1<=h):(Lg.new 0 h 1).full (batchL [])=false:=by
 have hc:((Lg.new 0 h 1).code (batchL [])).length=23:=by
  show (encF 1 ((0:Nat):Int) (batchL [])).length=23
  decide +kernel
 unfold Lg.full
 rw [hc,Bool.or_eq_false_iff]
 refine ⟨by decide,decide_eq_false ?_⟩
 show ¬ (h*64-0<23)
 omega
end
end Go.Proofs.YtdaahapbpnjkfaaGreat
