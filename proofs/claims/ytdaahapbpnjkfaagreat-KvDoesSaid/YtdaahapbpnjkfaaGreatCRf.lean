/-
The document's disk: how it lies in memory. No program is run here.
-/
import Derived.Test.YtdaahapbpnjkfaaGreatCTrScan
import Derived.Test.YtdaahapbpnjkfaaGreatCKvA
import Derived.Test.YtdaahapbpnjkfaaGreatCKvRows
import Derived.Test.YtdaahapbpnjkfaaGreatCLgL
namespace Go.Proofs.YtdaahapbpnjkfaaGreat
open Go.RowKit
theorem put_length {L:List Kv} (hs:Srt L) (k v:Key):(putT k v L).length=if hasL k L then L.length else L.length+1:=by
 have h1:=(sizeL_put k v L).2
 cases hh:hasL k L
 · rw [delL_not hs hh] at h1;exact h1
 · have:=(sizeL_has hs hh).2
   rw [if_pos rfl];omega
theorem visit_all (mo:Int):∀ (l acc:List Kv),(acc.length:Int)+(l.length:Int)<=mo->(visit [] mo acc l).1=acc++l:=by
 intro l
 induction l with
 | nil=>intro acc _;rw [List.append_nil];rfl
 | cons x r ih=>
  intro acc h
  rw [List.length_cons] at h
  have hsee:see [] mo acc x=(acc++[x],decide ((acc.length:Int)+1<mo)):=by unfold see;rw [if_neg (fun h=>h.1 rfl)]
  rw [visit,hsee]
  by_cases hlt:(acc.length:Int)+1<mo
  · rw [if_pos (decide_eq_true hlt),ih _ (by rw [List.length_append,List.length_singleton];omega),List.append_assoc];rfl
  · rw [if_neg (by rw [decide_eq_false hlt];simp)]
    have:r=[]:=List.eq_nil_of_length_eq_zero (by omega)
    rw [this]
theorem since_nil (l:List Kv):since [] l=l:=List.filter_eq_self.2 (fun x _=>by rw [ltK_nil];rfl)
theorem scan_all (mo:Int) (L:List Kv) (h:(L.length:Int)<=mo) (h1:1<=mo):scanT [] [] mo L=L:=by
 unfold scanT
 rw [if_neg (by omega),since_nil,visit_all mo L [] (by simpa using h)]
 rfl
theorem TreeAt.srt {w:World} {F:Nat->Prop} {g:Nat} {room:Int} {L:List Kv} (t:TreeAt w F g room L):Srt L:=by
 obtain ⟨_,_,h,p,hr,_⟩:=t
 exact hr.srt
def upTo (to:Key) (x:Kv):Bool:=to.isEmpty || ltK x.1 to
def doV (L:List Kv) (p:PutV):List Kv:=if p.2.2=true then delL p.1 L else putT p.1 p.2.1 L
def doAll (l:List PutV) (L:List Kv):List Kv:=l.foldl doV L
theorem doV_clear (L:List Kv) (p:PutV):doV L (clearV p)=doV L p:=by
 unfold clearV
 split
 · rename_i h;unfold doV;rw [if_pos rfl,if_pos h]
 · rfl
theorem doAll_clear (l:List PutV):∀ L,doAll (l.map clearV) L=doAll l L:=by
 induction l with
 | nil=>intro L;rfl
 | cons p l ih=>intro L;show doAll (l.map clearV) (doV L (clearV p))=doAll l (doV L p);rw [doV_clear];exact ih _
theorem doAll_append (a b:List PutV) (L:List Kv):doAll (a++b) L=doAll b (doAll a L):=List.foldl_append ..
theorem Srt.doV {L:List Kv} (h:Srt L) (p:PutV):Srt (doV L p):=by
 unfold Go.Proofs.YtdaahapbpnjkfaaGreat.doV
 split
 · exact h.del _
 · exact h.put _ _
theorem Srt.doAll {L:List Kv} (h:Srt L) (l:List PutV):Srt (doAll l L):=by
 induction l generalizing L with
 | nil=>exact h
 | cons p l ih=>exact ih (h.doV p)
theorem del_length {L:List Kv} (hs:Srt L) (k:Key):(delL k L).length<=L.length:=by
 cases hh:hasL k L
 · rw [delL_not hs hh];exact Nat.le_refl _
 · have:=(sizeL_has hs hh).2;omega
theorem doV_length {L:List Kv} (hs:Srt L) (p:PutV):(doV L p).length<=L.length+1:=by
 unfold doV
 split
 · have:=del_length hs p.1;omega
 · rw [put_length hs];split<;>omega
theorem doAll_length {l:List PutV}:∀ {L:List Kv},Srt L->(doAll l L).length<=L.length+l.length:=by
 induction l with
 | nil=>intro L _;exact Nat.le_refl _
 | cons p l ih=>
  intro L hs
  have h1:=ih (hs.doV p)
  have h2:=doV_length hs p
  rw [List.length_cons]
  show (doAll l (doV L p)).length<=_
  omega
def allP (L:List Kv):List PutV:=L.map fun x=>(x.1,x.2,false)
theorem do_allP (M:List Kv):∀ L,Srt (M++L)->doAll (allP L) M=M++L:=by
 intro L
 induction L generalizing M with
 | nil=>intro _;show M=_;rw [List.append_nil]
 | cons x L ih=>
  intro hs
  have h1:doV M (x.1,x.2,false)=M++[x]:=by
   show putT x.1 x.2 M=_
   unfold putT
   have hlt:=(Srt.append.1 hs).2.2
   rw [low_all (fun y hy=>hlt y hy x (List.mem_cons_self ..)),high_none (fun y hy=>ltK_asymm (hlt y hy x (List.mem_cons_self ..)))]
  show doAll (allP L) (doV M (x.1,x.2,false))=_
  rw [h1,ih (M++[x]) (by rw [List.append_assoc];exact hs),List.append_assoc]
  rfl
theorem do_all {L:List Kv} (hs:Srt L):doAll (allP L) []=L:=by
 have:=do_allP [] L hs
 rwa [List.nil_append] at this
def recsL:List (List UInt8)->List Kv->Option (List Kv)
 | [],L=>some L
 | d::ds,L=>match putsL d with
  | none=>none
  | some l=>recsL ds (doAll l L)
theorem recsL_append (a b:List (List UInt8)):∀ L,recsL (a++b) L=(recsL a L).bind (recsL b):=by
 induction a with
 | nil=>intro L;rfl
 | cons d a ih=>
  intro L
  show recsL (d::(a++b)) L=_
  rw [recsL,recsL]
  cases putsL d with
  | none=>rfl
  | some l=>exact ih _
theorem recsL_one {d:List UInt8} {l:List PutV} (h:putsL d=some l) (L:List Kv):recsL [d] L=some (doAll l L):=by
 rw [recsL,h];rfl
theorem recsL_srt:∀ {ds:List (List UInt8)} {L M:List Kv},Srt L->recsL ds L=some M->Srt M:=by
 intro ds
 induction ds with
 | nil=>intro L M h e;injection e with e;rw [<-e];exact h
 | cons d ds ih=>
  intro L M h e
  rw [recsL] at e
  cases hp:putsL d with
  | none=>rw [hp] at e;cases e
  | some l=>rw [hp] at e;exact ih (h.doAll l) e
theorem recsL_batch {l:List PutV} (hl:l.length<=9223372036854775807) (h:∀ p ∈ l,p.1.length<=9223372036854775807/\p.2.1.length<=9223372036854775807) (L:List Kv):recsL [batchL l] L=some (doAll l L):=by
 rw [recsL_one (puts_batch l hl h),doAll_clear]
def OldA (K:List (List UInt8)) (f n:Nat) (g:Int):Prop:=∀ b:List UInt8,b.take 64=(areaOf K f n).flatten.take 64->∀ g' es,openL b=some (g',es)->g'<g
theorem turn_of {g:Int} {d:List UInt8} {ds:List (List UInt8)} {b b':List UInt8} (h:LogAt g 0 (d::ds) b) (g1:1<=g) (g2:g<=1152921504606846976) (hb:b'.take 64=b.take 64):openL b'=none\/∃ es,openL b'=some (g,es):=by
 obtain ⟨hm,t,rfl,_⟩:=h
 have h5:=(mayB_true hm).2.2.2.2
 have hp:=putL3 h5
 have hp0:=putL_pos d.length
 have w8:=wideI_length g
 have w9:=wideI_length ((0:Nat):Int)
 obtain ⟨H,hH⟩:∃ H,H=245::(putL d.length++(wideI g++wideI ((0:Nat):Int))):=⟨_,rfl⟩
 have hl:H.length<=64:=by rw [hH,List.length_cons,List.length_append,List.length_append,w8,w9];omega
 have e1:frameL g ((0:Nat):Int) d++t=H++(d++(sumOf (headL g ((0:Nat):Int) d)++t)):=by
  rw [hH];simp only [frameL,headL,List.cons_append,List.append_assoc]
 rw [e1] at hb
 have e2:b'.take H.length=H:=by
  have:=congrArg (List.take H.length) hb
  rw [List.take_take,List.take_take,Nat.min_eq_left hl,List.take_left' rfl] at this
  exact this
 obtain ⟨u,hu⟩:∃ u,b'=H++u:=⟨b'.drop H.length,by conv=> { lhs;rw [<-List.take_append_drop H.length b'] };rw [e2]⟩
 rcases hd:decF b' with _ | f
 · left;unfold openL;rw [hd]
 · have hr:=(decF_some hd).1
   rw [hu,hH,List.cons_append,readF] at hr
   simp only [List.append_assoc] at hr
   obtain ⟨_,_,_,_,f1,f2⟩:=readR_some hr
   rw [get_put0 _ d.length (by omega)] at f1 f2
   simp only [List.drop_left] at f1 f2
   have d1:List.take 8 (wideI g++(wideI ((0:Nat):Int)++u))=wideI g:=by rw [<-w8];exact List.take_left' rfl
   have d2:List.drop 8 (wideI g++(wideI ((0:Nat):Int)++u))=wideI ((0:Nat):Int)++u:=by rw [<-w8];exact List.drop_left' rfl
   have d3:List.take 8 (wideI ((0:Nat):Int)++u)=wideI ((0:Nat):Int):=by rw [<-w9];exact List.take_left' rfl
   rw [d1,nar_wideI (by omega) (by omega)] at f1
   rw [d2,d3,nar_wideI (by omega) (by omega)] at f2
   right
   unfold openL
   rw [hd]
   simp only
   rw [if_neg (by omega),f1]
   exact ⟨_,rfl⟩
section
variable {s:Dsk} {f n:Nat} {g g':Int} {ds:List (List UInt8)} {K K':List (List UInt8)}
theorem AreaHas.elder (h:AreaHas s f n g ds) (hg:g<g'):OldA s.K f n g':=fun b hb g2 es he=>by
 have hat:=h.at_
 have hs:=h.some
 cases ds with
 | nil=>exact absurd rfl hs
 | cons d ds=>
  rcases turn_of hat h.g1 h.g2 hb with h3 | ⟨es',h3⟩
  · rw [h3] at he;cases he
  · rw [h3] at he;injection he with he;injection he with he _;omega
theorem OldA.first (h:OldA K f n g) (he:(areaOf K' f n).flatten.take 64=(areaOf K f n).flatten.take 64):OldA K' f n g:=fun b hb=>h b (hb.trans he)
theorem OldA.same (h:OldA K f n g) (he:areaOf K' f n=areaOf K f n):OldA K' f n g:=h.first (by rw [he])
theorem OldA.fresh (h:areaOf K f n≠[]) (h0:∀ r ∈ areaOf K f n,r.head? =some 0):OldA K f n g:=fun b hb g2 es he=>by
 cases ha:areaOf K f n with
 | nil=>exact absurd ha h
 | cons r R=>
  have h1:=h0 r (by rw [ha];exact List.mem_cons_self ..)
  rw [ha] at hb
  cases r with
  | nil=>cases h1
  | cons x r=>
   injection h1 with h1
   subst h1
   have h2:b.head? =some 0:=by
    have:=congrArg List.head? hb
    rw [List.flatten_cons,List.cons_append] at this
    cases b with
    | nil=>cases this
    | cons y b=>simpa using this
   have:openL b=none:=by unfold openL;rw [dec_zero (.inr h2)]
   rw [this] at he;cases he
end
structure Halves (s:Dsk) (h:Nat):Prop where
 pos:1<=h
 fits:h+h<=s.K.length
structure KvOn (s:Dsk) (h a:Nat) (g:Int) (ds:List (List UInt8)) (L:List Kv):Prop where
 two:a<=1
 half:Halves s h
 has:AreaHas s (a*h) h g ds
 old:OldA s.K ((1-a)*h) h g
 recs:recsL ds []=some L
structure KvNo (s:Dsk) (h:Nat):Prop where
 half:Halves s h
 ok:s.Ok
 calm:s.M=[]
 one:OldA s.K 0 h 1
 two:OldA s.K h h 1
section
variable {s:Dsk} {h a:Nat} {g:Int} {ds:List (List UInt8)} {L:List Kv}
theorem two_apart {a h:Nat} (ha:a<=1):a*h+h<=(1-a)*h\/(1-a)*h+h<=a*h:=by
 rcases Nat.lt_or_ge a 1 with h1 | h1
 · obtain rfl:a=0:=by omega
   left;omega
 · obtain rfl:a=1:=by omega
   right;omega
theorem two_fits {a h N:Nat} (ha:a<=1) (hN:h+h<=N):a*h+h<=N:=by
 rcases Nat.lt_or_ge a 1 with h1 | h1
 · obtain rfl:a=0:=by omega
   omega
 · obtain rfl:a=1:=by omega
   omega
theorem KvOn.srt (k:KvOn s h a g ds L):Srt L:=recsL_srt Srt.nil k.recs
theorem KvOn.mine (k:KvOn s h a g ds L):openL (s.bytes (a*h) h)=some (g,ds):=k.has.found
theorem KvOn.other (k:KvOn s h a g ds L) {g':Int} {es:List (List UInt8)} (e:openL (s.bytes ((1-a)*h) h)=some (g',es)):g'<g:=by
 rw [bytes_area k.has.calm] at e
 exact k.old _ rfl g' es e
theorem KvNo.none1 (k:KvNo s h):openL (s.bytes 0 h)=none:=by
 cases e:openL (s.bytes 0 h) with
 | none=>rfl
 | some x=>
  have h1:=(open_some (g:=x.1) (ds:=x.2) e).1
  rw [bytes_area k.calm] at e
  have:=k.one _ rfl x.1 x.2 e
  omega
theorem KvNo.none2 (k:KvNo s h):openL (s.bytes h h)=none:=by
 cases e:openL (s.bytes h h) with
 | none=>rfl
 | some x=>
  have h1:=(open_some (g:=x.1) (ds:=x.2) e).1
  rw [bytes_area k.calm] at e
  have:=k.two _ rfl x.1 x.2 e
  omega
theorem arm_same (s:Dsk) (z:Int):(s.arm z).K=s.K/\(s.arm z).M=s.M:=by unfold Dsk.arm;split<;>exact ⟨rfl,rfl⟩
def kvLog (h a:Nat) (g:Int) (ds:List (List UInt8)):Lg:=Lg.found (a*h) h g ds
theorem KvOn.append (k:KvOn s h a g ds L) {d:List UInt8} {M:List Kv} (hd:recsL [d] L=some M):
 ((kvLog h a g ds).err s d=4/\(kvLog h a g ds).dsk s d=s/\(kvLog h a g ds).next s d=kvLog h a g ds)\/
 ((kvLog h a g ds).err s d=0/\KvOn ((kvLog h a g ds).dsk s d) h a g (ds++[d]) M/\(kvLog h a g ds).next s d=kvLog h a g (ds++[d])/\(s.Quiet->((kvLog h a g ds).dsk s d).Quiet))\/
 ((kvLog h a g ds).err s d=5/\ ¬ s.Quiet/\∀ pick,KvOn (((kvLog h a g ds).dsk s d).crash pick) h a g ds L\/KvOn (((kvLog h a g ds).dsk s d).crash pick) h a g (ds++[d]) M):=by
 have hw:=Lg.within k.has.ok k.has.calm (k.has.fits k.half.pos) d
 have hlen:=((k.has.fits k.half.pos).next (d:=d)).2.2
 have hrec:recsL (ds++[d]) []=some M:=by rw [recsL_append,k.recs];exact hd
 have hap:=two_apart (h:=h) k.two
 have hap2:(1-a)*h+h<=a*h\/a*h+h<=(1-a)*h:=hap.symm
 have hold:∀ {K'},(∀ j,(j<a*h\/a*h+h<=j)->K'[j]? =s.K[j]?)->OldA K' ((1-a)*h) h g:=fun {K'} hK=>k.old.same (areaOf_ext fun j h1 h2=>hK j (by omega))
 rcases k.has.append k.half.pos d with ⟨e1,e2,e3,_⟩ | ⟨e1,e2,e3,e4,_⟩ | ⟨e1,_,e3,e4⟩
 · exact .inl ⟨e1,e2,e3⟩
 · exact .inr (.inl ⟨e1,⟨k.two,⟨k.half.pos,by show _<=((Lg.found (a*h) h g ds).dsk s d).K.length;rw [hlen];exact k.half.fits⟩,e2,hold hw.out,hrec⟩,e3,fun hq=>(e4 hq).1⟩)
 · refine .inr (.inr ⟨e1,e3,fun pick=> ?_⟩)
   have hh:Halves (((kvLog h a g ds).dsk s d).crash pick) h:=⟨k.half.pos,by rw [crash_len];show _<=((Lg.found (a*h) h g ds).dsk s d).K.length;rw [hlen];exact k.half.fits⟩
   rcases e4 pick with e | e
   · exact .inl ⟨k.two,hh,e,hold (hw.crash pick).out,k.recs⟩
   · exact .inr ⟨k.two,hh,e,hold (hw.crash pick).out,hrec⟩
theorem KvOn.turn (k:KvOn s h a g ds L) {d:List UInt8} {M:List Kv} (hd:recsL [d] []=some M) (hg:g+1<=1152921504606846976):
 ((Lg.new ((1-a)*h) h (g+1)).err s d=4/\(Lg.new ((1-a)*h) h (g+1)).dsk s d=s)\/
 ((Lg.new ((1-a)*h) h (g+1)).err s d=0/\KvOn ((Lg.new ((1-a)*h) h (g+1)).dsk s d) h (1-a) (g+1) [d] M/\(Lg.new ((1-a)*h) h (g+1)).next s d=kvLog h (1-a) (g+1) [d]/\(s.Quiet->((Lg.new ((1-a)*h) h (g+1)).dsk s d).Quiet))\/
 ((Lg.new ((1-a)*h) h (g+1)).err s d=5/\ ¬ s.Quiet/\∀ pick,KvOn (((Lg.new ((1-a)*h) h (g+1)).dsk s d).crash pick) h a g ds L\/KvOn (((Lg.new ((1-a)*h) h (g+1)).dsk s d).crash pick) h (1-a) (g+1) [d] M):=by
 have hfits:=two_fits (a:=1-a) (by omega) k.half.fits
 have g1:=k.has.g1
 have hfit:(Lg.new ((1-a)*h) h (g+1)).Fits s:=⟨k.half.pos,hfits,Nat.zero_le _,Nat.le_refl _,by show 1<=g+1;omega,hg⟩
 have hw:=Lg.within k.has.ok k.has.calm hfit d
 have hnx:=hfit.next (d:=d)
 have hap:=two_apart (h:=h) k.two
 have haa:(1-(1-a))=a:=by have:=k.two;omega
 have hsame:∀ {K':List (List UInt8)},(∀ j,(j<(1-a)*h\/(1-a)*h+h<=j)->K'[j]? =s.K[j]?)->areaOf K' (a*h) h=areaOf s.K (a*h) h:=fun {K'} hK=>areaOf_ext fun j h1 h2=>hK j (by omega)
 rcases begin_area k.has.ok k.has.calm hfits k.half.pos (by omega) hg d with ⟨e1,e2,_⟩ | ⟨e1,e2,e3,e4,_⟩ | ⟨e1,e3,e4⟩
 · exact .inl ⟨e1,e2⟩
 · have hs:=hsame hw.out
   exact .inr (.inl ⟨e1,⟨by omega,⟨k.half.pos,by rw [hnx.2.2];exact k.half.fits⟩,e2,by rw [haa];exact (k.has.elder (by omega)).same hs,hd⟩,e3,e4⟩)
 · refine .inr (.inr ⟨e1,e3,fun pick=> ?_⟩)
   have hs:=hsame (hw.crash pick).out
   have hh:Halves (((Lg.new ((1-a)*h) h (g+1)).dsk s d).crash pick) h:=⟨k.half.pos,by rw [crash_len,hnx.2.2];exact k.half.fits⟩
   rcases e4 pick with e | ⟨_,e,_⟩
   · exact .inr ⟨by omega,hh,e,by rw [haa];exact (k.has.elder (by omega)).same hs,hd⟩
   · exact .inl ⟨k.two,hh,k.has.same ((hnx.2.1 k.has.ok).crash pick) rfl (by rw [crash_len,hnx.2.2]) hs,k.old.first e,k.recs⟩
theorem KvNo.begin (k:KvNo s h) {d:List UInt8} (hd:recsL [d] []=some []) (hl:(Lg.new 0 h 1).full d=false):
 ((Lg.new 0 h 1).err s d=0/\KvOn ((Lg.new 0 h 1).dsk s d) h 0 1 [d] []/\(Lg.new 0 h 1).next s d=kvLog h 0 1 [d]/\(s.Quiet->((Lg.new 0 h 1).dsk s d).Quiet))\/
 ((Lg.new 0 h 1).err s d=5/\ ¬ s.Quiet/\∀ pick,KvNo (((Lg.new 0 h 1).dsk s d).crash pick) h\/KvOn (((Lg.new 0 h 1).dsk s d).crash pick) h 0 1 [d] []):=by
 have hfits:0+h<=s.K.length:=by have:=k.half.fits;omega
 have hfit:(Lg.new 0 h 1).Fits s:=⟨k.half.pos,hfits,Nat.zero_le _,Nat.le_refl _,Int.le_refl _,by show (1:Int)<=_;decide⟩
 have hw:=Lg.within k.ok k.calm hfit d
 have hnx:=hfit.next (d:=d)
 have hsame:∀ {K':List (List UInt8)},(∀ j,(j<0\/0+h<=j)->K'[j]? =s.K[j]?)->areaOf K' h h=areaOf s.K h h:=fun {K'} hK=>areaOf_ext fun j h1 h2=>hK j (by omega)
 rcases begin_area (g:=1) k.ok k.calm hfits k.half.pos (by decide) (by decide) d with ⟨_,_,e2⟩ | ⟨e1,e2,e3,e4,_⟩ | ⟨e1,e3,e4⟩
 · rw [hl] at e2;cases e2
 · refine .inl ⟨e1,⟨Nat.zero_le _,⟨k.half.pos,by rw [hnx.2.2];exact k.half.fits⟩,by rw [Nat.zero_mul];exact e2,?_,hd⟩,by rw [e3];unfold kvLog;rw [Nat.zero_mul],e4⟩
   rw [show (1-0)*h=h by omega]
   exact k.two.same (hsame hw.out)
 · refine .inr ⟨e1,e3,fun pick=> ?_⟩
   have hs:=hsame (hw.crash pick).out
   have hh:Halves (((Lg.new 0 h 1).dsk s d).crash pick) h:=⟨k.half.pos,by rw [crash_len,hnx.2.2];exact k.half.fits⟩
   rcases e4 pick with e | ⟨_,e,_⟩
   · refine .inr ⟨Nat.zero_le _,hh,by rw [Nat.zero_mul];exact e,?_,hd⟩
     rw [show (1-0)*h=h by omega]
     exact k.two.same hs
   · exact .inl ⟨hh,(hnx.2.1 k.ok).crash pick,rfl,k.one.first e,k.two.same hs⟩
end
def rfCells (vK vM:Value) (off armed:Bool) (left:Int) (calls:Nat):List Value:=[vK,vM,.bool off,.bool armed,.int .i64 left,.int .i64 (calls:Int)]
def mcell (q:Nat × Piece):List Value:=[.int .i64 (q.1:Int),pv q.2]
theorem mcells_len (PM:List (Nat × Piece)):∀ r ∈ PM.map mcell,r.length=2:=fun r hr=>by obtain ⟨q,_,rfl⟩:=List.mem_map.1 hr;rfl
def Hold (w:World) (r:Nat) (vK vM:Value) (G:Nat->Prop) (q:Piece):Prop:=
 q.2.1.length=64/\∃ b off,q.1=some ⟨b,off,none⟩/\b<w.heap.size/\G b/\b≠r/\vK.ownBlock≠some b/\vM.ownBlock≠some b/\∀ j (h:j<q.2.1.length),w.cell? ⟨b,off+j,none⟩=some (.int .u8 (q.2.1[j].toNat:Int))
structure RefIn (w:World) (r:Nat) (vK vM:Value) (PK:List Piece) (PM:List (Nat × Piece)) (armed:Bool) (left:Int) (G:Nat->Prop) (s:Dsk):Prop where
 blk:Blk w r (rfCells vK vM s.off armed left s.calls) 50
 rowK:w.ownsRow 0 22 1 vK PK.length (PK.map pv)
 rowM:w.ownsRow 0 117 2 vM PM.length (PM.map mcell).flatten
 eqK:PK.map (fun q=>q.2.1)=s.K
 eqM:PM.map (fun q=>(q.1,q.2.2.1))=s.M
 gr:G r
 gK:∀ k,vK.ownBlock=some k->G k/\k≠r
 gM:∀ k,vM.ownBlock=some k->G k/\k≠r
 far:∀ k,vK.ownBlock=some k->vM.ownBlock≠some k
 pK:∀ q ∈ PK,Hold w r vK vM G q
 pM:∀ q ∈ PM,Hold w r vK vM G q.2
 lt:∀ k,G k->k<w.heap.size
 num:∀ p ∈ s.M,p.1<s.K.length
 hi:s.K.length<=4096
 arm:s.off=false->armed=decide (0<s.left)/\(0<s.left->left=(s.left:Int))
def RefAt (w:World) (r:Nat) (G:Nat->Prop) (s:Dsk):Prop:=∃ vK vM PK PM armed left,RefIn w r vK vM PK PM armed left G s
def RMoved (w:World) (r:Nat) (G:Nat->Prop) (s:Dsk) (w':World):Prop:=
 ∃ G',RefAt w' r G' s/\Spared w w' G/\∀ k,G' k->G k\/w.heap.size<=k
section
variable {w w':World} {r:Nat} {vK vM vK' vM':Value} {PK:List Piece} {PM:List (Nat × Piece)} {armed:Bool} {left:Int} {G G':Nat->Prop} {s:Dsk} {q:Piece}
theorem Hold.seen (h:Hold w r vK vM G q):Seen w q.1 q.2.1:=by
 obtain ⟨_,b,off,e,hb,_,_,_,_,hc⟩:=h
 exact .inr ⟨b,off,e,hb,hc⟩
theorem Hold.to (h:Hold w r vK vM G q) (hs:w.heap.size<=w'.heap.size) (hk:∀ b,b<w.heap.size->G b->b≠r->vK.ownBlock≠some b->vM.ownBlock≠some b->w'.heap[b]? =w.heap[b]?) (hG:∀ b,G b->G' b)
 (hK:∀ b,b<w.heap.size->vK.ownBlock≠some b->vK'.ownBlock≠some b) (hM:∀ b,b<w.heap.size->vM.ownBlock≠some b->vM'.ownBlock≠some b):Hold w' r vK' vM' G' q:=by
 obtain ⟨h1,b,off,e,hb,h2,h3,h4,h5,hc⟩:=h
 exact ⟨h1,b,off,e,Nat.lt_of_lt_of_le hb hs,hG b h2,h3,hK b hb h4,hM b hb h5,fun j hj=>(World.cell?_of_block (a:=⟨b,off+j,none⟩) (hk b hb h2 h3 h4 h5)).trans (hc j hj)⟩
theorem RefIn.len (h:RefIn w r vK vM PK PM armed left G s):(∀ x ∈ s.K,x.length=64)/\(∀ p ∈ s.M,p.2.length=64)/\PK.length=s.K.length/\PM.length=s.M.length:=by
 refine ⟨fun x hx=> ?_,fun p hp=> ?_,?_,?_⟩
 · rw [<-h.eqK] at hx
   obtain ⟨q,hq,rfl⟩:=List.mem_map.1 hx
   exact (h.pK q hq).1
 · rw [<-h.eqM] at hp
   obtain ⟨q,hq,rfl⟩:=List.mem_map.1 hp
   exact (h.pM q hq).1
 · rw [<-h.eqK,List.length_map]
 · rw [<-h.eqM,List.length_map]
theorem RefIn.ok (h:RefIn w r vK vM PK PM armed left G s):s.Ok:=⟨h.len.1,h.num,h.len.2.1,h.hi⟩
theorem RefIn.keep (h:RefIn w r vK vM PK PM armed left G s) (hs:w.heap.size<=w'.heap.size) (hk:∀ b,b<w.heap.size->G b->w'.heap[b]? =w.heap[b]?):RefIn w' r vK vM PK PM armed left G s:=
 { h with
  blk:=(hk r h.blk.lt h.gr).trans h.blk
  rowK:=own_kept h.rowK (fun k e hlt=>hk k hlt (h.gK k e).1)
  rowM:=own_kept h.rowM (fun k e hlt=>hk k hlt (h.gM k e).1)
  pK:=fun q hq=>(h.pK q hq).to hs (fun b hb hg _ _ _=>hk b hb hg) (fun _ h=>h) (fun _ _ h=>h) (fun _ _ h=>h)
  pM:=fun q hq=>(h.pM q hq).to hs (fun b hb hg _ _ _=>hk b hb hg) (fun _ h=>h) (fun _ _ h=>h) (fun _ _ h=>h)
  lt:=fun k hg=>Nat.lt_of_lt_of_le (h.lt k hg) hs }
theorem RefIn.still (h:RefIn w r vK vM PK PM armed left G s) (hb:Below w.heap.size w w'):RefIn w' r vK vM PK PM armed left G s:=h.keep hb.size fun b hlt _=>hb.block b hlt
theorem RefAt.still (h:RefAt w r G s) (hb:Below w.heap.size w w'):RefAt w' r G s:=by
 obtain ⟨vK,vM,PK,PM,ar,le,h⟩:=h
 exact ⟨vK,vM,PK,PM,ar,le,h.still hb⟩
theorem RefAt.apart {F:Nat->Prop} (h:RefAt w r G s) (hs:Spared w w' F) (hF:∀ k,G k-> ¬ F k):RefAt w' r G s:=by
 obtain ⟨vK,vM,PK,PM,ar,le,h⟩:=h
 exact ⟨vK,vM,PK,PM,ar,le,h.keep hs.size fun b hlt hg=>hs.block b hlt (hF b hg)⟩
theorem RefAt.ok (h:RefAt w r G s):s.Ok:=by obtain ⟨_,_,_,_,_,_,h⟩:=h;exact h.ok
theorem RefAt.lt (h:RefAt w r G s):∀ k,G k->k<w.heap.size:=by obtain ⟨_,_,_,_,_,_,h⟩:=h;exact h.lt
theorem RMoved.still (h:RefAt w r G s) (hb:Below w.heap.size w w'):RMoved w r G s w':=⟨G,h.still hb,.of_below hb G,fun _ h=> .inl h⟩
theorem RefIn.cells (h:RefIn w r vK vM PK PM armed left G s):w.cell? ⟨r,0,none⟩=some vK/\w.cell? ⟨r,1,none⟩=some vM/\w.cell? ⟨r,2,none⟩=some (.bool s.off)/\w.cell? ⟨r,3,none⟩=some (.bool armed)/\w.cell? ⟨r,4,none⟩=some (.int .i64 left)/\w.cell? ⟨r,5,none⟩=some (.int .i64 (s.calls:Int)):=
 ⟨h.blk.cell (i:=0) (by simp [rfCells]),h.blk.cell (i:=1) (by simp [rfCells]),h.blk.cell (i:=2) (by simp [rfCells]),h.blk.cell (i:=3) (by simp [rfCells]),h.blk.cell (i:=4) (by simp [rfCells]),h.blk.cell (i:=5) (by simp [rfCells])⟩
theorem RefIn.recell (h:RefIn w r vK vM PK PM armed left G s) {s':Dsk} {armed':Bool} {left':Int} {vM':Value} {PM':List (Nat × Piece)} (hc:Blk w' r (rfCells vK vM' s'.off armed' left' s'.calls) 50) (hs:Spared w w' (· =r)) (hK:s'.K=s.K)
 (hM:vM'=vM/\PM'=PM/\s'.M=s.M\/vM'= .slice none 0 0/\PM'=[]/\s'.M=[]) (ha:s'.off=false->armed'=decide (0<s'.left)/\(0<s'.left->left'=(s'.left:Int))):RefIn w' r vK vM' PK PM' armed' left' G s':=by
 have hsz:=hs.size
 have hk:∀ b,b<w.heap.size->b≠r->w'.heap[b]? =w.heap[b]? :=fun b hlt hb=>hs.block b hlt hb
 have hM':∀ b,b<w.heap.size->vM.ownBlock≠some b->vM'.ownBlock≠some b:=by
  rcases hM with ⟨rfl,_⟩ | ⟨rfl,_⟩
  · exact fun _ _ h=>h
  · exact fun _ _ _ e=>by cases e
 refine ⟨?_,?_,?_,?_,?_,h.gr,h.gK,?_,?_,?_,?_,?_,?_,?_,ha⟩
 · exact hc
 · exact own_kept h.rowK (fun k e hlt=>hk k hlt (h.gK k e).2)
 · rcases hM with ⟨rfl,rfl,_⟩ | ⟨rfl,rfl,_⟩
   · exact own_kept h.rowM (fun k e hlt=>hk k hlt (h.gM k e).2)
   · exact World.ownsRow_nil _ _ _ _
 · rw [hK];exact h.eqK
 · rcases hM with ⟨_,rfl,e⟩ | ⟨_,rfl,e⟩<;>rw [e]
   · exact h.eqM
   · rfl
 · rcases hM with ⟨rfl,_⟩ | ⟨rfl,_⟩
   · exact h.gM
   · intro k e;cases e
 · intro k e
   rcases hM with ⟨rfl,_⟩ | ⟨rfl,_⟩
   · exact h.far k e
   · exact fun e=>by cases e
 · exact fun q hq=>(h.pK q hq).to hsz (fun b hlt _ hb _ _=>hk b hlt hb) (fun _ h=>h) (fun _ _ h=>h) hM'
 · rcases hM with ⟨_,rfl,_⟩ | ⟨_,rfl,_⟩
   · exact fun q hq=>(h.pM q hq).to hsz (fun b hlt _ hb _ _=>hk b hlt hb) (fun _ h=>h) (fun _ _ h=>h) hM'
   · intro q hq;simp at hq
 · exact fun k hg=>Nat.lt_of_lt_of_le (h.lt k hg) hsz
 · rcases hM with ⟨_,_,e⟩ | ⟨_,_,e⟩<;>rw [e]
   · rw [hK];exact h.num
   · intro p hp;simp at hp
 · rw [hK];exact h.hi
theorem RefIn.kcell (h:RefIn w r vK vM PK PM armed left G s) (i:Nat) (hi:i<PK.length):∃ kb c,vK= .slice (some ⟨kb,0,none⟩) PK.length c/\w.cell? ⟨kb,i,none⟩=some (pv PK[i])/\w.frozen? ⟨kb,i,none⟩=false:=by
 rcases h.rowK.2 with ⟨_,h0⟩ | ⟨g,cap,cur,hv,_,hg,_⟩
 · omega
 · refine ⟨g,cap,hv,?_,?_⟩
   · have:=h.rowK.cells (g:=g) (by rw [hv];rfl) i (pv PK[i]) (by rw [List.getElem?_map,List.getElem?_eq_getElem hi];rfl)
     rwa [add_plain,Nat.zero_add] at this
   · exact frozen_of_row w g i cur _ hg
theorem RefIn.mcell (h:RefIn w r vK vM PK PM armed left G s) (k:Nat) (hk:k<PM.length):∃ mb c,vM= .slice (some ⟨mb,0,none⟩) PM.length c/\w.cell? ⟨mb,k*2,none⟩=some (.int .i64 (PM[k].1:Int))/\w.cell? ⟨mb,k*2+1,none⟩=some (pv PM[k].2):=by
 rcases h.rowM.2 with ⟨_,h0⟩ | ⟨g,cap,cur,hv,_,hg,_⟩
 · omega
 · refine ⟨g,cap,hv,?_,?_⟩
   · have e:=flat_at (PM.map Go.Proofs.YtdaahapbpnjkfaaGreat.mcell) k 0 (by simpa using hk) (mcells_len PM) (by simp [Go.Proofs.YtdaahapbpnjkfaaGreat.mcell])
     have:=h.rowM.cells (g:=g) (by rw [hv];rfl) _ _ e
     rw [add_plain,Nat.zero_add] at this
     simpa [Go.Proofs.YtdaahapbpnjkfaaGreat.mcell] using this
   · have e:=flat_at (PM.map Go.Proofs.YtdaahapbpnjkfaaGreat.mcell) k 1 (by simpa using hk) (mcells_len PM) (by simp [Go.Proofs.YtdaahapbpnjkfaaGreat.mcell])
     have:=h.rowM.cells (g:=g) (by rw [hv];rfl) _ _ e
     rw [add_plain,Nat.zero_add] at this
     simpa [Go.Proofs.YtdaahapbpnjkfaaGreat.mcell] using this
theorem RefIn.forms (h:RefIn w r vK vM PK PM armed left G s):(∃ A c,vK= .slice A s.K.length c/\c<=maxLen)/\(∃ A c,vM= .slice A s.M.length c/\s.M.length<=maxLen):=by
 obtain ⟨A,c,e,h1,h2,_⟩:=own_form65 h.rowK
 obtain ⟨A',c',e',h1',h2',_⟩:=own_form65 h.rowM
 rw [h.len.2.2.1] at e
 rw [h.len.2.2.2] at e' h1'
 exact ⟨⟨A,c,e,h2⟩,⟨A',c',e',Nat.le_trans h1' h2'⟩⟩
theorem RefIn.swap (h:RefIn w r vK vM PK PM armed left G s) (i:Nat) (_:i<PK.length) (q:Piece) (hq:Hold w r vK vM G q) (kb c:Nat) (hv:vK= .slice (some ⟨kb,0,none⟩) PK.length c):
 RefIn (w.setCell ⟨kb,i,none⟩ (pv q)) r vK vM (PK.set i q) PM armed left G { s with K:=s.K.set i q.2.1 }/\G kb:=by
 have hkb:vK.ownBlock=some kb:=by rw [hv];rfl
 have hsz:w.heap.size<=(w.setCell ⟨kb,i,none⟩ (pv q)).heap.size:=by simp [World.setCell]
 have hk:∀ b,b≠kb->(w.setCell ⟨kb,i,none⟩ (pv q)).heap[b]? =w.heap[b]? :=fun b hb=>heap_setCell_other w ⟨kb,i,none⟩ b (pv q) (fun e=>hb e)
 have hto:∀ x,Hold w r vK vM G x->Hold (w.setCell ⟨kb,i,none⟩ (pv q)) r vK vM G x:=fun x hx=>hx.to hsz (fun b _ _ _ h1 _=>hk b (fun e=>h1 (by rw [hkb,e]))) (fun _ h=>h) (fun _ _ h=>h) (fun _ _ h=>h)
 refine ⟨⟨?_,?_,?_,?_,h.eqM,h.gr,h.gK,h.gM,h.far,?_,fun x hx=>hto x.2 (h.pM x hx),fun k hg=>Nat.lt_of_lt_of_le (h.lt k hg) hsz,?_,?_,h.arm⟩,(h.gK kb hkb).1⟩
 · exact (hk r (fun e=>(h.gK kb hkb).2 e.symm)).trans h.blk
 · rw [List.length_set,List.map_set]
   have h1:=h.rowK
   rw [hv] at h1 ⊢
   exact (h1.stored i (pv q)).1
 · exact own_kept h.rowM (fun k e _=>hk k (fun e'=>h.far kb hkb (by rw [e,e'])))
 · rw [List.map_set,h.eqK]
 · intro x hx
   rcases List.mem_or_eq_of_mem_set hx with h1 | rfl
   · exact hto x (h.pK x h1)
   · exact hto x hq
 · intro p hp;show p.1<(s.K.set i q.2.1).length;rw [List.length_set];exact h.num p hp
 · show (s.K.set i q.2.1).length<=_;rw [List.length_set];exact h.hi
theorem ref_appended {w1 w5:World} {gm cap':Nat} (h:RefIn w r vK vM PK PM armed left G s) (hb:Below w.heap.size w w1) (hgr:w1.grownBy w5 vM.ownBlock) (i:Nat) (q:Piece) (hi:i<s.K.length) (hl:q.2.1.length=64)
 (hq:∃ b,q.1=some ⟨b,0,none⟩/\w.heap.size<=b/\b<w1.heap.size/\∀ j (h:j<q.2.1.length),w1.cell? ⟨b,0+j,none⟩=some (.int .u8 (q.2.1[j].toNat:Int)))
 (hown:w5.ownsRow 0 117 2 (.slice (some ⟨gm,0,none⟩) (PM.length+1) cap') (PM.length+1) ((PM.map Go.Proofs.YtdaahapbpnjkfaaGreat.mcell).flatten++Go.Proofs.YtdaahapbpnjkfaaGreat.mcell (i,q))) (hat:vM.ownBlock=some gm\/gm=w1.heap.size) (hlt:gm<w5.heap.size):
 RefIn (w5.setCell ⟨r,1,none⟩ (.slice (some ⟨gm,0,none⟩) (PM.length+1) cap')) r vK (.slice (some ⟨gm,0,none⟩) (PM.length+1) cap') PK (PM++[(i,q)]) armed left (fun k=>G k\/(w.heap.size<=k/\k<w5.heap.size)) { s with M:=s.M++[(i,q.2.1)] }/\
 Spared w (w5.setCell ⟨r,1,none⟩ (.slice (some ⟨gm,0,none⟩) (PM.length+1) cap')) G/\w5.cell? ⟨r,1,none⟩=some vM/\w5.frozen? ⟨r,1,none⟩=false:=by
 have hr1:Blk w1 r _ _:=h.blk.below hb h.blk.lt
 have hrM:vM.ownBlock≠some r:=fun e=>(h.gM r e).2 rfl
 have hr5:Blk w5 r (rfCells vK vM s.off armed left s.calls) 50:=(hgr.block r hr1.lt (fun e=>hrM e.symm)).trans hr1
 have hmr:gm≠r:=by
  rcases hat with e | e
  · exact (h.gM gm e).2
  · have:=hr1.lt;omega
 have hmK:∀ k,vK.ownBlock=some k->gm≠k:=fun k e e'=>by
  rcases hat with e2 | e2
  · exact h.far k e (by rw [e2,e'])
  · have:=h.lt k (h.gK k e).1;have:=hb.size;omega
 have hsz:w.heap.size<=w5.heap.size:=Nat.le_trans hb.size hgr.size
 have hsz':w5.heap.size=(w5.setCell ⟨r,1,none⟩ (.slice (some ⟨gm,0,none⟩) (PM.length+1) cap')).heap.size:=by simp [World.setCell]
 have hk:∀ b,b<w.heap.size->b≠r->vM.ownBlock≠some b->(w5.setCell ⟨r,1,none⟩ (.slice (some ⟨gm,0,none⟩) (PM.length+1) cap')).heap[b]? =w.heap[b]? :=fun b hlt hbr hbM=>
  (heap_setCell_other w5 ⟨r,1,none⟩ b _ (fun e=>hbr e)).trans ((hgr.block b (Nat.lt_of_lt_of_le hlt hb.size) (fun e=>hbM e.symm)).trans (hb.block b hlt))
 have hgmb:∀ b,b<w.heap.size->vM.ownBlock≠some b->gm≠b:=fun b hlt hbM e=>by
  rcases hat with e2 | e2
  · exact hbM (by rw [e2,e])
  · have:=hb.size;omega
 have hold:∀ x,Hold w r vK vM G x->Hold (w5.setCell ⟨r,1,none⟩ (.slice (some ⟨gm,0,none⟩) (PM.length+1) cap')) r vK (.slice (some ⟨gm,0,none⟩) (PM.length+1) cap') (fun k=>G k\/(w.heap.size<=k/\k<w5.heap.size)) x:=fun x hx=>
  hx.to (Nat.le_trans hsz (Nat.le_of_eq hsz')) (fun b hlt _ hbr _ hbM=>hk b hlt hbr hbM) (fun _ h=> .inl h) (fun _ _ h=>h) (fun b hlt hbM e=>hgmb b hlt hbM (by injection e))
 have hs1:Spared w w5 G:=(Spared.of_below hb G).trans (.of_grown hgr (F:=G) (fun k e _=>(h.gM k e).1)) (fun _ h=> .inl h)
 have hnew:Hold (w5.setCell ⟨r,1,none⟩ (.slice (some ⟨gm,0,none⟩) (PM.length+1) cap')) r vK (.slice (some ⟨gm,0,none⟩) (PM.length+1) cap') (fun k=>G k\/(w.heap.size<=k/\k<w5.heap.size)) q:=by
  obtain ⟨b,e,hle,hlt1,hc⟩:=hq
  have hbr:b≠r:=by have:=h.blk.lt;omega
  have hbM:vM.ownBlock≠some b:=fun e=>by have:=h.lt b (h.gM b e).1;omega
  refine ⟨hl,b,0,e,?_,.inr ⟨hle,Nat.lt_of_lt_of_le hlt1 hgr.size⟩,hbr,fun e=>by have:=h.lt b (h.gK b e).1;omega,fun e=> ?_,fun j hj=> ?_⟩
  · rw [<-hsz'];exact Nat.lt_of_lt_of_le hlt1 hgr.size
  · injection e with e
    rcases hat with e2 | e2
    · exact hbM (by rw [e2];exact congrArg some e)
    · have e':gm=b:=e;omega
  · exact (World.cell?_of_block (a:=⟨b,0+j,none⟩) ((heap_setCell_other w5 ⟨r,1,none⟩ b _ (fun e=>hbr e)).trans (hgr.block b hlt1 (fun e=>hbM e.symm)))).trans (hc j hj)
 refine ⟨⟨hr5.set 1 _,?_,?_,h.eqK,?_,.inl h.gr,fun k e=>⟨.inl (h.gK k e).1,(h.gK k e).2⟩,?_,?_,fun x hx=>hold x (h.pK x hx),?_,?_,?_,h.hi,h.arm⟩,hs1.setCell h.gr _ _,hr5.cell (i:=1) (by simp [rfCells]),hr5.free 1⟩
 · exact own_kept h.rowK (fun k e hlt=>hk k hlt (h.gK k e).2 (h.far k e))
 · have e:(PM++[(i,q)]).length=PM.length+1:=by simp
   rw [e,List.map_append,List.flatten_append]
   simp only [List.map_cons,List.map_nil,List.flatten_cons,List.flatten_nil,List.append_nil]
   exact own_kept hown (fun k e _=>heap_setCell_other w5 ⟨r,1,none⟩ k _ (fun e'=>by injection e with e;exact hmr (e.trans e')))
 · rw [List.map_append,h.eqM];rfl
 · intro k e
   injection e with e
   subst e
   refine ⟨?_,hmr⟩
   rcases hat with e2 | e2
   · exact .inl (h.gM _ e2).1
   · exact .inr ⟨by show w.heap.size<=gm;rw [e2];exact hb.size,hlt⟩
 · intro k e e'
   injection e' with e'
   exact hmK k e e'
 · intro x hx
   rcases List.mem_append.1 hx with h1 | h1
   · exact hold x.2 (h.pM x h1)
   · rw [List.mem_singleton.1 h1];exact hnew
 · intro k hg
   rw [<-hsz']
   rcases hg with hg | hg
   · exact Nat.lt_of_lt_of_le (h.lt k hg) hsz
   · exact hg.2
 · intro p hp
   rcases List.mem_append.1 hp with h1 | h1
   · exact h.num p h1
   · rw [List.mem_singleton.1 h1];exact hi
end
end Go.Proofs.YtdaahapbpnjkfaaGreat
