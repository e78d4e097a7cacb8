/-
What Open and Commit keep of bounds; both sides at their start; what alike answers of both. Conditions: as each says.
-/
import Derived.Test.YtdaahapbpnjkfaaGreatCRefBegins
import Derived.Test.YtdaahapbpnjkfaaGreatCKvD
namespace Go.Proofs.YtdaahapbpnjkfaaGreat
open Go.RowKit
theorem pick_two {s:Dsk} {h a:Nat} {g:Int} {ds:List (List UInt8)} (hp:pickL h s=some (a,g,ds)):a<=1:=by
 unfold pickL at hp
 rcases hx:openL (s.bytes 0 h) with _ | ⟨g0,d0⟩
 · rcases hy:openL (s.bytes h h) with _ | ⟨g1,d1⟩
   · rw [hx,hy] at hp;cases hp
   · rw [hx,hy] at hp
     injection hp with hp;injection hp with h1 hp
     omega
 · rcases hy:openL (s.bytes h h) with _ | ⟨g1,d1⟩
   · rw [hx,hy] at hp
     injection hp with hp;injection hp with h1 hp
     omega
   · rw [hx,hy] at hp
     simp only at hp
     split at hp
     · injection hp with hp;injection hp with h1 hp
       omega
     · injection hp with hp;injection hp with h1 hp
       omega
theorem open_keeps {s:Dsk} {h m:Nat} (ok:s.Ok) (hh:h=s.K.length/2) (hf:s.Few m):(openK h s).2.1.Few (m+1100)/\(openK h s).2.1.K.length=s.K.length/\∀ k,(openK h s).2.2=some k->k.L.length<=h*64/\sizeT k.L<=h*64:=by
 by_cases h1:h<1
 · have e:openK h s=(1,s,none):=if_pos h1
   rw [e]
   exact ⟨hf.mono (by omega),rfl,fun k hk=>by cases hk⟩
 by_cases ho:s.off=true
 · rw [open_off (by omega) ho]
   exact ⟨hf.mono (by omega),rfl,fun k hk=>by cases hk⟩
 have ho:s.off=false:=by simpa using ho
 rcases hp:pickL h s with _ | ⟨a,g,ds⟩
 · have hfit:(Lg.new 0 h 1).Fits s:=⟨by show 1<=h;omega,by show 0+h<=_;omega,Nat.zero_le _,Nat.le_refl _,Int.le_refl _,by show (1:Int)<=_;decide⟩
   have e:openK h s=((Lg.new 0 h 1).err s (batchL []),(Lg.new 0 h 1).dsk s (batchL []),if (Lg.new 0 h 1).err s (batchL [])=0 then some ⟨0,(Lg.new 0 h 1).next s (batchL []),[],false⟩ else none):=by
    unfold openK
    rw [if_neg h1,if_neg (by rw [ho];decide),hp]
   rw [e]
   have hc:=(Lg.new 0 h 1).code_fits (batchL [])
   refine ⟨(Lg.few hfit ok hf).mono (by omega),(hfit.next (d:=batchL [])).2.2,fun k hk=> ?_⟩
   have hk':(if (Lg.new 0 h 1).err s (batchL [])=0 then some (⟨0,(Lg.new 0 h 1).next s (batchL []),[],false⟩:KvS) else none)=some k:=hk
   split at hk'
   · injection hk' with hk'
     rw [<-hk']
     exact ⟨Nat.zero_le _,Nat.zero_le _⟩
   · cases hk'
 · have hz:=open_size (pick_open hp)
   have ha:a<=1:=pick_two hp
   rw [bytes_length ok (two_fits (a:=a) (h:=h) (N:=s.K.length) ha (by omega))] at hz
   rcases hr:recsL ds [] with _ | L
   · have e:openK h s=(3,s,none):=by
      unfold openK
      rw [if_neg h1,if_neg (by rw [ho];decide),hp]
      simp only
      rw [hr]
     rw [e]
     exact ⟨hf.mono (by omega),rfl,fun k hk=>by cases hk⟩
   · have e:openK h s=(0,s,some (kvAt h a g ds L)):=by
      unfold openK
      rw [if_neg h1,if_neg (by rw [ho];decide),hp]
      simp only
      rw [hr]
     rw [e]
     refine ⟨hf.mono (by omega),rfl,fun k hk=> ?_⟩
     injection hk with hk
     have h6:=recsL_size Srt.nil hr
     have h7:sizeT ([]:List Kv)=0:=rfl
     rw [List.length_nil,h7] at h6
     rw [<-hk]
     exact ⟨by show L.length<=_;omega,by show sizeT L<=_;omega⟩
theorem commit_keeps {s:Dsk} {h:Nat} {k:KvS} {l:List PutV} (f:k.Fits h s):(commitL h s k l).2.1.K.length=s.K.length/\((commitL h s k l).2.2.L=k.L\/(commitL h s k l).2.2.L=doAll l k.L):=by
 have ends:∀ (k':KvS) (E:Int),k'.L=k.L->(k'.ends E (doAll l k.L)).L=k.L\/(k'.ends E (doAll l k.L)).L=doAll l k.L:=fun k' E e=>by
  unfold KvS.ends
  by_cases h0:E=0
  · exact .inr (if_pos h0)
  · exact .inl ((if_neg h0).trans e)
 unfold commitL
 split
 · exact ⟨rfl,.inl rfl⟩
 · split
   · exact ⟨rfl,.inl rfl⟩
   · split
     · exact ⟨rfl,.inl rfl⟩
     · split
       · refine ⟨(turn_fits f).2.2,ends _ _ ?_⟩
         unfold turnL
         split
         · rfl
         · show (if _ then _ else k).L=k.L
           split<;>rfl
       · exact ⟨(f.log.next (d:=batchL l)).2.2,ends _ _ rfl⟩
theorem KTwo.two {w0 w:World} {g r h:Nat} {s t:Dsk} {kp kr:Option KvS} {P Q:Option Addr} {xs:List KBox} (k:KTwo w0 w g r h s t kp kr P Q xs):Two w0 g r s t [] w:=by
 obtain ⟨T,D,U,h1,h2,h3,h4,h5,h6⟩:=k
 obtain ⟨F,hF,hFD⟩:=h1.disk
 obtain ⟨G,hG,hGU⟩:=h2.disk
 exact ⟨F,G,hF,hG,fun q hq=>h5 q (h1.2.1 q (hFD q hq)),fun q hq=>h5 q (h2.2.1 q (hGU q hq)),fun q hf hg=>h3 q (hFD q hf) (hGU q hg),h4,fun x hx=>by cases hx⟩
theorem ktwo_start {w w2 w3:World} {g r h:Nat} {s:Dsk} {F G:Nat->Prop} (hb:Below w.heap.size w w2) (hd:DiskAt w2 g F s) (hF:∀ k,F k->w.heap.size<=k) (hr:RefAt w3 r G s) (hG:∀ k,G k->w2.heap.size<=k) (hb3:Below w2.heap.size w2 w3):KTwo w w3 g r h s s none none none none []:=
 have hd3:=hd.still hb3
 ⟨fun x=>F x\/G x,F,G,⟨fun x hx=>hx.elim (hd3.lt x) (hr.lt x),fun x hx=> .inl hx,rfl,F,hd3,fun x hx=>hx⟩,⟨fun x hx=>hx.elim (hd3.lt x) (hr.lt x),fun x hx=> .inr hx,rfl,G,hr,fun x hx=>hx⟩,fun x hf hg=>by have:=hd.lt x hf;have:=hG x hg;omega,hop hb hb3,fun x hx=>hx.elim (hF x) (fun h=>Nat.le_trans hb.size (hG x h)),fun p hp=>by cases hp⟩
end Go.Proofs.YtdaahapbpnjkfaaGreat
