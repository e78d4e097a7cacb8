/-
find: the pair of a key, from a page down. Conditions: the keys rise, the pages below are as they must be.
-/
import Derived.Test.YtdaahapbpnjkfaaGreatCTrSmall
import Derived.Test.YtdaahapbpnjkfaaGreatCSearch
import Derived.Deep.QuietTactic
import Derived.BigQuiet
import Derived.Outline
import Derived.Deep.RegionHeld3
import Derived.Deep.RegionHeldLaw
import Derived.Deep.RegionWith
namespace Go.Proofs.YtdaahapbpnjkfaaGreat
open Go.RowKit
set_option maxHeartbeats 1000000 in
theorem place_closure (w:World) (bp bk b off i n c:Nat) (Ai B:Option Addr) (li lk:Key) (ni ci m d:Nat) (r:Bool) (hp:w.cell? ⟨bp,1,none⟩=some (.slice (some ⟨b,off,none⟩) n c)) (hk:w.cell? ⟨bk,0,none⟩=some (.slice B m d))
 (hc:w.cell? ⟨b,off+i*2,none⟩=some (.slice Ai ni ci)) (hi:i<n) (hsi:Seen w Ai li) (hsk:Seen w B lk) (hni:li.length=ni) (hm:lk.length=m) (hr:(!ltK li lk)=r):
 Calls Tryz.prog 154 #[.int .i64 i,.pointer (some ⟨bp,0,none⟩),.pointer (some ⟨bk,0,none⟩)] w fun e w'=>e= .returned (.bool r)/\Below w.heap.size w w':=by
 have HC:=Lib.hid (fun q=>bcompare_any (w:=w.drewN q) (A:=Ai) (B:=B) (l:=li) (k:=lk) (hsi.below (below_drewN (Below.refl _ _) q)) (hsk.below (below_drewN (Below.refl _ _) q)) ni ci m d hni hm)
 have h0:(0:Int)<=(i:Int):=by omega
 have h1:(i:Int)<(n:Int):=by omega
 cases hl:ltK li lk
 · have hx:=compare_ge hl
   rw [hl] at hr
   obtain rfl:r=true:=hr.symm
   generalize Lib.compareBytes li lk=x at *
   clear hsi hsk hni hm hl hr
   go_enter Tryz.func154,Tryz.ntmps154
   go_wp2
   go_quiet (first | (go_at_call 98;exact Calls.quiet_of_same (HC.out _)))
   go_wp2
   go_ret
   exact ⟨rfl,below_drewN (Below.refl _ _) _⟩
 · have hx:=compare_lt hl
   rw [hl] at hr
   obtain rfl:r=false:=hr.symm
   generalize Lib.compareBytes li lk=x at *
   clear hsi hsk hni hm hl hr
   have hx':decide (0<=x)=false:=decide_eq_false (by omega)
   go_enter Tryz.func154,Tryz.ntmps154
   go_wp2
   go_quiet (first | (go_at_call 98;exact Calls.quiet_of_same (HC.out _)))
   go_wp2
   go_ret
   exact ⟨rfl,below_drewN (Below.refl _ _) _⟩
set_option maxHeartbeats 1000000 in
theorem under_closure (w:World) (bp bk b off i n c:Nat) (Ai B:Option Addr) (li lk:Key) (ni ci m d:Nat) (r:Bool) (hp:w.cell? ⟨bp,2,none⟩=some (.slice (some ⟨b,off,none⟩) n c)) (hk:w.cell? ⟨bk,0,none⟩=some (.slice B m d))
 (hc:w.cell? ⟨b,off+(i+1)*3,none⟩=some (.slice Ai ni ci)) (hi:i+1<n) (hn:n<=1000000) (hsi:Seen w Ai li) (hsk:Seen w B lk) (hni:li.length=ni) (hm:lk.length=m) (hr:ltK lk li=r):
 Calls Tryz.prog 156 #[.int .i64 i,.pointer (some ⟨bp,0,none⟩),.pointer (some ⟨bk,0,none⟩)] w fun e w'=>e= .returned (.bool r)/\Below w.heap.size w w':=by
 have HC:=Lib.hid (fun q=>bcompare_any (w:=w.drewN q) (A:=Ai) (B:=B) (l:=li) (k:=lk) (hsi.below (below_drewN (Below.refl _ _) q)) (hsk.below (below_drewN (Below.refl _ _) q)) ni ci m d hni hm)
 have h0:(0:Int)<=(i:Int)+1:=by omega
 have h1:(i:Int)+1<(n:Int):=by omega
 have hw:IntKind.i64.wrap ((i:Int)+1)=(i:Int)+1:=by rw [IntKind.wrap_i64];omega
 have ht:((i:Int)+1).toNat=i+1:=by omega
 cases hl:ltK lk li
 · have hx:=compare_le hl
   rw [hl] at hr
   obtain rfl:r=false:=hr.symm
   generalize Lib.compareBytes li lk=x at *
   clear hsi hsk hni hm hl hr
   have hx':decide (0<x)=false:=decide_eq_false (by omega)
   go_enter Tryz.func156,Tryz.ntmps156
   go_wp2
   go_quiet (first | (go_at_call 98;exact Calls.quiet_of_same (HC.out _)))
   go_wp2
   go_ret
   exact ⟨rfl,below_drewN (Below.refl _ _) _⟩
 · have hx:=compare_gt hl
   rw [hl] at hr
   obtain rfl:r=true:=hr.symm
   generalize Lib.compareBytes li lk=x at *
   clear hsi hsk hni hm hl hr
   go_enter Tryz.func156,Tryz.ntmps156
   go_wp2
   go_quiet (first | (go_at_call 98;exact Calls.quiet_of_same (HC.out _)))
   go_wp2
   go_ret
   exact ⟨rfl,below_drewN (Below.refl _ _) _⟩
theorem enters_place:∀ args w,(callFunc 154 args).run Tryz.prog w= .ok (.enter 154 args) w:=enters_of Tryz.func154 (by kernel_rfl) rfl
theorem enters_under:∀ args w,(callFunc 156 args).run Tryz.prog w= .ok (.enter 156 args) w:=enters_of Tryz.func156 (by kernel_rfl) rfl
structure Boxes (w w2:World) (v0 v1 v2 k:Value):Prop where
 below:Below w.heap.size w w2
 size:w2.heap.size=w.heap.size+1+1
 c0:w2.cell? ⟨w.heap.size,0,none⟩=some v0
 c1:w2.cell? ⟨w.heap.size,1,none⟩=some v1
 c2:w2.cell? ⟨w.heap.size,2,none⟩=some v2
 ck:w2.cell? ⟨w.heap.size+1,0,none⟩=some k
theorem Boxes.mk_ (w:World) (v0 v1 v2 k:Value) (t t':TypeId):Boxes w ((w.alloc (.cells #[v0,v1,v2] t)).alloc (.cells #[k] t')) v0 v1 v2 k:=by
 have hB:Blk (w.alloc (.cells #[v0,v1,v2] t)) w.heap.size [v0,v1,v2] t:=Blk.new w [v0,v1,v2] t
 have hB2:=hB.alloc (.cells #[k] t')
 have hK:Blk ((w.alloc (.cells #[v0,v1,v2] t)).alloc (.cells #[k] t')) (w.heap.size+1) [k] t':=by
  have:=Blk.new (w.alloc (.cells #[v0,v1,v2] t)) [k] t'
  rw [show (w.alloc (.cells #[v0,v1,v2] t)).heap.size=w.heap.size+1 by simp] at this
  exact this
 exact ⟨((Below.refl _ _).alloc (Nat.le_refl _) _).alloc (by simp) _,by simp,hB2.cell (i:=0) (by simp),hB2.cell (i:=1) (by simp),hB2.cell (i:=2) (by simp),hK.cell (i:=0) (by simp)⟩
set_option maxHeartbeats 1000000 in
theorem under_walk (w:World) (A0 A B:Option Addr) (n0 c0 n c m d i:Nat) (hn:n<=1000000) (hp:0<n)
 (HS:Hid (∀ W,Boxes w W (.slice A0 n0 c0) (.slice none 0 0) (.slice A n c) (.slice B m d)->Calls Tryz.prog 153 #[.int .i64 ((n:Int)-1),.func (.func 156) #[] #[.pointer (some ⟨w.heap.size,0,none⟩),.pointer (some ⟨w.heap.size+1,0,none⟩)]] W fun e w'=>e= .returned (.int .i64 i)/\Below W.heap.size W w')):
 Calls Tryz.prog 130 #[.agg #[.slice A0 n0 c0,.slice none 0 0,.slice A n c],.slice B m d] w fun e w'=>e= .returned (.int .i64 i)/\Below w.heap.size w w':=by
 have hmf:∀ (fn:Fn) (first cap:Array Value) (w:World),(Instr.makeFunc fn first cap).run Tryz.prog w= .ok (.func fn first cap) w:=fun _ _ _ _=>rfl
 have HX:=Lib.hid (Boxes.mk_ w (.slice A0 n0 c0) (.slice none 0 0) (.slice A n c) (.slice B m d) 156 22)
 obtain ⟨w2,hw2⟩:∃ w2,w2=((w.alloc (.cells #[.slice A0 n0 c0,.slice none 0 0,.slice A n c] 156)).alloc (.cells #[.slice B m d] 22)):=⟨_,rfl⟩
 rw [<-hw2] at HX
 have HW:Hid (((w.alloc (.cells #[.slice A0 n0 c0,.slice none 0 0,.slice A n c] 156)).alloc (.cells #[.slice B m d] 22))=w2):=hw2.symm
 clear hw2
 go_enter Tryz.func130,Tryz.ntmps130
 go_wp2_with fail
 rw [HW.out]
 refine (HS.out w2 HX.out).mono ?_
 rintro e w3 ⟨rfl,hb⟩
 have HB:=Lib.hid (hop HX.out.below hb)
 clear hb
 go_wp2_with fail
 go_ret
 exact ⟨rfl,HB.out⟩
theorem route (h:Nat) (k:Key) (l:List (El (h+1))) (hf:∀ x ∈ l,Full (h+1) x) (hs:Srt (flats (h+1) l)) (hp:0<l.length):
 ∃ i,i<l.length/\(∀ t (ht:t+1<l.length),ltK k (epiece (h+1) l[t+1]).2.1=decide (i<=t))/\(∀ x ∈ flats (h+1) (l.take i),ltK x.1 k=true)/\(∀ x ∈ flats (h+1) (l.drop (i+1)),ltK k x.1=true):=by
 have hne:∀ x ∈ l,eflat (h+1) x≠[]:=fun x hx=>Full.ne _ x (by have:=(hf x hx).1.1;omega) (hf x hx).2
 have hkey:∀ x ∈ l,∃ y ∈ eflat (h+1) x,(epiece (h+1) x).2.1=y.1/\∀ z ∈ eflat (h+1) x,z=y\/ltK y.1 z.1=true:=fun x hx=>by
  have h1:=Full.key (h+1) x (by have:=(hf x hx).1.1;omega) (hf x hx).2
  have h2:=hne x hx
  have h3:Srt (eflat (h+1) x):=by
   obtain ⟨a,b,rfl⟩:=List.append_of_mem hx
   rw [flats_append,flats_cons] at hs
   exact (Srt.append.1 (Srt.append.1 hs).2.1).1
  cases he:eflat (h+1) x with
  | nil=>exact absurd he h2
  | cons y r=>
   rw [he] at h1 h3
   exact ⟨y,List.mem_cons_self ..,h1,fun z hz=>(List.mem_cons.1 hz).imp id (fun hz=>(Srt.cons.1 h3).1 z hz)⟩
 induction l with
 | nil=>simp at hp
 | cons a r ih=>
  by_cases hr:r=[]
  · subst hr
    exact ⟨0,by simp,fun t ht=>by simp at ht,fun x hx=>by simp [flats] at hx,fun x hx=>by simp [flats] at hx⟩
  · have hrp:0<r.length:=List.length_pos_iff.2 hr
    rw [flats_cons,Srt.append] at hs
    obtain ⟨i,hi,h1,h2,h3⟩:=ih (fun x hx=>hf x (List.mem_cons_of_mem _ hx)) hs.2.1 hrp (fun x hx=>hne x (List.mem_cons_of_mem _ hx)) (fun x hx=>hkey x (List.mem_cons_of_mem _ hx))
    obtain ⟨b,r',rfl⟩:∃ b r',r=b::r':=by
     cases r with
     | nil=>exact absurd rfl hr
     | cons b r'=>exact ⟨b,r',rfl⟩
    obtain ⟨yb,hyb,eb,hyb2⟩:=hkey b (by simp)
    cases hk:ltK k (epiece (h+1) b).2.1
    · -- the key belongs behind a
      refine ⟨i+1,by simp at hi ⊢;omega,fun t ht=> ?_,fun x hx=> ?_,fun x hx=> ?_⟩
      · cases t with
        | zero=>
         show ltK k (epiece (h+1) b).2.1=_
         rw [hk,decide_eq_false (by omega)]
        | succ t=>
         have:=h1 t (by simpa using ht)
         refine Eq.trans this ?_
         exact decide_eq_decide.2 (by omega)
      · rw [List.take_succ_cons,flats_cons] at hx
        rcases List.mem_append.1 hx with hx | hx
        · have:ltK x.1 yb.1=true:=hs.2.2 x hx yb (by rw [flats_cons];exact List.mem_append_left _ hyb)
          rw [eb] at hk
          exact ltK_le_trans this hk
        · exact h2 x hx
      · rw [List.drop_succ_cons] at hx
        exact h3 x hx
    · -- all behind a is above the key
      have hall:∀ x ∈ flats (h+1) (b::r'),ltK k x.1=true:=fun x hx=>by
       have hky:ltK k yb.1=true:=by rw [<-eb];exact hk
       rw [flats_cons] at hx
       rcases List.mem_append.1 hx with hx | hx
       · rcases hyb2 x hx with rfl | h'
         · exact hky
         · exact ltK_trans hky h'
       · have:=hs.2.1
         rw [flats_cons,Srt.append] at this
         exact ltK_trans hky (this.2.2 yb hyb x hx)
      refine ⟨0,by simp,fun t ht=> ?_,fun x hx=>by simp [flats] at hx,fun x hx=>by simpa using hall x (by simpa using hx)⟩
      rw [decide_eq_true (Nat.zero_le _)]
      have hmem:(a::b::r')[t+1] ∈ b::r':=by
       rw [List.getElem_cons_succ]
       exact List.getElem_mem _
      obtain ⟨y,hy,ey,_⟩:=hkey _ (List.mem_cons_of_mem _ hmem)
      rw [ey]
      refine hall y ?_
      obtain ⟨p,q,e⟩:=List.append_of_mem hmem
      rw [e,flats_append,flats_cons]
      exact List.mem_append_right _ (List.mem_append_left _ hy)
theorem under_any (w:World) (F:Nat->Prop) (h:Nat) (p:Pg (h+1)) (i:Nat) (B:Option Addr) (k:Key) (m d:Nat) (hp:EOk w F (h+2) p) (hn:p.els.length<=1000000) (hi:i<p.els.length)
 (hr:∀ t (ht:t+1<p.els.length),ltK k (epiece (h+1) p.els[t+1]).2.1=decide (i<=t)) (hk:Seen w B k) (hm:k.length=m):
 Calls Tryz.prog 130 #[pval (h+1) p,.slice B m d] w fun e w'=>e= .returned (.int .i64 i)/\Below w.heap.size w w':=by
 obtain ⟨f,A,els,c⟩:=p
 obtain ⟨h1,h2,h3,h4⟩:=hp
 dsimp only at h1 h2 h3 h4 hn hi hr
 refine under_walk w f.1 A B f.2.1.length f.2.2 els.length c m d i hn (by omega) (Lib.hid fun W hW=> ?_)
 have hs:=search_any 156 #[.pointer (some ⟨w.heap.size,0,none⟩),.pointer (some ⟨w.heap.size+1,0,none⟩)] (els.length-1) i W enters_under (by omega) (by omega) (fun W' hb t ht=> ?_)
 · rw [show ((els.length-1:Nat):Int)=(els.length:Int)-1 by omega] at hs
   exact hs
 · have hbw:=hop hW.below hb
   have h2':=h2.below hbw
   have ht':t+1<els.length:=by omega
   obtain ⟨b,off,rfl,hbl,_,hc⟩:=h2'.elem (t+1) ht'
   have hpi:=epiece_ok (h+1) els[t+1] ((h4 _ (List.getElem_mem ht')).below hbw)
   have hce:W'.cell? ⟨b,off+(t+1)*3,none⟩=some (pv (epiece (h+1) els[t+1])):=by
    have:=hc 0 (by decide:0<3)
    rw [Nat.add_zero] at this
    refine Eq.trans this ?_
    cases h<;>rfl
   exact under_closure W' w.heap.size (w.heap.size+1) b off t els.length c _ B _ k _ _ m d _ ((hb.cell (p:=⟨w.heap.size,2,none⟩) (by have:=hW.size;show w.heap.size<_;omega)).trans hW.c2)
    ((hb.cell (p:=⟨w.heap.size+1,0,none⟩) (by have:=hW.size;show w.heap.size+1<_;omega)).trans hW.ck) hce ht' hn hpi.1.seen (hk.below hbw) rfl hm (hr t ht')
set_option maxHeartbeats 1000000 in
theorem place_walk (w:World) (A0 A B:Option Addr) (n0 c0 n c m d i:Nat) (r:Bool)
 (HS:Hid (∀ W,Boxes w W (.slice A0 n0 c0) (.slice A n c) (.slice none 0 0) (.slice B m d)->Calls Tryz.prog 153 #[.int .i64 (n:Int),.func (.func 154) #[] #[.pointer (some ⟨w.heap.size,0,none⟩),.pointer (some ⟨w.heap.size+1,0,none⟩)]] W fun e w'=>e= .returned (.int .i64 i)/\Below W.heap.size W w'))
 (HE:(n<=i/\r=false)\/(i<n/\∃ b off A1 n1 c1,A=some ⟨b,off,none⟩/\∀ W,Below w.heap.size w W->W.cell? ⟨b,off+i*2,none⟩=some (.slice A1 n1 c1)/\Calls Tryz.prog 155 #[.slice A1 n1 c1,.slice B m d] W fun e w'=>e= .returned (.bool r)/\w'=W)):
 Calls Tryz.prog 129 #[.agg #[.slice A0 n0 c0,.slice A n c,.slice none 0 0],.slice B m d] w fun e w'=>e= .returned (.tuple #[.int .i64 i,.bool r])/\Below w.heap.size w w':=by
 have hmf:∀ (fn:Fn) (first cap:Array Value) (w:World),(Instr.makeFunc fn first cap).run Tryz.prog w= .ok (.func fn first cap) w:=fun _ _ _ _=>rfl
 have HX:=Lib.hid (Boxes.mk_ w (.slice A0 n0 c0) (.slice A n c) (.slice none 0 0) (.slice B m d) 156 22)
 obtain ⟨w2,hw2⟩:∃ w2,w2=((w.alloc (.cells #[.slice A0 n0 c0,.slice A n c,.slice none 0 0] 156)).alloc (.cells #[.slice B m d] 22)):=⟨_,rfl⟩
 rw [<-hw2] at HX
 have HW:Hid (((w.alloc (.cells #[.slice A0 n0 c0,.slice A n c,.slice none 0 0] 156)).alloc (.cells #[.slice B m d] 22))=w2):=hw2.symm
 clear hw2
 rcases HE with ⟨hge,rfl⟩ | ⟨hlt,b,off,A1,n1,c1,rfl,hE⟩
 · have hd:decide (i<n)=false:=decide_eq_false (by omega)
   go_enter Tryz.func129,Tryz.ntmps129
   go_wp2_with fail
   rw [HW.out]
   refine (HS.out w2 HX.out).mono ?_
   rintro e w3 ⟨rfl,hb⟩
   have k1:=(hb.cell (p:=⟨w.heap.size,1,none⟩) (by have:=HX.out.size;show w.heap.size<_;omega)).trans HX.out.c1
   have kk:=(hb.cell (p:=⟨w.heap.size+1,0,none⟩) (by have:=HX.out.size;show w.heap.size+1<_;omega)).trans HX.out.ck
   have HB:=Lib.hid (hop HX.out.below hb)
   clear hb
   go_wp2_with fail
   go_quiet (fail)
   go_wp2
   go_ret2
   exact ⟨rfl,below_drewN HB.out _⟩
 · have hi0:(0:Int)<=(i:Int):=by omega
   have hi1:(i:Int)<(n:Int):=by omega
   have HE:=Lib.hid hE
   clear hE
   go_enter Tryz.func129,Tryz.ntmps129
   go_wp2_with fail
   rw [HW.out]
   refine (HS.out w2 HX.out).mono ?_
   rintro e w3 ⟨rfl,hb⟩
   have k1:=(hb.cell (p:=⟨w.heap.size,1,none⟩) (by have:=HX.out.size;show w.heap.size<_;omega)).trans HX.out.c1
   have kk:=(hb.cell (p:=⟨w.heap.size+1,0,none⟩) (by have:=HX.out.size;show w.heap.size+1<_;omega)).trans HX.out.ck
   have HB:=Lib.hid (hop HX.out.below hb)
   have ke:=(HE.out w3 HB.out).1
   clear hb
   go_wp2_with fail
   go_quiet (first | (go_at_call 155;exact Calls.quiet_of_same (HE.out _ (below_drewN HB.out _)).2))
   go_wp2
   go_ret2
   exact ⟨rfl,below_drewN HB.out _⟩
def eval0 (q:El 0):Piece:=(q:Piece × Piece).2
def kv0 (q:El 0):Kv:=((epiece 0 q).2.1,(eval0 q).2.1)
theorem eflat_zero (x:El 0):eflat 0 x=[kv0 x]:=rfl
theorem flats_zero (l:List (El 0)):flats 0 l=l.map kv0:=by
 induction l with
 | nil=>rfl
 | cons x l ih=>rw [flats_cons,ih];rfl
theorem flats_zero_length (l:List (El 0)):(flats 0 l).length=l.length:=by rw [flats_zero,List.length_map]
theorem low_length_lt {l:List (El 0)} (k:Key) (hs:Srt (flats 0 l)):(low k (flats 0 l)).length<=l.length/\∀ t (ht:t<l.length),(!ltK (epiece 0 l[t]).2.1 k)=decide ((low k (flats 0 l)).length<=t):=by
 induction l with
 | nil=>exact ⟨Nat.le_refl _,fun t ht=>by simp at ht⟩
 | cons x l ih=>
  rw [flats_cons] at hs ⊢
  have hs':=Srt.append.1 hs
  have ih:=ih hs'.2.1
  rw [eflat_zero] at hs' ⊢
  rw [low_append]
  cases hx:ltK (epiece 0 x).2.1 k
  · have hall:∀ y ∈ flats 0 l,ltK y.1 k=false:=fun y hy=>by
     have:=hs'.2.2 _ (List.mem_singleton_self _) y hy
     exact ltK_asymm (ltK_trans_le hx this)
    have e2:low k [kv0 x]=[]:=low_none (fun y hy=>by rw [List.mem_singleton.1 hy];exact hx)
    rw [e2,low_none hall]
    refine ⟨Nat.zero_le _,fun t ht=> ?_⟩
    cases t with
    | zero=>show (!ltK (epiece 0 x).2.1 k)=_;rw [hx];rfl
    | succ t=>
     have:=ih.2 t (by simpa using ht)
     rw [low_none hall] at this
     refine Eq.trans this ?_
     rfl
  · have e2:low k [kv0 x]=[kv0 x]:=low_all (fun y hy=>by rw [List.mem_singleton.1 hy];exact hx)
    have e3:(low k [kv0 x]++low k (flats 0 l)).length=(low k (flats 0 l)).length+1:=by rw [e2];rfl
    rw [e3]
    have i1:=ih.1
    refine ⟨Nat.succ_le_succ i1,fun t ht=> ?_⟩
    cases t with
    | zero=>show (!ltK (epiece 0 x).2.1 k)=_;rw [hx];symm;simp
    | succ t=>
     refine Eq.trans (ih.2 t (by simpa using ht)) ?_
     exact decide_eq_decide.2 (by omega)
theorem place_any (w:World) (F:Nat->Prop) (p:Pg 0) (B:Option Addr) (k:Key) (m d:Nat) (hp:EOk w F 1 p) (hn:p.els.length<=1000000) (hs:Srt (flats 0 p.els)) (hk:Seen w B k) (hm:k.length=m):
 Calls Tryz.prog 129 #[pval 0 p,.slice B m d] w fun e w'=>e= .returned (.tuple #[.int .i64 ((low k (flats 0 p.els)).length:Nat),.bool (hasL k (flats 0 p.els))])/\Below w.heap.size w w':=by
 obtain ⟨f,A,els,c⟩:=p
 obtain ⟨h1,h2,h3,h4⟩:=hp
 dsimp only at h1 h2 h3 h4 hn hs ⊢
 obtain ⟨hl,hcl⟩:=low_length_lt k hs
 refine place_walk w f.1 A B f.2.1.length f.2.2 els.length c m d _ _ (Lib.hid fun W hW=> ?_) ?_
 · refine search_any 154 #[.pointer (some ⟨w.heap.size,0,none⟩),.pointer (some ⟨w.heap.size+1,0,none⟩)] els.length _ W enters_place (by omega) hl (fun W' hb t ht=> ?_)
   have hbw:=hop hW.below hb
   obtain ⟨b,off,rfl,hbl,_,hc⟩:=(h2.below hbw).elem t ht
   have hpi:=epiece_ok 0 els[t] ((h4 _ (List.getElem_mem ht)).below hbw)
   exact place_closure W' w.heap.size (w.heap.size+1) b off t els.length c _ B _ k _ _ m d _ ((hb.cell (p:=⟨w.heap.size,1,none⟩) (by have:=hW.size;show w.heap.size<_;omega)).trans hW.c1)
    ((hb.cell (p:=⟨w.heap.size+1,0,none⟩) (by have:=hW.size;show w.heap.size+1<_;omega)).trans hW.ck) (hc 0 (by decide)) ht hpi.1.seen (hk.below hbw) rfl hm (hcl t ht)
 · rcases Nat.lt_or_ge (low k (flats 0 els)).length els.length with hlt | hge
   · right
     refine ⟨hlt,?_⟩
     obtain ⟨b,off,rfl,hbl,_,hc⟩:=h2.elem _ hlt
     have hpi:=epiece_ok 0 _ (h4 _ (List.getElem_mem hlt))
     refine ⟨b,off,_,_,_,rfl,fun W hW=>⟨(hW.cell (p:=⟨b,off+(low k (flats 0 els)).length*2,none⟩) hbl).trans (hc 0 (by decide)),?_⟩⟩
     have he:=bequal_any (hpi.1.seen.below hW) (hk.below hW) _ (epiece 0 els[(low k (flats 0 els)).length]).2.2 m d rfl hm
     have hq:decide ((epiece 0 els[(low k (flats 0 els)).length]).2.1=k)=hasL k (flats 0 els):=by
      have hz:(flats 0 els)[(low k (flats 0 els)).length]? =some (kv0 els[(low k (flats 0 els)).length]):=by
       conv=>lhs;arg 1;rw [flats_zero]
       rw [List.getElem?_map,List.getElem?_eq_getElem hlt];rfl
      rcases hs.cut k with ⟨e1,e2,_⟩ | ⟨e1,e2,_⟩
      · rw [e1]
        have hz2:(flats 0 els)[(low k (flats 0 els)).length]? =some (k,getT k (flats 0 els)):=by
         conv=>lhs;arg 1;rw [e2]
         simp
        rw [hz] at hz2
        injection hz2 with hz2
        exact decide_eq_true (congrArg Prod.fst hz2)
      · rw [e1]
        refine decide_eq_false fun heq=> ?_
        have hmem:=List.mem_of_getElem? hz
        have:hasL k (flats 0 els)=true:=by
         unfold hasL
         rw [List.any_eq_true]
         exact ⟨_,hmem,beq_iff_eq.2 heq⟩
        rw [e1] at this;cases this
     rw [hq] at he
     exact he
   · left
     refine ⟨hge,?_⟩
     have hlen:=hs.cut k
     rcases hlen with ⟨e1,e2,_⟩ | ⟨e1,_⟩
     · have:=congrArg List.length e2
       rw [flats_zero_length] at this
       simp at this
       omega
     · exact e1
def FindOut (w:World) (F:Nat->Prop) (k:Key) (l:List Kv) (e:Ending) (w':World):Prop:=Below w.heap.size w w'/\
 ((hasL k l=true/\∃ q:El 0,e= .returned (.tuple #[.agg #[pv (epiece 0 q),pv (eval0 q)],.bool true])/\EOk w F 0 q/\kv0 q=(k,getT k l))\/
  (hasL k l=false/\e= .returned (.tuple #[.agg #[.slice none 0 0,.slice none 0 0],.bool false])))
theorem page_form (h:Nat) (p:Pg h):∃ A0 n0 c0 A1 n1 c1 A2 n2 c2,ecells (h+1) p=[.slice A0 n0 c0,.slice A1 n1 c1,.slice A2 n2 c2]:=by
 cases h with
 | zero=>exact ⟨_,_,_,_,_,_,_,_,_,rfl⟩
 | succ h=>exact ⟨_,_,_,_,_,_,_,_,_,rfl⟩
theorem flats_split (h:Nat) (l:List (El h)) (i:Nat) (hi:i<l.length):flats h l=flats h (l.take i)++eflat h l[i]++flats h (l.drop (i+1)):=by
 conv=>lhs;rw [<-List.take_append_drop i l,List.drop_eq_getElem_cons hi]
 rw [flats_append,flats_cons,List.append_assoc]
structure Good (w:World) (F:Nat->Prop) (h:Nat) (p:Pg h):Prop where
 ok:EOk w F (h+1) p
 inner:Inner (h+1) p
 srt:Srt (flats h p.els)
 few:p.els.length<=1000
 some_:h≠0->0<p.els.length
theorem Good.below {w w':World} {F:Nat->Prop} {h:Nat} {p:Pg h} (hp:Good w F h p) (hb:Below w.heap.size w w'):Good w' F h p:=⟨hp.ok.below hb,hp.inner,hp.srt,hp.few,hp.some_⟩
theorem Good.kid {w:World} {F:Nat->Prop} {h:Nat} {p:Pg (h+1)} (hp:Good w F (h+1) p) (i:Nat) (hi:i<p.els.length):Good w F h p.els[i]:=by
 have hm:=List.getElem_mem hi
 have hf:=hp.inner.full hm
 have hs:=hp.srt
 rw [flats_split (h+1) p.els i hi,Srt.append,Srt.append] at hs
 have h1:4<=ecount (h+1) p.els[i]:=hf.1.1
 have h2:ecount (h+1) p.els[i]<=8:=hf.1.2
 refine ⟨hp.ok.2.2.2 _ hm,hf.2,hs.1.2.1,?_,fun _=> ?_⟩
 · show ecount (h+1) p.els[i]<=1000;omega
 · show 0<ecount (h+1) p.els[i];omega
set_option maxHeartbeats 1000000 in
set_option maxRecDepth 100000 in
theorem find_any (w:World) (F:Nat->Prop) (h:Nat) (p:Pg h) (B:Option Addr) (k:Key) (m d:Nat) (hp:Good w F h p) (hk:Seen w B k) (hm:k.length=m):
 Calls Tryz.prog 100 #[pval h p,.slice B m d] w (FindOut w F k (flats h p.els)):=by
 have HP:=Lib.hid hp
 have HK:=Lib.hid hk
 have HM:=Lib.hid hm
 obtain ⟨l,hl⟩:∃ l,l=flats h p.els:=⟨_,rfl⟩
 rw [<-hl]
 have HL:=Lib.hid hl
 obtain ⟨A0,n0,c0,A1,n1,c1,A2,n2,c2,hv⟩:=page_form h p
 have HV:=Lib.hid hv
 unfold pval
 rw [hv]
 clear hp hk hm hl hv
 have HB1:Hid (Blk ((w.alloc (.cells #[.slice A0 n0 c0,.slice A1 n1 c1,.slice A2 n2 c2] 156)).alloc (.cells #[.slice none 0 0,.slice none 0 0] 123)) w.heap.size [.slice A0 n0 c0,.slice A1 n1 c1,.slice A2 n2 c2] 156):=(Blk.new w _ _).alloc _
 have HB2:Hid (Blk ((w.alloc (.cells #[.slice A0 n0 c0,.slice A1 n1 c1,.slice A2 n2 c2] 156)).alloc (.cells #[.slice none 0 0,.slice none 0 0] 123)) (w.heap.size+1) [.slice none 0 0,.slice none 0 0] 123):=by
  have:=Blk.new (w.alloc (.cells #[.slice A0 n0 c0,.slice A1 n1 c1,.slice A2 n2 c2] 156)) [.slice none 0 0,.slice none 0 0] 123
  rw [show (w.alloc (.cells #[.slice A0 n0 c0,.slice A1 n1 c1,.slice A2 n2 c2] 156)).heap.size=w.heap.size+1 by simp] at this
  exact this
 have HBW:Hid (Below w.heap.size w ((w.alloc (.cells #[.slice A0 n0 c0,.slice A1 n1 c1,.slice A2 n2 c2] 156)).alloc (.cells #[.slice none 0 0,.slice none 0 0] 123))):=((Below.refl _ _).alloc (Nat.le_refl _) _).alloc (by simp) _
 go_enter Tryz.func100,Tryz.ntmps100
 go_wp2_with fail
 go_loopg [8] h (fun kx s8 wr=>∃ p:Pg kx,Good w F kx p/\Blk wr w.heap.size (ecells (kx+1) p) 156/\Blk wr (w.heap.size+1) [.slice none 0 0,.slice none 0 0] 123/\Below w.heap.size w wr/\hasL k (flats kx p.els)=hasL k l/\getT k (flats kx p.els)=getT k l)
 case atStart=>exact ⟨p,HP.out,by rw [HV.out];exact HB1.out,HB2.out,HBW.out,by rw [HL.out],by rw [HL.out]⟩
 case round=>
  obtain ⟨p,hp,hb1,hb2,hbw,hhas,hget⟩:=hrel
  clear HP HL HV HB1 HB2 HBW
  have HP:=Lib.hid hp
  have HHAS:=Lib.hid hhas
  have HGET:=Lib.hid hget
  have HB1:=Lib.hid hb1
  have HB2:=Lib.hid hb2
  have HBW:=Lib.hid hbw
  clear hp hb1 hb2 hbw hhas hget
  cases gk with
  | zero=>
   obtain ⟨f,A,els,c⟩:=p
   have HPL:Hid (∀ W,Below w.heap.size w W->Calls Tryz.prog 129 #[.agg #[pv f,.slice A els.length c,.slice none 0 0],.slice B m d] W fun e w'=>e= .returned (.tuple #[.int .i64 ((low k (flats 0 els)).length:Nat),.bool (hasL k (flats 0 els))])/\Below W.heap.size W w'):=fun W hW=>
    place_any W F ⟨f,A,els,c⟩ B k m d (HP.out.ok.below hW) (by have:=HP.out.few;dsimp only at this ⊢;omega) HP.out.srt (HK.out.below hW) HM.out
   have HB1':Hid (Blk wr w.heap.size [.slice f.1 f.2.1.length f.2.2,.slice A els.length c,.slice none 0 0] 156):=HB1.out
   have hcut:=HP.out.srt.cut k
   dsimp only at hcut
   have HQ:Hid (hasL k (flats 0 els)=true->∃ i,(low k (flats 0 els)).length=i/\i<els.length/\∃ b off,A=some ⟨b,off,none⟩/\∃ q:El 0,EOk w F 0 q/\kv0 q=(k,getT k l)/\∀ W,Below w.heap.size w W->W.cell? ⟨b,off+i*2,none⟩=some (pv (epiece 0 q))/\W.cell? ⟨b,off+i*2+1,none⟩=some (pv (eval0 q))):=fun hy=>by
    rcases hcut with ⟨_,e2,_⟩ | ⟨e1,_⟩
    · have hz:(flats 0 els)[(low k (flats 0 els)).length]? =some (k,getT k (flats 0 els)):=by
       conv=>lhs;arg 1;rw [e2]
       simp
      have hlt:(low k (flats 0 els)).length<els.length:=by
       have:=(List.getElem?_eq_some_iff.1 hz).1
       rw [flats_zero_length] at this
       exact this
      rw [flats_zero,List.getElem?_map] at hz
      rw [<-flats_zero,List.getElem?_eq_getElem hlt] at hz
      injection hz with hz
      obtain ⟨b,off,rfl,hb,_,hc⟩:=(HP.out.ok.2.1).elem _ hlt
      refine ⟨_,rfl,hlt,b,off,rfl,els[(low k (flats 0 els)).length],HP.out.ok.2.2.2 _ (List.getElem_mem hlt),?_,fun W hW=>⟨(hW.cell (p:=⟨b,off+(low k (flats 0 els)).length*2,none⟩) hb).trans (hc 0 (by decide)),(hW.cell (p:=⟨b,off+(low k (flats 0 els)).length*2+1,none⟩) hb).trans (hc 1 (by decide))⟩⟩
      rw [hz]
      have:=HGET.out
      rw [this]
    · rw [e1] at hy;cases hy
   have HH:Hid (hasL k (flats 0 els)=hasL k l):=HHAS.out
   generalize hasL k (flats 0 els)=has at *
   generalize (low k (flats 0 els)).length=i at *
   have hn1:els.length<=1000:=HP.out.few
   unfold pv at HPL
   clear hcut HHAS HGET HB1 HP
   generalize els.length=n at *
   generalize f.2.1.length=nf at *
   generalize f.1=Af at *
   generalize f.2.2=cf at *
   have x0:=HB1'.out.cell (i:=0) (by simp)
   have x1:=HB1'.out.cell (i:=1) (by simp)
   have x2:=HB1'.out.cell (i:=2) (by simp)
   simp only [List.getElem_cons_zero,List.getElem_cons_succ] at x0 x1 x2
   go_wp2_with fail
   refine (isLeaf_yes _ Af A nf cf n c).mono ?_
   rintro e w3 ⟨rfl,hb3⟩
   have HX3:=Lib.hid (HB1'.out.below hb3 HB1'.out.lt)
   have HR3:=Lib.hid (HB2.out.below hb3 HB2.out.lt)
   have HW3:=Lib.hid (hop HBW.out hb3)
   clear hb3 x0 x1 x2 HB1' HB2
   have x0:=HX3.out.cell (i:=0) (by simp)
   have x1:=HX3.out.cell (i:=1) (by simp)
   have x2:=HX3.out.cell (i:=2) (by simp)
   simp only [List.getElem_cons_zero,List.getElem_cons_succ] at x0 x1 x2
   go_wp2_with fail
   refine (HPL.out w3 HW3.out).mono ?_
   rintro e w4 ⟨rfl,hb4⟩
   have HX4:=Lib.hid (HX3.out.below hb4 HX3.out.lt)
   have HR4:=Lib.hid (HR3.out.below hb4 HR3.out.lt)
   have HW4:=Lib.hid (hop HW3.out hb4)
   clear hb4 x0 x1 x2 HX3 HR3 HPL
   have x0:=HX4.out.cell (i:=0) (by simp)
   have x1:=HX4.out.cell (i:=1) (by simp)
   have x2:=HX4.out.cell (i:=2) (by simp)
   have r0:=HR4.out.cell (i:=0) (by simp)
   have r1:=HR4.out.cell (i:=1) (by simp)
   have f0:=HR4.out.free 0
   have f1:=HR4.out.free 1
   simp only [List.getElem_cons_zero,List.getElem_cons_succ] at x0 x1 x2 r0 r1
   cases has with
   | false=>
    have HF:Hid (hasL k l=false):=HH.out.symm
    go_wp2_with fail
    refine bodyPost_ret (v:= .tuple #[.agg #[.slice none 0 0,.slice none 0 0],.bool false]) (by simp [results,Tryz.results100,go_sem,r0,r1]) rfl ⟨?_,.inr ⟨HF.out,rfl⟩⟩
    exact (HW4.out.setCell (by simp) _).setCell (by simp) _
   | true=>
    have HF:Hid (hasL k l=true):=HH.out.symm
    obtain ⟨_,rfl,hi,b,off,rfl,q,hq1,hq2,hq3⟩:=HQ.out rfl
    obtain ⟨y0,y1⟩:=hq3 _ HW4.out
    have HQ1:=Lib.hid hq1
    have HQ2:=Lib.hid hq2
    have hi0:(0:Int)<=(i:Int):=by omega
    have hi1:(i:Int)<(n:Int):=by omega
    unfold pv at y0 y1
    clear hq1 hq2 hq3 HQ
    go_wp2_with fail
    refine bodyPost_ret (v:= .tuple #[.agg #[pv (epiece 0 q),pv (eval0 q)],.bool true]) (by simp [results,Tryz.results100,go_sem,pv,r0,r1]) rfl ⟨?_,.inl ⟨HF.out,q,rfl,HQ1.out,HQ2.out⟩⟩
    exact (HW4.out.setCell (by simp) _).setCell (by simp) _
  | succ j=>
   obtain ⟨f,A,els,c⟩:=p
   obtain ⟨i,hi,hr,hlo,hhi⟩:=route j k els (fun x hx=>HP.out.inner.full hx) HP.out.srt (HP.out.some_ (by omega))
   have HR:=Lib.hid hr
   have HSP:Hid (hasL k (eflat (j+1) els[i])=hasL k l/\getT k (eflat (j+1) els[i])=getT k l):=by
    have e:=flats_split (j+1) els i hi
    rw [<-HHAS.out,<-HGET.out]
    show _=hasL k (flats (j+1) els)/\_=getT k (flats (j+1) els)
    rw [e,mid_has hlo hhi,mid_get hlo hhi]
    exact ⟨rfl,rfl⟩
   have HKID:=Lib.hid (HP.out.kid i hi)
   obtain ⟨K0,k0,e0,K1,k1,e1,K2,k2,e2,hkv⟩:=page_form j els[i]
   obtain ⟨b,off,rfl,hb,hFb,hcell⟩:=(HP.out.ok.2.1).elem i hi
   have HKC:Hid (∀ W,Below w.heap.size w W->W.cell? ⟨b,off+i*3,none⟩=some (.slice K0 k0 e0)/\W.cell? ⟨b,off+i*3+1,none⟩=some (.slice K1 k1 e1)/\W.cell? ⟨b,off+i*3+2,none⟩=some (.slice K2 k2 e2)):=fun W hW=>by
    have h0:=hcell 0 (by decide:0<3)
    have h1:=hcell 1 (by decide:1<3)
    have h2:=hcell 2 (by decide:2<3)
    have hkv':ecells (j+1) els[i]=[.slice K0 k0 e0,.slice K1 k1 e1,.slice K2 k2 e2]:=hkv
    rw [hkv'] at h0 h1 h2
    exact ⟨(hW.cell (p:=⟨b,off+i*3,none⟩) hb).trans h0,(hW.cell (p:=⟨b,off+i*3+1,none⟩) hb).trans h1,(hW.cell (p:=⟨b,off+i*3+2,none⟩) hb).trans h2⟩
   have HKV:=Lib.hid hkv
   have HU:Hid (∀ W,Below w.heap.size w W->Calls Tryz.prog 130 #[.agg #[pv f,.slice none 0 0,.slice (some ⟨b,off,none⟩) els.length c],.slice B m d] W fun e w'=>e= .returned (.int .i64 i)/\Below W.heap.size W w'):=fun W hW=>
    under_any W F j ⟨f,some ⟨b,off,none⟩,els,c⟩ i B k m d (HP.out.ok.below hW) (by have:=HP.out.few;dsimp only at this ⊢;omega) hi hr (HK.out.below hW) HM.out
   have hn0:0<els.length:=by omega
   have hn1:els.length<=1000:=HP.out.few
   have HEI:Hid (els[i]=els[i]):=rfl
   obtain ⟨kid,hkid⟩:∃ kid:Pg j,kid=els[i]:=⟨_,rfl⟩
   rw [<-hkid] at HSP HKID HKV
   have HB1':Hid (Blk wr w.heap.size [.slice f.1 f.2.1.length f.2.2,.slice none 0 0,.slice (some ⟨b,off,none⟩) els.length c] 156):=HB1.out
   have HI:=hi
   unfold pv at HU
   clear hr hlo hhi hcell hkv hkid HEI HHAS HGET HB1 HP HR hi
   generalize els.length=n at *
   generalize f.2.1.length=nf at *
   generalize f.1=Af at *
   generalize f.2.2=cf at *
   have x0:=HB1'.out.cell (i:=0) (by simp)
   have x1:=HB1'.out.cell (i:=1) (by simp)
   have x2:=HB1'.out.cell (i:=2) (by simp)
   simp only [List.getElem_cons_zero,List.getElem_cons_succ] at x0 x1 x2
   have hi0:(0:Int)<=(i:Int):=by omega
   have hi1:(i:Int)<(n:Int):=by omega
   go_wp2_with fail
   refine (isLeaf_no _ Af none (some ⟨b,off,none⟩) nf cf 0 0 n c hn0).mono ?_
   rintro e w3 ⟨rfl,hb3⟩
   have HX3:=Lib.hid (HB1'.out.below hb3 HB1'.out.lt)
   have HR3:=Lib.hid (HB2.out.below hb3 HB2.out.lt)
   have HW3:=Lib.hid (hop HBW.out hb3)
   clear hb3 x0 x1 x2 HB1' HB2
   have x0:=HX3.out.cell (i:=0) (by simp)
   have x1:=HX3.out.cell (i:=1) (by simp)
   have x2:=HX3.out.cell (i:=2) (by simp)
   simp only [List.getElem_cons_zero,List.getElem_cons_succ] at x0 x1 x2
   go_wp2_with fail
   go_region_with (go_at_call 130;refine (HU.out _ HW3.out.drew).mono ?_;rintro e w5 ⟨rfl,hb5⟩;have HX5:=Lib.hid (HX3.out.below (undrew hb5) HX3.out.lt);have HR5:=Lib.hid (HR3.out.below (undrew hb5) HR3.out.lt);have HW5:=Lib.hid (hop HW3.out (undrew hb5));obtain ⟨y0,y1,y2⟩:=HKC.out _ HW5.out;have z0:=HX5.out.cell (i:=0) (by simp);have z1:=HX5.out.cell (i:=1) (by simp);have z2:=HX5.out.cell (i:=2) (by simp);simp only [List.getElem_cons_zero,List.getElem_cons_succ] at z0 z1 z2;have f0:=HX5.out.free 0;have f1:=HX5.out.free 1;have f2:=HX5.out.free 2;clear hb5)
   all_goals
    go_wp2_with fail
    go_roundg j
    case measure=>omega
    case rel=>
     refine ⟨kid,HKID.out.below (Below.refl _ _),?_,?_,?_,HSP.out.1,HSP.out.2⟩
     · rw [HKV.out];exact ((HX5.out.set 0 (.slice K0 k0 e0)).set 1 (.slice K1 k1 e1)).set 2 (.slice K2 k2 e2)
     · exact ((HR5.out.other _ _ (by simp)).other _ _ (by simp)).other _ _ (by simp)
     · exact ((HW5.out.setCell (Nat.le_refl _) _).setCell (Nat.le_refl _) _).setCell (Nat.le_refl _) _
end Go.Proofs.YtdaahapbpnjkfaaGreat
