/-
The statement KvDoes: on a disk of any image, any calls are answered as the document says; the disk keeps just what it says. Condition: the row's own.
-/
import Derived.Test.YtdaahapbpnjkfaaGreatCLgL
import Derived.Test.YtdaahapbpnjkfaaGreatCKvAlike
import Derived.Test.YtdaahapbpnjkfaaGreatCKvDoesL
import Derived.Test.YtdaahapbpnjkfaaGreatCKvAwake
import Derived.Test.YtdaahapbpnjkfaaGreatCFEnc
import Derived.Test.YtdaahapbpnjkfaaGreatCDkWrite
import Derived.Deep.RegionHeldLaw
import Derived.Deep.Cut
import Derived.Deep.CutRange
import Derived.Deep.CutBlock
namespace Go.Proofs.YtdaahapbpnjkfaaGreat
open Go.RowKit
theorem KsSeen.below {w w':World} {A:Option Addr} {l:List KOp} (h:KsSeen w A l) (hb:Below w.heap.size w w'):KsSeen w' A l:=by
 rcases h with h | ⟨b,off,e,h1,h2⟩
 · exact .inl h
 · refine .inr ⟨b,off,e,Nat.lt_of_lt_of_le h1 hb.size,fun j hj=>⟨fun i hi=>(hb.cell (p:=⟨b,off+j*6+i,none⟩) h1).trans ((h2 j hj).1 i hi),?_⟩⟩
   obtain ⟨k1,⟨k2,k3⟩,⟨k4,k5⟩,⟨k6,k7⟩,k8,k9⟩:=(h2 j hj).2
   exact ⟨k1,⟨k2.below hb,k3⟩,⟨k4.below hb,k5⟩,⟨k6.below hb,k7⟩,k8.below hb,k9⟩
theorem rows_len {D:List UInt8} {m:Nat} (h:D.length=m*64):(rowsDsk (rowsOf D)).K.length=m:=by
 show (rowsOf D).length=m
 rw [rowsOf_length,h]
 omega
def KAt (w:World) (g r h:Nat) (s:Dsk) (ko:Option KvS) (P Q:Option Addr) (k:Nat) (xs:List KBox) (wr:World):Prop:=
 s.Few (1100*k+1100)/\h=s.K.length/2/\s.K.length<=100/\(∀ k',ko=some k'->Bound k' k)/\KTwo w wr g r h s s ko ko P Q xs
theorem KAt.still {w wr w':World} {g r h:Nat} {s:Dsk} {ko:Option KvS} {P Q:Option Addr} {k:Nat} {xs:List KBox} (d:KAt w g r h s ko P Q k xs wr) (hb:Below wr.heap.size wr w'):KAt w g r h s ko P Q k xs w':=⟨d.1,d.2.1,d.2.2.1,d.2.2.2.1,d.2.2.2.2.still hb⟩
theorem KTwo.none_ {w0 w:World} {g r h:Nat} {s t:Dsk} {P Q:Option Addr} {xs:List KBox} (k:KTwo w0 w g r h s t none none P Q xs):P=none/\Q=none:=by
 obtain ⟨T,D,U,h1,h2,_⟩:=k
 exact ⟨h1.2.2.1,h2.2.2.1⟩
theorem KTwo.some_ {w0 w:World} {g r h:Nat} {s t:Dsk} {a b:KvS} {P Q:Option Addr} {xs:List KBox} (k:KTwo w0 w g r h s t (some a) (some b) P Q xs):∃ p q,P=some ⟨p,0,none⟩/\Q=some ⟨q,0,none⟩/\a.Fits h s/\Srt a.L:=by
 obtain ⟨T,D,U,h1,h2,_⟩:=k
 obtain ⟨q,b',gt,F,e,p,_⟩:=h1.2.2
 obtain ⟨q2,b2,gm,G,e2,p2,_⟩:=h2.2.2
 exact ⟨q,q2,e,e2,p.fits,p.tree.srt⟩
theorem KAt.alike {w wr:World} {g r h:Nat} {s:Dsk} {ko:Option KvS} {P Q:Option Addr} {k:Nat} {xs:List KBox} (d:KAt w g r h s ko P Q k xs wr) (hk:k<=100) {v0 v1 v5:Value} {B C:Option Addr} {y x:Key} {ny cy nx cx:Nat} {mo:Int} (hy:Seen w B y) (hny:y.length=ny) (hyc:ny<=cy) (hy1:ny<=1000) (hx:Seen w C x) (hnx:x.length=nx) (hx1:nx<=1000):
 Calls Tryz.prog 21 #[.pointer P,.pointer Q,.agg #[v0,v1,.slice B ny cy,.slice C nx cx,.int .i64 mo,v5]] wr fun e w'=>e= .returned (.bool true)/\Below wr.heap.size wr w':=by
 obtain ⟨_,_,_,hb,k2⟩:=d
 cases ko with
 | none=>
  obtain ⟨rfl,rfl⟩:=k2.none_
  exact alike_none wr _ _ _ _ _ _
 | some a=>
  have hbl:=k2.below
  obtain ⟨T,D,U,h1,h2,_⟩:=k2
  obtain ⟨q,b',gt,F,rfl,p,_⟩:=h1.2.2
  obtain ⟨q2,b2,gm,G,rfl,p2,_⟩:=h2.2.2
  exact alike_any p p2 (by have:=(hb a rfl).len;omega) (hy.below hbl) hny hyc hy1 (hx.below hbl) hnx hx1
set_option maxRecDepth 100000 in
set_option maxHeartbeats 20000000 in
theorem kvDoes_walk (A:Option Addr) (img:List UInt8) (ci:Nat) (B:Option Addr) (l:List KOp) (co:Nat) (w:World) (hi:img.length<=140737488351232) (hs:Seen w A img) (hl:l.length<=9223372036854775807) (hq:KsSeen w B l):
 Calls Tryz.prog 3 #[.slice A img.length ci,.slice B l.length co] w fun e w'=>e= .returned (.bool true)/\Below w.heap.size w w':=by
 have HS:=Lib.hid hs
 have HQ:=Lib.hid hq
 obtain ⟨n,hn⟩:∃ n,n=l.length:=⟨_,rfl⟩
 have HN:=Lib.hid hn
 rw [<-hn] at hl ⊢
 obtain ⟨ni,hni⟩:∃ n,n=img.length:=⟨_,rfl⟩
 have HNI:Hid (img.length=ni):=hni.symm
 rw [<-hni] at hi ⊢
 have HFEW:=Lib.hid (fun w' (hb:Below w.heap.size w w')=>kfew_any B l n co w' hn.symm (hq.below hb))
 clear hs hq hn hni
 obtain ⟨i0,hi0,hz0,hz1,hz2⟩:=info_parts info8p
 go_enter Tryz.func3,Tryz.ntmps3
 go_wp2_with fail
 refine (awake_any _).mono ?_
 rintro e w1 ⟨rfl,hb1⟩
 have B1:=Lib.hid hb1
 clear hb1
 go_wp2_with fail
 refine (HFEW.out _ B1.out).mono ?_
 rintro e w2 ⟨rfl,hw⟩
 obtain rfl:=hw
 obtain ⟨fb,hfb⟩:∃ fb,fb=kfewB l:=⟨_,rfl⟩
 rw [<-hfb]
 have HFB:=Lib.hid hfb
 clear hfb HFEW
 by_cases hf:fb=false
 · subst hf
   go_wp2_with fail
   go_ret
   exact ⟨rfl,B1.out⟩
 have hf':fb=true:=by simpa using hf
 subst hf'
 clear hf
 have HSM:=Lib.hid (kfewB_true HFB.out.symm)
 have hn60:n<=60:=by have:=HSM.out.1;have:=HN.out;omega
 go_wp2_with (at_builtin;refine wpList_append_to _ rfl (.const (.slice none 0 0)) (.tmp 33) 22 rfl 5 i0 (.int .u8 0) Tryz.underlying22 hi0 hz0 hz1 hz2 rfl w none 0 0 [] A ni ci img img ni rfl rfl (madeN_start B1.out) (Lib.hid (HS.out.below B1.out)) HNI (Lib.hid rfl) (Lib.hid (Nat.zero_add ni).symm) (by omega) ?_)
 intro A2 c2 w2 hm2 hb2
 have HM2:=Lib.hid hm2.out
 clear hm2 hb2
 go_upto_region 6 with fail
 obtain ⟨bad,hbad⟩:∃ b:Bool,b=decide (¬ (ni%64=0/\ni≠0/\ni<=6400)):=⟨_,rfl⟩
 have HBAD:=Lib.hid hbad
 clear hbad
 go_cut [48] from 23 (fun v wx=>v= .bool bad/\wx=w2)
 case first=>
  by_cases h1:ni%64=0
  · have d1:(ni:Int)%64=0:=by omega
    by_cases h2:ni=0
    · have HE:=Lib.hid (HBAD.out.trans (decide_eq_true (fun h=>h.2.1 h2)))
      have d2:((ni:Int)==0)=true:=by rw [h2];rfl
      clear h1 h2
      go_wp2
      go_meet
      exact ⟨congrArg Value.bool HE.out.symm,rfl⟩
    · have d2:((ni:Int)==0)=false:=by rw [beq_eq_false_iff_ne];omega
      by_cases h3:ni<=6400
      · have HE:=Lib.hid (HBAD.out.trans (decide_eq_false (fun h=>h ⟨h1,h2,h3⟩)))
        have d3: ¬ (6400:Int)<(ni:Int):=by omega
        clear h1 h2 h3
        go_wp2
        go_meet
        exact ⟨congrArg Value.bool HE.out.symm,rfl⟩
      · have HE:=Lib.hid (HBAD.out.trans (decide_eq_true (fun h=>h3 h.2.2)))
        have d3:(6400:Int)<(ni:Int):=by omega
        clear h1 h2 h3
        go_wp2
        go_meet
        exact ⟨congrArg Value.bool HE.out.symm,rfl⟩
  · have HE:=Lib.hid (HBAD.out.trans (decide_eq_true (fun h=>h1 h.1)))
    have d1: ¬ (ni:Int)%64=0:=by omega
    clear h1
    go_wp2
    go_meet
    exact ⟨congrArg Value.bool HE.out.symm,rfl⟩
 case rest=>
 obtain ⟨rfl,rfl⟩:=hcut
 go_upto_if 48 with fail
 go_cut [7] from 23 (fun v wx=>∃ D m A' c',v= .slice A' (m*64) c'/\1<=m/\m<=100/\MadeN 5 w D A' (m*64) c' wx)
 case first=>
  by_cases hb:bad=true
  · subst hb
    have hmk:∀ W,(Instr.makeSlice 22 (.int .i64 1536) (.int .i64 1536)).run Tryz.prog W= .ok (.slice (some ⟨W.heap.size,0,none⟩) 1536 1536) (W.alloc (.cells ((List.replicate 1536 (0:UInt8)).map bv).toArray 5)):=make_noughts 1536 (by decide)
    have HZ:Hid (MadeN 5 w (List.replicate 1536 0) (some ⟨wc.heap.size,0,none⟩) (24*64) (24*64) (wc.alloc (.cells ((List.replicate 1536 (0:UInt8)).map bv).toArray 5))):=
     ⟨by simp,made_of_blk (Blk.new wc _ _) HM2.out.2.2.size (HM2.out.2.2.alloc HM2.out.2.2.size _) (by simp) (by decide)⟩
    generalize (List.replicate 1536 (0:UInt8))=Z at hmk HZ
    go_wp2
    go_meet
    exact ⟨Z,24,_,_,rfl,by decide,by decide,HZ.out⟩
  · have hb':bad=false:=by simpa using hb
    have hgood:ni%64=0/\ni≠0/\ni<=6400:=by
     have:=of_decide_eq_false (HBAD.out.symm.trans hb')
     exact Decidable.byContradiction this
    have e:ni=ni/64*64:=by omega
    have HM3:Hid (MadeN 5 w img A2 (ni/64*64) c2 wc):=by show MadeN _ _ _ _ _ _ _;rw [<-e];exact HM2.out
    have h1:1<=ni/64:=by omega
    have h2:ni/64<=100:=by omega
    have HE:=Lib.hid e
    subst hb'
    clear hgood hb e
    go_wp2
    go_meet
    exact ⟨img,ni/64,A2,c2,by rw [<-HE.out],h1,h2,HM3.out⟩
 case rest=>
 clear HM2 HBAD HS HNI hi
 obtain ⟨D,m,A3,c3,rfl,hm1,hm60,hm3⟩:=hcut
 have HM3:=Lib.hid hm3
 have HOF:Hid (Calls Tryz.prog 11 #[.slice A3 (m*64) c3] wc fun e w'=>∃ g F,e= .returned (.tuple #[.pointer (some ⟨g,0,none⟩),.int .i64 0])/\DiskAt w' g F (rowsDsk (rowsOf D))/\(∀ k,F k->wc.heap.size<=k)/\Below wc.heap.size wc w'):=by
  have hc:D.length<=c3:=cap_of HM3.out.2
  have:=of_any wc A3 D c3 m HM3.out.1 hc HM3.out.seen hm1 (by omega)
  rw [HM3.out.1] at this
  refine this.mono ?_
  rintro e w' ⟨s,ho,g,F,h1,h2,h3,h4⟩
  obtain rfl:=of_rows ho HM3.out.1
  exact ⟨g,F,h1,h2,h3,h4⟩
 have HREF:Hid (∀ w',Below wc.heap.size wc w'->Calls Tryz.prog 12 #[.slice A3 (m*64) c3] w' (RFresh w' (rowsDsk (rowsOf D)))):=fun w' hb=>by
  have hc:D.length<=c3:=cap_of HM3.out.2
  rw [HM3.out.1] at hc
  exact refOf_any w' A3 D (m*64) c3 m HM3.out.1 rfl hc (by omega) (HM3.out.seen.below hb)
 have BC:=Lib.hid HM3.out.2.2
 have HK0:Hid ((rowsDsk (rowsOf D)).K.length=m):=rows_len HM3.out.1
 generalize hS0:rowsDsk (rowsOf D)=s0 at HOF HREF HK0
 have HF0:Hid (s0.Few 0):=by rw [<-hS0];exact ⟨Nat.le_refl _,Nat.le_refl _,by show 0<_;decide⟩
 clear hm3 hS0 HM3
 go_wp2_with fail
 refine HOF.out.mono ?_
 rintro e w3 ⟨g,F,rfl,hd,hF,hb⟩
 have D3:=Lib.hid hd
 have HFL:Hid (∀ k,F k->w.heap.size<=k):=fun k hk=>Nat.le_trans BC.out.size (hF k hk)
 have BB:=Lib.hid hb
 clear hd hF hb HOF
 go_wp2_with fail
 refine (HREF.out _ BB.out).mono ?_
 rintro e w4 ⟨r,G,rfl,hd,hG,hb⟩
 have P4:=Lib.hid (ktwo_start (h:=m/2) (hop BC.out BB.out) D3.out HFL.out hd hG hb)
 clear hd hG hb HREF D3 HFL BB BC
 have HOP:=Lib.hid (P4.out.open_ (m:=0) (by rw [HK0.out]) (by rw [HK0.out];omega) HF0.out (by omega))
 have HKP:=Lib.hid (open_keeps (h:=m/2) (m:=0) P4.out.disks_ok (by rw [HK0.out]) HF0.out)
 obtain ⟨⟨E,s1,ko⟩,hR⟩:∃ R,R=openK (m/2) s0:=⟨_,rfl⟩
 rw [<-hR] at HOP HKP
 have HRR:=Lib.hid hR
 clear hR
 go_wp2_with fail
 with_reducible refine HOP.out.mono ?_
 rintro e w5 ⟨P',rfl,hk5⟩
 have HROP:=Lib.hid (hk5.ropen (m:=0) (by rw [HK0.out]) (by rw [HK0.out];omega) HF0.out (by omega))
 rw [<-HRR.out] at HROP
 clear hk5 HOP HRR
 go_wp2_with fail
 with_reducible refine HROP.out.mono ?_
 rintro e w6 ⟨Q',rfl,hk6⟩
 have P6:Hid (KAt w g r (m/2) s1 ko P' Q' 0 [] w6):=⟨HKP.out.1,by rw [HKP.out.2.1,HK0.out],by rw [HKP.out.2.1,HK0.out];exact hm60,fun k' hk=>by
  have h5:=HKP.out.2.2 k' hk
  exact ⟨by omega,by omega⟩,hk6⟩
 clear hk6 HROP HKP P4 HF0 HK0
 go_wp2_with fail
 go_loopw [11,13,15] (fun v x a wr=>∃ k s ko P Q,k<=n/\a= .int .i64 ((k:Nat):Int)/\v= .pointer P/\x= .pointer Q/\KAt w g r (m/2) s ko P Q k [] wr) (fun _ _ a _=>n-(intOf a).toNat)
 case atStart=>exact ⟨0,s1,ko,P',Q',Nat.zero_le _,rfl,rfl,rfl,P6.out⟩
 case round=>
 clear P6
 obtain ⟨k,s,ko,P,Q,hk,rfl,rfl,rfl,hp⟩:=hrel
 have PP:=Lib.hid hp
 clear hp
 by_cases hge: ¬ k<n
 · obtain rfl:k=n:=by omega
   have hkl: ¬ (k:Int)<(k:Int):=by omega
   go_wp2_with fail
   go_ret
   exact ⟨rfl,PP.out.2.2.2.2.below⟩
 have hlt:k<n:=by omega
 clear hge
 have hkl:(k:Int)<(n:Int):=by omega
 have hkn:k<l.length:=by have:=HN.out;omega
 obtain ⟨ba,oa,rfl,hok,hc⟩:=HQ.out.at_ k hkn
 obtain ⟨o0,o1,o2,o3,o4,o5⟩:=hc wr PP.out.2.2.2.2.below
 have HOK:=Lib.hid hok
 have hbig:=HSM.out.2 k hkn
 clear hc hok
 generalize l[k]=o at *
 clear hkn
 obtain ⟨z,⟨A1,ps,c1⟩,⟨A2,y,c2⟩,⟨A3,x,c3⟩,N,A5,pk,c5⟩:=o
 change wr.cell? ⟨ba,oa+k*6,none⟩=some (.int .i64 z) at o0
 change wr.cell? ⟨ba,oa+k*6+1,none⟩=some (.slice A1 ps.length c1) at o1
 change wr.cell? ⟨ba,oa+k*6+2,none⟩=some (.slice A2 y.length c2) at o2
 change wr.cell? ⟨ba,oa+k*6+3,none⟩=some (.slice A3 x.length c3) at o3
 change wr.cell? ⟨ba,oa+k*6+4,none⟩=some (.int .i64 N) at o4
 change wr.cell? ⟨ba,oa+k*6+5,none⟩=some (.slice A5 pk.length c5) at o5
 obtain ⟨n1,hn1⟩:∃ n1,n1=ps.length:=⟨_,rfl⟩
 obtain ⟨n2,hn2⟩:∃ n2,n2=y.length:=⟨_,rfl⟩
 obtain ⟨n3,hn3⟩:∃ n3,n3=x.length:=⟨_,rfl⟩
 obtain ⟨n5,hn5⟩:∃ n5,n5=pk.length:=⟨_,rfl⟩
 rw [<-hn1] at o1
 rw [<-hn2] at o2
 rw [<-hn3] at o3
 rw [<-hn5] at o5
 have HN1:Hid (ps.length=n1):=hn1.symm
 have HN2:Hid (y.length=n2):=hn2.symm
 have HN3:Hid (x.length=n3):=hn3.symm
 have HN5:Hid (pk.length=n5):=hn5.symm
 have HBIG:=Lib.hid hbig
 clear hn1 hn2 hn3 hn5 hbig
 obtain ⟨bo,hbo⟩:∃ bo,bo=wr.heap.size:=⟨_,rfl⟩
 obtain ⟨w5,hw5⟩:∃ w5,w5=wr.alloc (.cells #[.int .i64 z,.slice A1 n1 c1,.slice A2 n2 c2,.slice A3 n3 c3,.int .i64 N,.slice A5 n5 c5] 41):=⟨_,rfl⟩
 obtain ⟨x5,hx5⟩:∃ x:KBox,x=(bo,[.int .i64 z,.slice A1 n1 c1,.slice A2 n2 c2,.slice A3 n3 c3,.int .i64 N,.slice A5 n5 c5],41):=⟨_,rfl⟩
 have P5:Hid (KTwo w w5 g r (m/2) s s ko ko P Q [x5]):=by
  show KTwo _ _ _ _ _ _ _ _ _ _ _ _
  rw [hw5,hx5,hbo];exact PP.out.2.2.2.2.holds _ _
 have HW5:Hid (wr.alloc (.cells #[.int .i64 z,.slice A1 n1 c1,.slice A2 n2 c2,.slice A3 n3 c3,.int .i64 N,.slice A5 n5 c5] 41)=w5):=hw5.symm
 have HX:Hid (∀ W (s t:Dsk) (kp kr:Option KvS) (P Q:Option Addr),KTwo w W g r (m/2) s t kp kr P Q [x5]->W.cell? ⟨bo,0,none⟩=some (.int .i64 z)/\W.cell? ⟨bo,1,none⟩=some (.slice A1 n1 c1)/\W.cell? ⟨bo,2,none⟩=some (.slice A2 n2 c2)/\W.cell? ⟨bo,3,none⟩=some (.slice A3 n3 c3)/\W.cell? ⟨bo,4,none⟩=some (.int .i64 N)/\W.cell? ⟨bo,5,none⟩=some (.slice A5 n5 c5)):=fun W s t kp kr P Q h=>by
  have hb:=h.box (List.Mem.head _)
  rw [hx5] at hb
  exact ⟨hb.cell (i:=0) (by simp),hb.cell (i:=1) (by simp),hb.cell (i:=2) (by simp),hb.cell (i:=3) (by simp),hb.cell (i:=4) (by simp),hb.cell (i:=5) (by simp)⟩
 have HF:=Lib.hid PP.out.1
 have HH2:=Lib.hid PP.out.2.1
 have HK1:=Lib.hid PP.out.2.2.1
 have HBD:=Lib.hid PP.out.2.2.2.1
 have hbo':=hbo
 go_upto_block 2 with fail
 rw [HW5.out]
 rw [<-hbo]
 clear hw5 hx5 hbo hbo' HW5 o0 o1 o2 o3 o4 o5
 go_cut [11,13,17,18,19,20,21] from 88 to 141 (fun v x y _ _ _ _ wx=>∃ s' ko' P' Q',v= .pointer P'/\x= .pointer Q'/\y= .bool true/\KAt w g r (m/2) s' ko' P' Q' (k+1) [x5] wx)
 case first=>
  obtain ⟨o0,o1,o2,o3,o4,o5⟩:=HX.out _ _ _ _ _ _ _ P5.out
  by_cases hz0:z=0
  · as_aux_lemma=>
    subst hz0
    rcases ko with _ | a
    · obtain ⟨rfl,rfl⟩:=P5.out.none_
      go_wp2
      go_meet
      exact ⟨s,none,none,none,rfl,rfl,rfl,HF.out.mono (by omega),HH2.out,HK1.out,(fun k' hk=>by cases hk),P5.out⟩
    · obtain ⟨p,q,rfl,rfl,hfit,hsrt⟩:=P5.out.some_
      have bd:Below w5.heap.size w5 w5.drew:=(Below.refl _ _).drew
      have PA:=P5.out.still bd
      have hfv:FewV (valsOf ps):=⟨by rw [valsOf_length];exact HBIG.out.1.1,fun p hp=>by
       obtain ⟨x,hx,rfl⟩:=List.mem_map.1 hp
       exact HBIG.out.1.2 x hx⟩
      have hb0:=HBD.out a rfl
      obtain ⟨⟨E8,s8,k8⟩,hR⟩:∃ R,R=commitL (m/2) s a (valsOf ps):=⟨_,rfl⟩
      have hkeep:=commit_keeps (l:=valsOf ps) hfit
      have hbo:=bound_of hb0 (by omega) hsrt hfv
      have hfw:=commit_few hfit P5.out.disks_ok HF.out hbo.1
      have HA:=Lib.hid (PA.commit (c1:=c1) HF.out (by omega) hb0 (by omega) HOK.out.2.1.1 HN1.out hfv)
      rw [<-hR] at hkeep hfw HA
      have HRA:Hid (∀ w6,KTwo w w6 g r (m/2) s8 s (some k8) (some a) (some ⟨p,0,none⟩) (some ⟨q,0,none⟩) [x5]->Calls Tryz.prog 16 #[.pointer (some ⟨q,0,none⟩),.slice A1 n1 c1] w6 fun e w'=>e= .returned (.int .i64 E8)/\KTwo w w' g r (m/2) s8 s8 (some k8) (some k8) (some ⟨p,0,none⟩) (some ⟨q,0,none⟩) [x5]):=fun w6 h=>by
       have h5:=h.rcommit (c1:=c1) HF.out (by omega) hb0 (by omega) HOK.out.2.1.1 HN1.out hfv
       rw [<-hR] at h5
       exact h5
      have hS5:w5.drew.cell? ⟨bo,1,none⟩=some (.slice A1 n1 c1):=(HX.out _ _ _ _ _ _ _ PA).2.1
      have HEND:Hid (s8.Few (1100*(k+1)+1100)/\m/2=s8.K.length/2/\s8.K.length<=100/\∀ k',some k8=some k'->Bound k' (k+1)):=⟨hfw.mono (by omega),by rw [hkeep.1];exact HH2.out,by rw [hkeep.1];exact HK1.out,fun k' hk=>by
       injection hk with hk
       rw [<-hk]
       obtain ⟨_,_,_,_,b5,b6⟩:=hbo
       have b7:=hb0.len
       have b8:=hb0.size
       rcases hkeep.2 with e | e
       · change k8.L=a.L at e
         exact ⟨by rw [e];omega,by rw [e];omega⟩
       · change k8.L=doAll (valsOf ps) a.L at e
         exact ⟨by rw [e];exact b5,by rw [e];exact b6⟩⟩
      clear hR PA hfit hsrt hfv hb0 hkeep hbo hfw o0 o1 o2 o3 o4 o5
      go_wp2_with fail
      go_region_held_law (fun w'=>w'.cell? ⟨bo,1,none⟩=some (.slice A1 n1 c1)) (first | exact hS5 | assumption)
       (first
        | (go_at_call 15;refine HA.out.mono ?_;rintro e w6 ⟨rfl,hp6⟩;have P6:=Lib.hid hp6;have hS6:w6.cell? ⟨bo,1,none⟩=some (.slice A1 n1 c1):=(HX.out _ _ _ _ _ _ _ hp6).2.1;clear hp6)
        | (go_at_call 16;refine (HRA.out _ P6.out).mono ?_;rintro e w7 ⟨rfl,hp7⟩;have P7:=Lib.hid hp7;have hS7:w7.cell? ⟨bo,1,none⟩=some (.slice A1 n1 c1):=(HX.out _ _ _ _ _ _ _ hp7).2.1;clear hp7))
      go_wp2
      go_meet
      exact ⟨s8,some k8,_,_,rfl,rfl,rfl,HEND.out.1,HEND.out.2.1,HEND.out.2.2.1,HEND.out.2.2.2,P7.out⟩
  by_cases hz1:z=1
  · as_aux_lemma=>
    subst hz1
    have hkeep:=open_keeps (h:=m/2) P5.out.disks_ok HH2.out HF.out
    have HO1:=Lib.hid (P5.out.open_ HH2.out (by have:=HK1.out;omega) HF.out (by omega))
    obtain ⟨⟨E8,s8,k8⟩,hR⟩:∃ R,R=openK (m/2) s:=⟨_,rfl⟩
    rw [<-hR] at hkeep HO1
    have HRR:=Lib.hid hR
    have HKE:=Lib.hid hkeep
    clear hR hkeep
    go_wp2_with fail
    refine HO1.out.mono ?_
    rintro e w6 ⟨P6,rfl,hp6⟩
    clear o0 o1 o2 o3 o4 o5
    obtain ⟨o0,o1,o2,o3,o4,o5⟩:=HX.out _ _ _ _ _ _ _ hp6
    have HO2:=Lib.hid (hp6.ropen HH2.out (by have:=HK1.out;omega) HF.out (by omega))
    rw [<-HRR.out] at HO2
    clear hp6 HO1
    go_wp2_with fail
    refine HO2.out.mono ?_
    rintro e w7 ⟨Q7,rfl,hp7⟩
    have P7:=Lib.hid hp7
    clear hp7 HO2 HRR o0 o1 o2 o3 o4 o5
    go_wp2
    go_meet
    exact ⟨s8,k8,P6,Q7,rfl,rfl,rfl,HKE.out.1.mono (by omega),by rw [HKE.out.2.1];exact HH2.out,by rw [HKE.out.2.1];exact HK1.out,fun k' hk=>by
     have h5:=HKE.out.2.2 k' hk
     have:=HK1.out
     have:=HH2.out
     exact ⟨by omega,by omega⟩,P7.out⟩
  by_cases hz2:z=2
  · as_aux_lemma=>
    subst hz2
    have HA:=Lib.hid (P5.out.arm (i:=N))
    go_wp2_with fail
    refine HA.out.mono ?_
    rintro e w6 ⟨rfl,hp6⟩
    clear o0 o1 o2 o3 o4 o5
    obtain ⟨o0,o1,o2,o3,o4,o5⟩:=HX.out _ _ _ _ _ _ _ hp6
    have HA2:=Lib.hid (hp6.rarm (i:=N))
    clear hp6 HA
    go_wp2_with fail
    refine HA2.out.mono ?_
    rintro e w7 ⟨rfl,hp7⟩
    have P7:=Lib.hid hp7
    clear hp7 HA2 o0 o1 o2 o3 o4 o5
    go_wp2
    go_meet
    exact ⟨s.arm N,ko,P,Q,rfl,rfl,rfl,(HF.out.arm N HOK.out.1.2.2).mono (by omega),by rw [(arm_same s N).1];exact HH2.out,by rw [(arm_same s N).1];exact HK1.out,fun k' hk=>⟨by have:=(HBD.out k' hk).len;omega,by have:=(HBD.out k' hk).size;omega⟩,P7.out⟩
  by_cases hz3:z=3
  · as_aux_lemma=>
    subst hz3
    have HA:=Lib.hid (P5.out.crash (c:=c5) HOK.out.2.2.2.2.1 HN5.out (by rw [<-HN5.out];exact HOK.out.2.2.2.2.2.1) HOK.out.2.2.2.2.2.2)
    go_wp2_with fail
    refine HA.out.mono ?_
    rintro e w6 ⟨rfl,hp6⟩
    clear o0 o1 o2 o3 o4 o5
    obtain ⟨o0,o1,o2,o3,o4,o5⟩:=HX.out _ _ _ _ _ _ _ hp6
    have HA2:=Lib.hid (hp6.rcrash (c:=c5) HOK.out.2.2.2.2.1 HN5.out (by rw [<-HN5.out];exact HOK.out.2.2.2.2.2.1) HOK.out.2.2.2.2.2.2)
    clear hp6 HA
    go_wp2_with fail
    refine HA2.out.mono ?_
    rintro e w7 ⟨rfl,hp7⟩
    have P7:=Lib.hid hp7
    clear hp7 HA2 o0 o1 o2 o3 o4 o5
    go_wp2
    go_meet
    exact ⟨s.crash (pickOf pk),ko,P,Q,rfl,rfl,rfl,(HF.out.crash (pickOf pk)).mono (by omega),by rw [crash_len];exact HH2.out,by rw [crash_len];exact HK1.out,fun k' hk=>⟨by have:=(HBD.out k' hk).len;omega,by have:=(HBD.out k' hk).size;omega⟩,P7.out⟩
  as_aux_lemma=>
   have z0:(z==0)=false:=by rw [beq_eq_false_iff_ne];exact hz0
   have z1:(z==1)=false:=by rw [beq_eq_false_iff_ne];exact hz1
   have z2:(z==2)=false:=by rw [beq_eq_false_iff_ne];exact hz2
   have z3:(z==3)=false:=by rw [beq_eq_false_iff_ne];exact hz3
   go_wp2
   go_meet
   exact ⟨s,ko,P,Q,rfl,rfl,rfl,HF.out.mono (by omega),HH2.out,HK1.out,fun k' hk=>⟨by have:=(HBD.out k' hk).len;omega,by have:=(HBD.out k' hk).size;omega⟩,P5.out⟩
 case rest=>
 as_aux_lemma=>
  obtain ⟨s',ko',P',Q',rfl,rfl,rfl,hp⟩:=hcut
  have P7:=Lib.hid hp
  have HAL:=Lib.hid (hp.alike (by omega) (v0:= .int .i64 z) (v1:= .slice A1 n1 c1) (v5:= .slice A5 n5 c5) (mo:=N) (cy:=c2) (cx:=c3) HOK.out.2.2.1.1 HN2.out (by rw [<-HN2.out];exact HOK.out.2.2.1.2.1) (by rw [<-HN2.out];exact HBIG.out.2.1) HOK.out.2.2.2.1.1 HN3.out (by rw [<-HN3.out];exact HBIG.out.2.2))
  obtain ⟨o0,o1,o2,o3,o4,o5⟩:=HX.out _ _ _ _ _ _ _ hp.2.2.2.2
  clear hp P5 HX HF HH2 HK1 HBD PP HOK HBIG
  go_wp2_with fail
  refine HAL.out.mono ?_
  rintro e w8 ⟨rfl,hb8⟩
  have P8:=Lib.hid (P7.out.still hb8)
  clear hb8 HAL P7 o0 o1 o2 o3 o4 o5
  have hc5:=two_cells P8.out.2.2.2.2.two
  have HCA:Hid (∀ w',Below w8.heap.size w8 w'->Calls Tryz.prog 22 #[.pointer (some ⟨g,0,none⟩)] w' fun e w''=>e= .returned (.int .i64 (s'.calls:Int))/\w''=w'):=fun w' h=>two_calls (P8.out.2.2.2.2.two.still h)
  obtain ⟨TI,NI,hti⟩:∃ T N,T=(⟨s'.K.flatten.toArray⟩:ByteArray)/\N=s'.K.flatten.length:=⟨_,_,rfl,rfl⟩
  have HIM:Hid (∀ w',Below w8.heap.size w8 w'->Calls Tryz.prog 23 #[.pointer (some ⟨g,0,none⟩)] w' fun e w''=>ImageTo TI NI w' w'' e):=fun w' h=>by rw [hti.1,hti.2];exact two_image (P8.out.2.2.2.2.two.still h)
  have HRI:Hid (∀ w',Below w8.heap.size w8 w'->Calls Tryz.prog 24 #[.pointer (some ⟨r,0,none⟩)] w' fun e w''=>ImageTo TI NI w' w'' e):=fun w' h=>by rw [hti.1,hti.2];exact two_refImage (P8.out.2.2.2.2.two.still h)
  generalize (s'.calls:Int)=ca at hc5 HCA
  have bd:Below w8.heap.size w8 w8.drew:=(Below.refl _ _).drew
  have hwi:IntKind.i64.wrap ((k:Int)+1)=((k+1:Nat):Int):=by rw [IntKind.wrap_i64];omega
  have P9:Hid (∀ w',Below w8.heap.size w8 w'->KAt w g r (m/2) s' ko' P' Q' (k+1) [] w'):=fun w' hb=>by
   obtain ⟨k1,k2,k3,k4,k5⟩:=P8.out.still hb
   exact ⟨k1,k2,k3,k4,k5.bare⟩
  clear hti P8
  go_wp2_with fail
  go_region_held_law (fun w'=>Below w8.heap.size w8 w') (first | exact bd | assumption | (exact hop ‹Below w8.heap.size w8 _› (by assumption)))
   (first
    | (go_at_call 22;refine (HCA.out _ ?_).mono ?_;(assumption);rintro e w' ⟨rfl,hw'⟩;obtain rfl:=hw'.symm)
    | (go_at_call 23;refine (HIM.out _ ?_).mono ?_;(assumption);rintro e w9 ⟨A9,c9,rfl,hu9,hb9⟩;have HU9:=Lib.hid hu9;have hv9:=hu9 _ (Below.refl _ _);(try have hv98:=HU10.out _ hb9);clear hu9)
    | (go_at_call 24;refine (HRI.out _ ?_).mono ?_;(assumption);rintro e w10 ⟨A10,c10,rfl,hu10,hb10⟩;have HU10:=Lib.hid hu10;have hv10:=hu10 _ (Below.refl _ _);(try have hv109:=HU9.out _ hb10);clear hu10))
  all_goals go_wp2_with fail
  all_goals go_roundw
  all_goals first
   | exact ⟨k+1,s',ko',P',Q',by omega,by go_num,rfl,rfl,P9.out _ (by assumption)⟩
   | (simp [intOf];omega)
end Go.Proofs.YtdaahapbpnjkfaaGreat
