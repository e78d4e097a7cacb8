/-
Pairs: are two lists of pairs the same? An empty map. Conditions: at most 1,000,000 pairs.
-/
import Derived.Test.YtdaahapbpnjkfaaGreatCLgRead
import Derived.Test.YtdaahapbpnjkfaaGreatCFBatch
import Derived.Test.YtdaahapbpnjkfaaGreatCGet
import Derived.Deep.RegionWith
import Derived.Test.YtdaahapbpnjkfaaGreatCTrStep
import Derived.Test.YtdaahapbpnjkfaaGreatCTrRf
import Derived.Test.YtdaahapbpnjkfaaGreatCFEnc
import Derived.BigQuiet
import Derived.Laws.Cover1
namespace Go.Proofs.YtdaahapbpnjkfaaGreat
open Go.RowKit
theorem refGet_of (A:Option Addr) (l:List UInt8) (n c:Nat) (w:World) (hl:l.length=n) (hs:Seen w A l):
 Calls Tryz.prog 81 #[.slice A n c] w fun e w'=>e= .returned (.tuple #[.int .i64 ((getL l 0 0).1:Nat),.int .i64 ((getL l 0 0).2:Nat)])/\w=w':=by
 subst hl
 exact refGet_any A l c w hs
def TextOut (w:World) (A0:Option Addr) (l:List UInt8) (D:Option (List UInt8 × List UInt8)) (e:Ending) (w':World):Prop:=
 (D=none/\e= .returned (.tuple #[.slice none 0 0,.slice none 0 0,.bool false])/\Below w.heap.size w w')\/
 (∃ t u A n c B m d,D=some (t,u)/\e= .returned (.tuple #[.slice A n c,.slice B m d,.bool true])/\t.length=n/\MadeN 5 w t A n c w'/\u.length=m/\m<=d/\∀ w0,Seen w0 A0 l->Seen w0 B u)
set_option maxRecDepth 100000 in
set_option maxHeartbeats 1000000 in
theorem refText_any (A:Option Addr) (l:List UInt8) (n c:Nat) (w:World) (hn:l.length=n) (hc:n<=c) (hb:n<=140737488351232) (hs:Seen w A l):
 Calls Tryz.prog 114 #[.slice A n c] w (TextOut w A l (textL l)):=by
 obtain ⟨i0,hi,hz0,hz1,hz2⟩:=info_parts info8p
 have HS:=Lib.hid hs
 have HN:=Lib.hid hn
 have HGET:=Lib.hid (refGet_of A l n c w hn hs)
 have HF:=get_fits (l:=l)
 obtain ⟨D,hD⟩:∃ D,D=textL l:=⟨_,rfl⟩
 rw [<-hD]
 unfold textL at hD
 rw [List.length_drop,hn] at hD
 generalize (getL l 0 0).2=k at *
 generalize (getL l 0 0).1=m at *
 obtain ⟨hk1,hk9,hm63⟩:=HF
 rw [hn] at hk1
 by_cases hk:k=0
 · have HE:Hid (D=none):=by show _=_;rw [hD,if_pos hk]
   subst hk
   clear hD hs hn
   go_enter Tryz.func114,Tryz.ntmps114
   go_wp2_with fail
   refine HGET.out.mono ?_
   rintro e w' ⟨rfl,rfl⟩
   go_wp2_with fail
   exact bodyPost_ret (v:= .tuple #[.slice none 0 0,.slice none 0 0,.bool false]) (by simp [results,Tryz.results114,go_sem]) rfl (.inl ⟨HE.out,rfl,Below.refl _ _⟩)
 · rw [if_neg hk] at hD
   have tk:((k:Int)==0)=false:=by rw [beq_eq_false_iff_ne];omega
   by_cases hlt:n-k<m
   · have HE:Hid (D=none):=by show _=_;rw [hD,if_pos hlt]
     clear hD hs hn hk
     go_enter Tryz.func114,Tryz.ntmps114
     go_wp2_with fail
     refine HGET.out.mono ?_
     rintro e w' ⟨rfl,rfl⟩
     go_wp2_with fail
     exact bodyPost_ret (v:= .tuple #[.slice none 0 0,.slice none 0 0,.bool false]) (by simp [results,Tryz.results114,go_sem]) rfl (.inl ⟨HE.out,rfl,Below.refl _ _⟩)
   · have HE:Hid (D=some ((l.drop k).take m,(l.drop k).drop m)):=by show _=_;rw [hD,if_neg hlt]
     obtain ⟨A1,c1,hcut1,hs1,hl1⟩:=hs.mid_cut n c k (k+m) m (k:Int) (IntKind.i64.wrap ((k:Int)+(m:Int))) rfl (by rw [IntKind.wrap_i64];omega) (by omega) hn (by omega) (by omega) hc
     obtain ⟨A2,hcut2,hs2⟩:=tail_cut_all A l n c (k+m) (IntKind.i64.wrap ((k:Int)+(m:Int))) (by rw [IntKind.wrap_i64];omega) hn (by omega) hc
     rw [<-List.drop_drop] at hs2
     have HS1:=Lib.hid hs1
     have HL1:=Lib.hid hl1
     have HS2:=Lib.hid hs2
     clear hD hs hn hk hs1 hs2 hl1
     go_enter Tryz.func114,Tryz.ntmps114
     go_wp2_with fail
     refine HGET.out.mono ?_
     rintro e w' ⟨rfl,rfl⟩
     go_wp2_with fail
     have HM0:Hid (MadeN 5 w [] none 0 0 w.drew):=⟨rfl,World.ownsRow_nil _ _ _ _,(Below.refl _ _).drew⟩
     have HSD:Hid (Seen w.drew A1 (List.take m (List.drop k l))):=HS1.out.below ((Below.refl _ _).drew)
     obtain ⟨T,hT⟩:∃ T,T=List.take m (List.drop k l):=⟨_,rfl⟩
     rw [<-hT] at HSD HL1 HE
     have E0:Hid (T=[]++T):=by show _=_;simp
     have E1:Hid (m=0+m):=by show _=_;omega
     clear hT HS1
     go_region_law (refine step_append_to w.drew rfl (.const (.slice none 0 0)) (.tmp 27) 22 rfl 5 i0 (.int .u8 0) Tryz.underlying22 hi hz0 hz1 hz2 rfl w none 0 0 [] A1 m c1 T T m (by simp [Act.eval]) (by simp [Act.eval,Act.put]) HM0 HSD HL1 E0 E1 (by omega) ?_;intro A3 c3 w3 H3 B3 _)
     all_goals go_wp2_with fail
     all_goals refine bodyPost_ret (v:= .tuple #[.slice A3 m c3,.slice A2 (n-(k+m)) (c-(k+m)),.bool true]) (by simp [results,Tryz.results114,go_sem]) rfl (.inr ?_)
     all_goals exact ⟨T,_,A3,m,c3,A2,n-(k+m),c-(k+m),HE.out,rfl,HL1.out,H3.out,by rw [List.length_drop,List.length_drop,HN.out];omega,by omega,HS2.out⟩
theorem refText_none (A:Option Addr) (l:List UInt8) (n c:Nat) (w:World) (hn:l.length=n) (hc:n<=c) (hb:n<=140737488351232) (hs:Seen w A l) (h:textL l=none):
 Calls Tryz.prog 114 #[.slice A n c] w fun e w'=>e= .returned (.tuple #[.slice none 0 0,.slice none 0 0,.bool false])/\Below w.heap.size w w':=by
 refine (refText_any A l n c w hn hc hb hs).mono ?_
 rintro e w' (⟨_,h1,h2⟩ | ⟨t,u,A,n,c,B,m,d,h1,_⟩)
 · exact ⟨h1,h2⟩
 · rw [h] at h1;cases h1
def TextIs (w:World) (A0:Option Addr) (l t u:List UInt8) (e:Ending) (w':World):Prop:=
 ∃ A n c B m d,e= .returned (.tuple #[.slice A n c,.slice B m d,.bool true])/\t.length=n/\MadeN 5 w t A n c w'/\u.length=m/\m<=d/\∀ w0,Seen w0 A0 l->Seen w0 B u
theorem refText_some (A:Option Addr) (l t u:List UInt8) (n c:Nat) (w:World) (hn:l.length=n) (hc:n<=c) (hb:n<=140737488351232) (hs:Seen w A l) (h:textL l=some (t,u)):
 Calls Tryz.prog 114 #[.slice A n c] w (TextIs w A l t u):=by
 refine (refText_any A l n c w hn hc hb hs).mono ?_
 rintro e w' (⟨h0,_⟩ | ⟨t',u',A,n,c,B,m,d,h1,hrest⟩)
 · rw [h] at h0;cases h0
 · rw [h] at h1
   injection h1 with h1
   injection h1 with h1 h2
   subst h1 h2
   exact ⟨A,n,c,B,m,d,hrest⟩
def OneOut (w:World) (A0:Option Addr) (l:List UInt8) (D:Option (PutV × List UInt8)) (e:Ending) (w':World):Prop:=
 (D=none/\∃ A n c B m d g C k x,e= .returned (.tuple #[.agg #[.slice A n c,.slice B m d,.bool g],.slice C k x,.bool false])/\Below w.heap.size w w')\/
 (∃ q u A n c B m d C k x,D=some (q,u)/\e= .returned (.tuple #[.agg #[.slice A n c,.slice B m d,.bool q.2.2],.slice C k x,.bool true])/\q.1.length=n/\q.2.1.length=m/\Away w' (fun b=>b<w.heap.size) A q.1/\Away w' (fun b=>b<w.heap.size) B q.2.1/\
  u.length=k/\k<=x/\(∀ w0,Seen w0 A0 l->Seen w0 C u)/\Below w.heap.size w w')
theorem zeroPut (w:World):(zeroValue 72).run Tryz.prog w= .ok (.agg #[.slice none 0 0,.slice none 0 0,.bool false]) w:=by kernel_rfl
set_option maxRecDepth 100000 in
set_option maxHeartbeats 1000000 in
theorem refOne_nil (A:Option Addr) (c:Nat) (w:World):Calls Tryz.prog 82 #[.slice A 0 c] w (OneOut w A [] none):=by
 have hzp:=zeroPut
 go_enter Tryz.func82,Tryz.ntmps82
 go_wp2_with fail
 refine bodyPost_ret (v:= .tuple #[.agg #[.slice none 0 0,.slice none 0 0,.bool false],.slice none 0 0,.bool false]) (by simp [results,Tryz.results82,go_sem]) rfl (.inl ⟨rfl,none,0,0,none,0,0,false,none,0,0,rfl,?_⟩)
 exact ((Below.refl _ _).alloc (Nat.le_refl _) _).alloc (by simp) _
theorem put_facts {w w':World} {g h:Nat} {a b c x y z:Value} {t:TypeId} (hg:Blk w g [a,b,c] t) (hh:Blk w h [x,y,z] t) (hb:Below w.heap.size w w'):
 w'.cell? ⟨g,0,none⟩=some a/\w'.cell? ⟨g,1,none⟩=some b/\w'.cell? ⟨g,2,none⟩=some c/\w'.frozen? ⟨g,0,none⟩=false/\w'.frozen? ⟨g,1,none⟩=false/\w'.frozen? ⟨g,2,none⟩=false/\
 w'.cell? ⟨h,0,none⟩=some x/\w'.cell? ⟨h,1,none⟩=some y/\w'.cell? ⟨h,2,none⟩=some z/\w'.frozen? ⟨h,0,none⟩=false/\w'.frozen? ⟨h,1,none⟩=false/\w'.frozen? ⟨h,2,none⟩=false:=by
 have B:=hg.below hb hg.lt
 have C:=hh.below hb hh.lt
 exact ⟨B.cell (i:=0) (by simp),B.cell (i:=1) (by simp),B.cell (i:=2) (by simp),B.free 0,B.free 1,B.free 2,C.cell (i:=0) (by simp),C.cell (i:=1) (by simp),C.cell (i:=2) (by simp),C.free 0,C.free 1,C.free 2⟩
def oneW (w:World) (g:Bool):World:=(w.alloc (.cells #[.slice none 0 0,.slice none 0 0,.bool false] 72)).alloc (.cells #[.slice none 0 0,.slice none 0 0,.bool g] 72)
theorem oneW_facts (w:World) (g:Bool):Blk (oneW w g) w.heap.size [.slice none 0 0,.slice none 0 0,.bool false] 72/\Blk (oneW w g) (w.heap.size+1) [.slice none 0 0,.slice none 0 0,.bool g] 72/\Below w.heap.size w (oneW w g)/\(oneW w g).heap.size=w.heap.size+2:=by
 refine ⟨(Blk.new w [.slice none 0 0,.slice none 0 0,.bool false] 72).alloc _,?_,((Below.refl _ _).alloc (Nat.le_refl _) _).alloc (by simp) _,by simp [oneW]⟩
 have:=Blk.new (w.alloc (.cells #[.slice none 0 0,.slice none 0 0,.bool false] 72)) [.slice none 0 0,.slice none 0 0,.bool g] 72
 simp only [World.size_alloc] at this
 exact this
theorem byte_at {w W:World} {b off:Nat} {v:Value} (h:w.cell? ⟨b,off,none⟩=some v) (hb:Below w.heap.size w W):W.cell? ⟨b,off,none⟩=some v:=
 (hb.cell (p:=⟨b,off,none⟩) (World.block_lt_of_cell? w _ h)).trans h
set_option maxRecDepth 100000 in
set_option maxHeartbeats 2000000 in
theorem refOne_bad (A:Option Addr) (b0:UInt8) (r:List UInt8) (L c:Nat) (w:World) (hL:r.length+1=L) (hs:Seen w A (b0::r)) (h1:b0≠1) (h0:b0≠0):
 Calls Tryz.prog 82 #[.slice A L c] w (OneOut w A (b0::r) none):=by
 have hzp:=zeroPut
 obtain ⟨bb,off,hA,hb0⟩:=hs.byte 0 (by simp)
 subst hA
 simp only [List.getElem_cons_zero,Nat.add_zero] at hb0
 have hcell:((w.alloc (.cells #[.slice none 0 0,.slice none 0 0,.bool false] 72)).alloc (.cells #[.slice none 0 0,.slice none 0 0,.bool false] 72)).cell? ⟨bb,off,none⟩=some (.int .u8 (b0.toNat:Int)):=byte_at hb0 (oneW_facts w false).2.2.1
 have HB:=Lib.hid (oneW_facts w false).2.2.1
 have hLp:0<L:=by omega
 have tL:((L:Int)==0)=false:=by rw [beq_eq_false_iff_ne];omega
 have t1:decide ((1:Int)<(b0.toNat:Int))=true:=by
  refine decide_eq_true ?_
  have hn1:b0.toNat≠1:=fun e=>h1 (UInt8.toNat_inj.1 e)
  have hn0:b0.toNat≠0:=fun e=>h0 (UInt8.toNat_inj.1 e)
  omega
 clear hs hL h1 h0 hb0
 generalize b0.toNat=y at *
 go_enter Tryz.func82,Tryz.ntmps82
 go_wp2_with fail
 exact bodyPost_ret (v:= .tuple #[.agg #[.slice none 0 0,.slice none 0 0,.bool false],.slice none 0 0,.bool false]) (by simp [results,Tryz.results82,go_sem]) rfl (.inl ⟨rfl,none,0,0,none,0,0,false,none,0,0,rfl,HB.out⟩)
set_option maxRecDepth 100000 in
set_option maxHeartbeats 2000000 in
theorem refOne_gone (A:Option Addr) (r:List UInt8) (L c:Nat) (w:World) (hL:r.length+1=L) (hc:L<=c) (hb:L<=140737488351232) (hs:Seen w A (1::r)):
 Calls Tryz.prog 82 #[.slice A L c] w (OneOut w A (1::r) (oneL (1::r))):=by
 have hzp:=zeroPut
 obtain ⟨bb,off,hA,hb0⟩:=hs.byte 0 (by simp)
 subst hA
 simp only [List.getElem_cons_zero,Nat.add_zero] at hb0
 have hcell:((w.alloc (.cells #[.slice none 0 0,.slice none 0 0,.bool false] 72)).alloc (.cells #[.slice none 0 0,.slice none 0 0,.bool false] 72)).cell? ⟨bb,off,none⟩=some (.int .u8 1):=byte_at hb0 (oneW_facts w false).2.2.1
 obtain ⟨H1,H2,HB,HZ⟩:=oneW_facts w true
 obtain ⟨A1,HTAIL,hsr⟩:=tail_cut_all (some ⟨bb,off,none⟩) (1::r) L c 1 1 rfl (by rw [List.length_cons];exact hL) (by omega) hc
 obtain ⟨W,hW⟩:∃ W,W=oneW w true:=⟨_,rfl⟩
 rw [<-hW] at H1 H2 HB HZ
 have HW:Hid (W=(w.alloc (.cells #[.slice none 0 0,.slice none 0 0,.bool false] 72)).alloc (.cells #[.slice none 0 0,.slice none 0 0,.bool true] 72)):=hW
 have K1:=Lib.hid H1
 have K2:=Lib.hid H2
 have KB:=Lib.hid HB
 have KZ:=Lib.hid HZ
 have hsr0:Seen w A1 r:=hsr w hs
 have KS:Hid (Seen W A1 r):=hsr0.below HB
 have KS0:=Lib.hid hsr0
 have KSR:=Lib.hid hsr
 have KL:Hid (r.length=L-1):=by show _=_;omega
 have hLp:0<L:=by omega
 have tL:((L:Int)==0)=false:=by rw [beq_eq_false_iff_ne];omega
 clear hs hL hb0 H1 H2 HB HZ hsr hsr0 hW
 rcases ht:textL r with _ | ⟨t,u⟩
 · have HD:Hid (oneL (1::r)=none):=by show _=_;rw [oneL,if_pos rfl,ht]
   have KT:=Lib.hid (refText_none A1 r (L-1) (c-1) W KL.out (by omega) (by omega) KS.out ht)
   clear ht
   generalize oneL (1::r)=D at *
   go_enter Tryz.func82,Tryz.ntmps82
   go_wp2_with fail
   rw [<-HW.out]
   refine KT.out.mono ?_
   rintro e w1 ⟨rfl,hb1⟩
   obtain ⟨x0,x1,x2,y0,y1,y2,z0,z1,z2,v0,v1,v2⟩:=put_facts K1.out K2.out hb1
   have KB1:Hid (Below w.heap.size w w1):=KB.out.trans (hb1.mono KB.out.size)
   clear hb1
   go_wp2_with fail
   rw [HD.out]
   refine bodyPost_ret (v:= .tuple #[.agg #[.slice none 0 0,.slice none 0 0,.bool true],.slice none 0 0,.bool false]) (by simp [results,Tryz.results82,go_sem,x0,x1,x2]) rfl (.inl ⟨rfl,none,0,0,none,0,0,true,none,0,0,rfl,?_⟩)
   exact (((KB1.out.setCell (by simp) _).setCell (Nat.le_refl _) _).setCell (Nat.le_refl _) _).setCell (Nat.le_refl _) _
 · have HD:Hid (oneL (1::r)=some ((t,[],true),u)):=by show _=_;rw [oneL,if_pos rfl,ht]
   have KT:=Lib.hid (refText_some A1 r t u (L-1) (c-1) W KL.out (by omega) (by omega) KS.out ht)
   clear ht
   generalize oneL (1::r)=D at *
   go_enter Tryz.func82,Tryz.ntmps82
   go_wp2_with fail
   rw [<-HW.out]
   refine KT.out.mono ?_
   rintro e w1 ⟨A2,n2,c2,A3,m3,d3,rfl,hn2,hm2,hm3,hd3,hs3⟩
   have hb1:=hm2.2.2
   obtain ⟨x0,x1,x2,y0,y1,y2,z0,z1,z2,v0,v1,v2⟩:=put_facts K1.out K2.out hb1
   have KB1:Hid (Below w.heap.size w w1):=KB.out.trans (hb1.mono KB.out.size)
   have KM:=Lib.hid hm2
   have KN:=Lib.hid hn2
   have KM3:=Lib.hid hm3
   have KS3:Hid (∀ w0,Seen w0 (some ⟨bb,off,none⟩) (1::r)->Seen w0 A3 u):=fun w0 h=>hs3 w0 (KSR.out w0 h)
   clear hb1 hm2 hn2 hm3 hs3
   go_wp2_with fail
   refine bodyPost_ret (v:= .tuple #[.agg #[.slice A2 n2 c2,.slice none 0 0,.bool true],.slice A3 m3 d3,.bool true]) (by simp [results,Tryz.results82,go_sem,x0,x1,x2]) rfl (.inr ⟨(t,[],true),u,A2,n2,c2,none,0,0,A3,m3,d3,HD.out,rfl,KN.out,rfl,?_,.inl rfl,KM3.out,hd3,?_,?_⟩)
   · have hz:=KZ.out
     have e0:w.heap.size<W.heap.size:=by omega
     have e1:w.heap.size+1<W.heap.size:=by omega
     exact (KM.out.2.past.moved ((((Spared.refl w1 (fun b=>b<W.heap.size)).setCell e1 0 _).setCell e0 0 _ |>.setCell e0 1 _).setCell e0 2 _) (fun i hi=> .inl hi)).mono (fun b hb=>by omega)
   · exact KS3.out
   · exact (((KB1.out.setCell (by simp) _).setCell (Nat.le_refl _) _).setCell (Nat.le_refl _) _).setCell (Nat.le_refl _) _
set_option maxRecDepth 100000 in
set_option maxHeartbeats 4000000 in
theorem refOne_kept (A:Option Addr) (r:List UInt8) (L c:Nat) (w:World) (hL:r.length+1=L) (hc:L<=c) (hb:L<=140737488351232) (hs:Seen w A (0::r)):
 Calls Tryz.prog 82 #[.slice A L c] w (OneOut w A (0::r) (oneL (0::r))):=by
 have hzp:=zeroPut
 obtain ⟨bb,off,hA,hb0⟩:=hs.byte 0 (by simp)
 subst hA
 simp only [List.getElem_cons_zero,Nat.add_zero] at hb0
 have hcell:((w.alloc (.cells #[.slice none 0 0,.slice none 0 0,.bool false] 72)).alloc (.cells #[.slice none 0 0,.slice none 0 0,.bool false] 72)).cell? ⟨bb,off,none⟩=some (.int .u8 0):=byte_at hb0 (oneW_facts w false).2.2.1
 obtain ⟨H1,H2,HB,HZ⟩:=oneW_facts w false
 obtain ⟨A1,HTAIL,hsr⟩:=tail_cut_all (some ⟨bb,off,none⟩) (0::r) L c 1 1 rfl (by rw [List.length_cons];exact hL) (by omega) hc
 obtain ⟨W,hW⟩:∃ W,W=oneW w false:=⟨_,rfl⟩
 rw [<-hW] at H1 H2 HB HZ
 have HW:Hid (W=(w.alloc (.cells #[.slice none 0 0,.slice none 0 0,.bool false] 72)).alloc (.cells #[.slice none 0 0,.slice none 0 0,.bool false] 72)):=hW
 have K1:=Lib.hid H1
 have K2:=Lib.hid H2
 have KB:=Lib.hid HB
 have KZ:=Lib.hid HZ
 have hsr0:Seen w A1 r:=hsr w hs
 have KS:Hid (Seen W A1 r):=hsr0.below HB
 have KS0:=Lib.hid hsr0
 have KSR:=Lib.hid hsr
 have KL:Hid (r.length=L-1):=by show _=_;omega
 have hLp:0<L:=by omega
 have tL:((L:Int)==0)=false:=by rw [beq_eq_false_iff_ne];omega
 clear hs hL hb0 H1 H2 HB HZ hsr hsr0 hW
 rcases ht:textL r with _ | ⟨t,x⟩
 · have HD:Hid (oneL (0::r)=none):=by show _=_;rw [oneL,if_neg (by decide),if_pos rfl,ht]
   have KT:=Lib.hid (refText_none A1 r (L-1) (c-1) W KL.out (by omega) (by omega) KS.out ht)
   clear ht
   generalize oneL (0::r)=D at *
   go_enter Tryz.func82,Tryz.ntmps82
   go_wp2_with fail
   rw [<-HW.out]
   refine KT.out.mono ?_
   rintro e w1 ⟨rfl,hb1⟩
   obtain ⟨x0,x1,x2,y0,y1,y2,z0,z1,z2,v0,v1,v2⟩:=put_facts K1.out K2.out hb1
   have KB1:Hid (Below w.heap.size w w1):=KB.out.trans (hb1.mono KB.out.size)
   clear hb1
   go_wp2_with fail
   rw [HD.out]
   refine bodyPost_ret (v:= .tuple #[.agg #[.slice none 0 0,.slice none 0 0,.bool false],.slice none 0 0,.bool false]) (by simp [results,Tryz.results82,go_sem,x0,x1,x2]) rfl (.inl ⟨rfl,none,0,0,none,0,0,false,none,0,0,rfl,?_⟩)
   exact (((KB1.out.setCell (by simp) _).setCell (Nat.le_refl _) _).setCell (Nat.le_refl _) _).setCell (Nat.le_refl _) _
 · have KT:=Lib.hid (refText_some A1 r t x (L-1) (c-1) W KL.out (by omega) (by omega) KS.out ht)
   have hxl:=textL_less ht
   have hx:Hid (x.length+t.length<r.length):=hxl
   rcases hv:textL x with _ | ⟨v,u⟩
   · have HD:Hid (oneL (0::r)=none):=by show _=_;rw [oneL,if_neg (by decide),if_pos rfl,ht];simp only;rw [hv]
     have HV:=Lib.hid hv
     clear ht hv hxl
     generalize oneL (0::r)=D at *
     go_enter Tryz.func82,Tryz.ntmps82
     go_wp2_with fail
     rw [<-HW.out]
     refine KT.out.mono ?_
     rintro e w1 ⟨A2,n2,c2,A3,m3,d3,rfl,hn2,hm2,hm3,hd3,hs3⟩
     have hb1:=hm2.2.2
     obtain ⟨x0,x1,x2,y0,y1,y2,z0,z1,z2,v0,v1,v2⟩:=put_facts K1.out K2.out hb1
     have KB1:Hid (Below w.heap.size w w1):=KB.out.trans (hb1.mono KB.out.size)
     have KM3:=Lib.hid hm3
     have KS3:=Lib.hid (hs3 w KS0.out)
     have hm3':m3<=140737488351232:=by have h1:=hx.out;have h2:=KL.out;omega
     have hb2:Below w.heap.size w (w1.setCell ⟨w.heap.size+1,0,none⟩ (.slice A2 n2 c2)):=KB1.out.setCell (by simp) _
     have C1:=((K1.out.below hb1 K1.out.lt).other ⟨w.heap.size+1,0,none⟩ (.slice A2 n2 c2) (by simp))
     have C2:=((K2.out.below hb1 K2.out.lt).set 0 (.slice A2 n2 c2))
     simp only [List.set_cons_zero] at C2
     have L1:=Lib.hid C1
     have L2:=Lib.hid C2
     have LB:=Lib.hid hb2
     clear hb1 hm2 hn2 hm3 hs3 C1 C2 hb2
     go_wp2_with fail
     refine (refText_none A3 x m3 d3 _ KM3.out hd3 hm3' (KS3.out.below LB.out) HV.out).mono ?_
     rintro e w2 ⟨rfl,hb3⟩
     clear x0 x1 x2 y0 y1 y2 z0 z1 z2 v0 v1 v2
     obtain ⟨x0,x1,x2,y0,y1,y2,z0,z1,z2,v0,v1,v2⟩:=put_facts L1.out L2.out hb3
     have KB2:Hid (Below w.heap.size w w2):=LB.out.trans (hb3.mono LB.out.size)
     clear hb3
     go_wp2_with fail
     rw [HD.out]
     refine bodyPost_ret (v:= .tuple #[.agg #[.slice A2 n2 c2,.slice none 0 0,.bool false],.slice none 0 0,.bool false]) (by simp [results,Tryz.results82,go_sem,x0,x1,x2]) rfl (.inl ⟨rfl,A2,n2,c2,none,0,0,false,none,0,0,rfl,?_⟩)
     exact (((KB2.out.setCell (by simp) _).setCell (Nat.le_refl _) _).setCell (Nat.le_refl _) _).setCell (Nat.le_refl _) _
   · have HD:Hid (oneL (0::r)=some ((t,v,false),u)):=by show _=_;rw [oneL,if_neg (by decide),if_pos rfl,ht];simp only;rw [hv]
     have HV:=Lib.hid hv
     clear ht hv hxl
     generalize oneL (0::r)=D at *
     go_enter Tryz.func82,Tryz.ntmps82
     go_wp2_with fail
     rw [<-HW.out]
     refine KT.out.mono ?_
     rintro e w1 ⟨A2,n2,c2,A3,m3,d3,rfl,hn2,hm2,hm3,hd3,hs3⟩
     have hb1:=hm2.2.2
     obtain ⟨x0,x1,x2,y0,y1,y2,z0,z1,z2,v0,v1,v2⟩:=put_facts K1.out K2.out hb1
     have KB1:Hid (Below w.heap.size w w1):=KB.out.trans (hb1.mono KB.out.size)
     have KN:=Lib.hid hn2
     have KM:=Lib.hid hm2
     have KM3:=Lib.hid hm3
     have KS3:=Lib.hid (hs3 w KS0.out)
     have KS3A:=Lib.hid hs3
     have hm3':m3<=140737488351232:=by have h1:=hx.out;have h2:=KL.out;omega
     have hb2:Below w.heap.size w (w1.setCell ⟨w.heap.size+1,0,none⟩ (.slice A2 n2 c2)):=KB1.out.setCell (by simp) _
     have C1:=((K1.out.below hb1 K1.out.lt).other ⟨w.heap.size+1,0,none⟩ (.slice A2 n2 c2) (by simp))
     have C2:=((K2.out.below hb1 K2.out.lt).set 0 (.slice A2 n2 c2))
     simp only [List.set_cons_zero] at C2
     have L1:=Lib.hid C1
     have L2:=Lib.hid C2
     have LB:=Lib.hid hb2
     clear hb1 hm2 hn2 hm3 hs3 C1 C2 hb2
     go_wp2_with fail
     refine (refText_some A3 x v u m3 d3 _ KM3.out hd3 hm3' (KS3.out.below LB.out) HV.out).mono ?_
     rintro e w2 ⟨A4,n4,c4,A5,m5,d5,rfl,hn4,hm4,hm5,hd5,hs5⟩
     have hb3:=hm4.2.2
     clear x0 x1 x2 y0 y1 y2 z0 z1 z2 v0 v1 v2
     obtain ⟨x0,x1,x2,y0,y1,y2,z0,z1,z2,v0,v1,v2⟩:=put_facts L1.out L2.out hb3
     have KB2:Hid (Below w.heap.size w w2):=LB.out.trans (hb3.mono LB.out.size)
     have KB3:=Lib.hid hb3
     have KN4:=Lib.hid hn4
     have KM4:=Lib.hid hm4
     have KN5:=Lib.hid hm5
     have KS5:Hid (∀ w0,Seen w0 (some ⟨bb,off,none⟩) (0::r)->Seen w0 A5 u):=fun w0 h=>hs5 w0 (KS3A.out w0 (KSR.out w0 h))
     clear hb3 hn4 hm4 hm5 hs5
     go_wp2_with fail
     refine bodyPost_ret (v:= .tuple #[.agg #[.slice A2 n2 c2,.slice A4 n4 c4,.bool false],.slice A5 m5 d5,.bool true]) (by simp [results,Tryz.results82,go_sem,x0,x1,x2]) rfl (.inr ⟨(t,v,false),u,A2,n2,c2,A4,n4,c4,A5,m5,d5,HD.out,rfl,KN.out,KN4.out,?_,?_,KN5.out,hd5,?_,?_⟩)
     · have hz:=KZ.out
       have e0:w.heap.size<W.heap.size:=by omega
       have e1:w.heap.size+1<W.heap.size:=by omega
       have s1:=((Spared.refl w1 (fun b=>b<W.heap.size)).setCell e1 0 (.slice A2 n2 c2)).trans (Spared.of_below KB3.out (fun b=>b<W.heap.size)) (fun i hi=> .inl hi)
       exact (KM.out.2.past.moved ((((s1.setCell e1 1 _).setCell e0 0 _).setCell e0 1 _).setCell e0 2 _) (fun i hi=> .inl hi)).mono (fun b hb=>by omega)
     · have hz:=KZ.out
       have hz1:=KM.out.2.2.size
       have e0:w.heap.size<w1.heap.size:=by omega
       have e1:w.heap.size+1<w1.heap.size:=by omega
       have hp:=KM4.out.2.past
       have hq:=hp.mono (G:=fun b=>b<w1.heap.size) (fun b hb=>by simpa [World.setCell] using hb)
       exact (hq.moved (((((Spared.refl w2 (fun b=>b<w1.heap.size)).setCell e1 1 _).setCell e0 0 _).setCell e0 1 _).setCell e0 2 _) (fun i hi=> .inl hi)).mono (fun b hb=>by omega)
     · exact KS5.out
     · exact (((KB2.out.setCell (by simp) _).setCell (Nat.le_refl _) _).setCell (Nat.le_refl _) _).setCell (Nat.le_refl _) _
theorem refOne_any (A:Option Addr) (l:List UInt8) (L c:Nat) (w:World) (hL:l.length=L) (hc:L<=c) (hb:L<=140737488351232) (hs:Seen w A l):
 Calls Tryz.prog 82 #[.slice A L c] w (OneOut w A l (oneL l)):=by
 cases l with
 | nil=>
  obtain rfl:L=0:=hL.symm
  exact refOne_nil A c w
 | cons b0 r=>
  by_cases h1:b0=1
  · subst h1;exact refOne_gone A r L c w hL hc hb hs
  · by_cases h0:b0=0
    · subst h0;exact refOne_kept A r L c w hL hc hb hs
    · have e:oneL (b0::r)=none:=by rw [oneL,if_neg h1,if_neg h0]
      rw [e]
      exact refOne_bad A b0 r L c w hL hs h1 h0
def PR (w:World) (Ab:Option Addr) (b:List UInt8) (N:Nat) (D:Option (List PutV)) (x s i:Value) (wr:World):Prop:=
 ∃ (k:Nat) (ps:List PPut) (A:Option Addr) (c:Nat) (B:Option Addr) (m d:Nat) (r:List UInt8),k<=N/\i= .int .i64 k/\s= .slice A k c/\x= .slice B m d/\ps.length=k/\ListAt 72 w ps (.slice A k c) wr/\r.length=m/\m<=d/\m+k<=b.length/\
  (∀ w0,Seen w0 Ab b->Seen w0 B r)/\D=readN (N-k) r (valsOf ps)/\Below w.heap.size w wr
set_option maxRecDepth 100000 in
set_option maxHeartbeats 2000000 in
theorem refPuts_any (A:Option Addr) (b:List UInt8) (L c:Nat) (w:World) (hL:b.length=L) (hs:Seen w A b) (hc:L<=c) (hb:L<=1099511627776):
 Calls Tryz.prog 48 #[.slice A L c] w (PutsOut w (putsL b)):=by
 obtain ⟨i0,hi,hz0,hz1,hz2⟩:=info_parts3 infoPut
 have HS:=Lib.hid hs
 have HL:=Lib.hid hL
 have HGET:=Lib.hid (refGet_of A b L c w hL hs)
 have HF:=get_fits (l:=b)
 obtain ⟨D,hD⟩:∃ D,D=putsL b:=⟨_,rfl⟩
 rw [<-hD]
 unfold putsL at hD
 have hbl:b.length<=1099511627776:=by omega
 generalize (getL b 0 0).2=k0 at *
 generalize (getL b 0 0).1=N at *
 obtain ⟨hk1,hk9,hN⟩:=HF
 by_cases hk:k0=0
 · have HE:Hid (D=none):=by show _=_;rw [hD,if_pos hk]
   subst hk
   clear hD hs hL
   go_enter Tryz.func48,Tryz.ntmps48
   go_wp2_with fail
   refine HGET.out.mono ?_
   rintro e w' ⟨rfl,rfl⟩
   go_wp2_with fail
   go_ret2
   exact ⟨none,0,0,[],by rw [HE.out];rfl,rfl,.inl rfl,by rw [HE.out];rfl,Below.refl _ _⟩
 · rw [if_neg hk] at hD
   have tk:((k0:Int)==0)=false:=by rw [beq_eq_false_iff_ne];omega
   have hkL:k0<=L:=by omega
   by_cases hlt:L-k0<N
   · have HE:Hid (D=none):=by show _=_;rw [hD];exact readN_many _ _ _ (by rw [List.length_drop];omega)
     clear hD hs hL hk
     go_enter Tryz.func48,Tryz.ntmps48
     go_wp2_with fail
     refine HGET.out.mono ?_
     rintro e w' ⟨rfl,rfl⟩
     go_wp2_with fail
     go_ret2
     exact ⟨none,0,0,[],by rw [HE.out];rfl,rfl,.inl rfl,by rw [HE.out];rfl,Below.refl _ _⟩
   · obtain ⟨A2,hcut2,hs2⟩:=tail_cut_all A b L c k0 (k0:Int) rfl hL hkL hc
     have HS2:=Lib.hid hs2
     have HD:=Lib.hid hD
     have HNL:N<=L-k0:=by omega
     clear hD hs hL hk hs2 hlt
     go_enter Tryz.func48,Tryz.ntmps48
     go_wp2_with fail
     refine HGET.out.mono ?_
     rintro e w' ⟨rfl,rfl⟩
     go_wp2_with fail
     go_loopw [6,7,8] (fun x s i wr=>PR w A b N D x s i wr) (fun _ _ i _=>N-(intOf i).toNat)
     case atStart=>
      exact ⟨0,[],none,0,A2,L-k0,c-k0,b.drop k0,by omega,rfl,rfl,rfl,rfl,ListAt.start _ w,by rw [List.length_drop,HL.out],by omega,by rw [HL.out];omega,HS2.out,HD.out,Below.refl _ _⟩
     case round=>
      clear HD HS2 HGET hcut2
      obtain ⟨k,ps,A1,c1,B,m,d,r,hk,rfl,rfl,rfl,hps,hla,hrm,hmd,hmk,hsr,hD,hbw⟩:=hrel
      have HPS:=Lib.hid hps
      have HLA:=Lib.hid hla
      have HRM:=Lib.hid hrm
      have HSR:=Lib.hid hsr
      have HD:=Lib.hid hD
      have HB:=Lib.hid hbw
      clear hps hla hrm hsr hD hbw
      by_cases hlt:k<N
      · have HONE:=Lib.hid (refOne_any B r m d wr HRM.out hmd (by omega) (HSR.out wr (HS.out.below HB.out)))
        go_wp2_with fail
        refine HONE.out.mono ?_
        rintro e w2 (⟨hdn,A3,n3,c3,A4,n4,c4,g,C,k5,x5,rfl,hb2⟩ | ⟨q,u,A3,n3,c3,A4,n4,c4,C,k5,x5,hdn,rfl,hq1,hq2,ha1,ha2,hk5,hx5,hsu,hb2⟩)
        · have HE:Hid (D=none):=by
           show _=_
           rw [HD.out,show N-k=(N-k-1)+1 from by omega,readN,hdn]
          have HB2:=Lib.hid hb2
          clear hdn hb2
          go_wp2_with fail
          go_ret2
          exact ⟨none,0,0,[],by rw [HE.out];rfl,rfl,.inl rfl,by rw [HE.out];rfl,(hop HB.out HB2.out).alloc (by have:=HB.out.size;have:=HB2.out.size;omega) _⟩
        · have HE:Hid (D=readN (N-(k+1)) u (valsOf ps++[q])):=by
           show _=_
           rw [HD.out,show N-k=(N-(k+1))+1 from by omega,readN,hdn]
          have hless:=oneL_less hdn
          have hqb:=oneL_bound hdn
          have hk5m:k5+1<=m:=by rw [hk5,HRM.out] at hless;omega
          obtain ⟨q1,q2,q3⟩:=q
          simp only at hq1 hq2 ha1 ha2 hqb
          have hal:Below w2.heap.size w2 (w2.alloc (.cells #[.slice A3 n3 c3,.slice A4 n4 c4,.bool q3] 72)):=(Below.refl _ _).alloc (Nat.le_refl _) _
          have HQ2:Hid (PutOff (w2.alloc (.cells #[.slice A3 n3 c3,.slice A4 n4 c4,.bool q3] 72)) (fun b=>b<wr.heap.size) ((A3,q1,c3),(A4,q2,c4),q3)):=
           ⟨⟨ha1.moved (Spared.of_below hal _) (fun i hi=> .inl hi),by have:=hqb.1;rw [HRM.out] at this;simp only;omega⟩,⟨ha2.moved (Spared.of_below hal _) (fun i hi=> .inl hi),by have:=hqb.2;rw [HRM.out] at this;simp only;omega⟩⟩
          have HC2:Hid (pcells ((A3,q1,c3),(A4,q2,c4),q3)=[.slice A3 n3 c3,.slice A4 n4 c4,.bool q3]):=by show _=_;simp only [pcells,pv,hq1,hq2]
          have HL2:=Lib.hid ((HLA.out.below hb2).below hal)
          have HB2:=Lib.hid (hop HB.out (hop hb2 hal))
          have HK5:=Lib.hid hk5
          have HSU:Hid (∀ w0,Seen w0 A b->Seen w0 C u):=fun w0 h=>hsu w0 (HSR.out w0 h)
          clear hdn hless hqb hq1 hq2 ha1 ha2 hk5 hsu hb2 hal
          go_wp2_with (at_builtin;refine wpList_append_put (w2.alloc (.cells #[.slice A3 n3 c3,.slice A4 n4 c4,.bool q3] 72)) rfl (.tmp 43) (.tmp 45) 38 rfl 72 i0 _ Tryz.underlying38 hi hz0 hz1 hz2 rfl w wr ps A1 k c1 ((A3,q1,c3),(A4,q2,c4),q3) _ _ _ rfl (by simp [Act.eval]) HLA.out HL2.out HPS.out HQ2.out HC2.out (by omega) ?_)
          intro A5 c5 w5 hl5 hs5
          have HL5:=Lib.hid hl5
          have HS5:=Lib.hid (hs5.below HB2.out (fun k hk=>hk))
          clear hl5 hs5
          go_wp2_with fail
          go_roundw
          case rel=>
           refine ⟨k+1,_,A5,c5,C,k5,x5,u,by omega,by go_num,rfl,rfl,by rw [List.length_append,HPS.out];rfl,HL5.out,HK5.out,hx5,by omega,HSU.out,?_,HS5.out⟩
           rw [HE.out];simp [valsOf,valOf]
          case measure=>simp [intOf];omega
      · have hkN:k=N:=by omega
        have HE:Hid (D=(if r=[] then some (valsOf ps) else none)):=by
         show _=_
         rw [HD.out,hkN,Nat.sub_self,readN]
        clear hkN
        by_cases hm0:m=0
        · have hr0:r=[]:=List.eq_nil_of_length_eq_zero (by rw [HRM.out];exact hm0)
          have HE':Hid (D=some (valsOf ps)):=by show _=_;rw [HE.out,if_pos hr0]
          subst hm0
          clear hr0 HE
          go_wp2_with fail
          go_ret2
          exact ⟨A1,k,c1,ps,by rw [HE'.out];rfl,HPS.out,HLA.out.seen,by rw [HE'.out];rfl,HB.out⟩
        · have hr0:r≠[]:=fun e=>hm0 (by rw [<-HRM.out,e];rfl)
          have HE':Hid (D=none):=by show _=_;rw [HE.out,if_neg hr0]
          have tm:decide ((0:Int)<(m:Int))=true:=decide_eq_true (by omega)
          clear hr0 HE
          go_wp2_with fail
          go_ret2
          exact ⟨none,0,0,[],by rw [HE'.out];rfl,rfl,.inl rfl,by rw [HE'.out];rfl,HB.out⟩
set_option maxHeartbeats 1000000 in
theorem rempty_any (w:World):Calls Tryz.prog 27 #[] w fun e w'=>e= .returned (.pointer (some ⟨w.heap.size,0,none⟩))/\w'=w.alloc (.cells #[.int .i64 1000000000,.slice none 0 0] 119):=by
 go_enter Tryz.func27,Tryz.ntmps27
 go_wp2_with fail
 go_ret
 exact ⟨rfl,rfl⟩
theorem drop_same {l l':List Kv} {i:Nat} (h1:i<l.length) (h2:i<l'.length):decide (l.drop i=l'.drop i)=(decide (l[i].1=l'[i].1)&&decide (l[i].2=l'[i].2)&&decide (l.drop (i+1)=l'.drop (i+1))):=by
 rw [List.drop_eq_getElem_cons h1,List.drop_eq_getElem_cons h2,Bool.eq_iff_iff]
 simp only [decide_eq_true_iff,Bool.and_eq_true,List.cons.injEq,Prod.ext_iff]
set_option maxRecDepth 100000 in
set_option maxHeartbeats 1000000 in
theorem kvpairs_any (w:World) (A B:Option Addr) (l l':List Kv) (n m c d:Nat) (hn:l.length=n) (hm:l'.length=m) (hl:n<=1000000) (hl':m<=1000000) (ha:KvSeen w A l) (hb:KvSeen w B l'):
 Calls Tryz.prog 33 #[.slice A n c,.slice B m d] w fun e w'=>e= .returned (.bool (decide (l=l')))/\Below w.heap.size w w':=by
 have HA:=Lib.hid ha
 have HB:=Lib.hid hb
 have HN:=Lib.hid hn
 have HM:=Lib.hid hm
 obtain ⟨v,hv⟩:∃ v,v=decide (l=l'):=⟨_,rfl⟩
 rw [<-hv]
 have HV:=Lib.hid hv
 clear ha hb hn hm hv
 by_cases hnm:n=m
 · subst hnm
   go_enter Tryz.func33,Tryz.ntmps33
   go_wp2_with fail
   go_loopg [5] n (fun kx s wr=>∃ i:Nat,i+kx=n/\s= .int .i64 (i:Int)/\Below w.heap.size w wr/\Hid (decide (l.drop i=l'.drop i)=v))
   case atStart=>exact ⟨0,by omega,rfl,Below.refl _ _,HV.out.symm⟩
   case round=>
    obtain ⟨i,hi,rfl,hbr,HD⟩:=hrel
    have HBR:=Lib.hid hbr
    have HI:=Lib.hid hi
    clear hbr hi
    by_cases hlt:i<n
    · have hkl:(i:Int)<(n:Int):=by omega
      have hil:i<l.length:=by have:=HN.out;omega
      have hil':i<l'.length:=by have:=HM.out;omega
      obtain ⟨b,off,A0,c0,A1,c1,rfl,_,q0,q1,s0,s1⟩:=HA.out.below HBR.out i hil
      obtain ⟨b2,off2,B0,d0,B1,d1,rfl,_,p0,p1,t0,t1⟩:=HB.out.below HBR.out i hil'
      have hdr:=drop_same hil hil'
      obtain ⟨x,hx⟩:∃ x,x=l[i].1:=⟨_,rfl⟩
      obtain ⟨y,hy⟩:∃ y,y=l[i].2:=⟨_,rfl⟩
      obtain ⟨x',hx'⟩:∃ x',x'=l'[i].1:=⟨_,rfl⟩
      obtain ⟨y',hy'⟩:∃ y',y'=l'[i].2:=⟨_,rfl⟩
      rw [<-hx] at q0 s0 hdr
      rw [<-hy] at q1 s1 hdr
      rw [<-hx'] at p0 t0 hdr
      rw [<-hy'] at p1 t1 hdr
      have HDR:=Lib.hid hdr
      clear hx hy hx' hy' hil hil' hdr
      have cv:∀ (X:Option Addr) (y:Key) (z:Nat),Seen wr X y->∀ q,(convert 22 9 (.slice X y.length z)).run Tryz.prog (wr.drewN q)= .ok (.string ⟨y.toArray⟩) (wr.drewN q):=fun X y z h q=>(h.below (below_drewN (Below.refl _ _) q)).text (P:=Tryz.prog) 22 9 5 Tryz.underlying22 Tryz.underlying5 Tryz.underlying9 z
      have e0:=cv A0 x c0 s0
      have e1:=cv A1 y c1 s1
      have f0:=cv B0 x' d0 t0
      have f1:=cv B1 y' d1 t1
      have hwi:IntKind.i64.wrap ((i:Int)+1)=((i+1:Nat):Int):=by rw [IntKind.wrap_i64];omega
      clear s0 s1 t0 t1 cv
      have u0:=text_beq x x'
      have u1:=text_beq y y'
      by_cases hx:x=x'
      · by_cases hy:y=y'
        · subst hx hy
          have HD2:Hid (decide (l.drop (i+1)=l'.drop (i+1))=v):=by show _=_;rw [<-HD.out,HDR.out];simp
          clear u0 u1
          go_wp2_with fail
          go_quiet (fail)
          go_wp2_with fail
          go_roundg (n-(i+1))
          case measure=>have:=HI.out;omega
          case rel=>exact ⟨i+1,by have:=HI.out;omega,rfl,below_drewN HBR.out _,HD2⟩
        · subst hx
          have HF:Hid (v=false):=by show _=_;rw [<-HD.out,HDR.out,decide_eq_false hy];simp
          rw [decide_eq_false hy] at u1
          have v1:(y==y')=false:=by rw [beq_eq_false_iff_ne];exact hy
          clear u0 hy
          go_wp2_with fail
          go_quiet (fail)
          go_wp2_with fail
          go_ret
          exact ⟨ret_bool HF.out.symm,below_drewN HBR.out _⟩
      · have HF:Hid (v=false):=by show _=_;rw [<-HD.out,HDR.out,decide_eq_false hx];simp
        rw [decide_eq_false hx] at u0
        have v0:(x==x')=false:=by rw [beq_eq_false_iff_ne];exact hx
        clear u1 hx
        go_wp2_with fail
        go_quiet (fail)
        go_wp2_with fail
        go_ret
        exact ⟨ret_bool HF.out.symm,below_drewN HBR.out _⟩
    · obtain rfl:i=n:=by have:=HI.out;omega
      have hkl: ¬ (i:Int)<(i:Int):=by omega
      have HF:Hid (v=true):=by
       show _=_
       rw [<-HD.out,List.drop_of_length_le (by have:=HN.out;omega),List.drop_of_length_le (by have:=HM.out;omega)]
       rfl
      go_wp2_with fail
      go_ret
      exact ⟨ret_bool HF.out.symm,HBR.out⟩
 · have HF:Hid (v=false):=by show _=_;rw [HV.out,decide_eq_false];intro h;have h1:=HN.out;have h2:=HM.out;rw [h] at h1;omega
   have e1:(n==m)=false:=by rw [beq_eq_false_iff_ne];exact hnm
   have e2:((n:Int)==(m:Int))=false:=by rw [beq_eq_false_iff_ne];omega
   go_enter Tryz.func33,Tryz.ntmps33
   go_wp2_with fail
   go_ret
   exact ⟨ret_bool HF.out.symm,Below.refl _ _⟩
theorem pairs_kv {w:World} {A B:Option Addr} {l:List Kv} {n m c d:Nat} (hn:l.length=n) (hm:l.length=m) (hl:n<=1000000) (ha:KvSeen w A l) (hb:KvSeen w B l):
 Calls Tryz.prog 33 #[.slice A n c,.slice B m d] w fun e w'=>e= .returned (.bool true)/\Below w.heap.size w w':=by
 have:=kvpairs_any w A B l l n m c d hn hm hl (by omega) ha hb
 rw [decide_eq_true rfl] at this
 exact this
end Go.Proofs.YtdaahapbpnjkfaaGreat
