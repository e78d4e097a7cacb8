/-
append of cells that are there, as a step of a statement whose order is drawn. No conditions.
-/
import Derived.Test.YtdaahapbpnjkfaaGreatCTrScan
import Derived.Test.YtdaahapbpnjkfaaGreatCRf
import Derived.Test.YtdaahapbpnjkfaaGreatCTrPut
import Derived.Test.YtdaahapbpnjkfaaGreatCTrDel
import Derived.Test.YtdaahapbpnjkfaaGreatCTrRf
import Derived.Test.YtdaahapbpnjkfaaGreatCSearch
import Derived.Deep.AppendLies
namespace Go.Proofs.YtdaahapbpnjkfaaGreat
open Go.RowKit
theorem found_at {B0:Nat} {W:World} {acc:List (El 0)} {A:Option Addr} {n c:Nat} (hf:TFound B0 W acc (.slice A n c)) {L:List Kv} (hL:acc.map kv0=L) (i:Nat) (hi:i<L.length):
 ∃ b off A0 c0 A1 c1,A=some ⟨b,off,none⟩/\b<W.heap.size/\W.cell? ⟨b,off+i*2,none⟩=some (.slice A0 L[i].1.length c0)/\W.cell? ⟨b,off+i*2+1,none⟩=some (.slice A1 L[i].2.length c1)/\Seen W A0 L[i].1/\Seen W A1 L[i].2/\(L[i].1.length<=1000000000/\L[i].2.length<=1000000000):=by
 have hl:i<acc.length:=by rw [<-hL,List.length_map] at hi;exact hi
 obtain ⟨A',c',hv⟩:=hf.form
 injection hv with e1 e2 e3
 subst e1 e2 e3
 have hc:=own_cells hf.row
 obtain ⟨b,off,hA,hb,_,h0,h1⟩:=pair_cells hc.1 i hl
 have he:=hf.each acc[i] (List.getElem_mem hl)
 have hkv:kv0 acc[i]=L[i]:=by subst hL;simp
 have k1:(epiece 0 acc[i]).2.1=L[i].1:=congrArg Prod.fst hkv
 have k2:(eval0 acc[i]).2.1=L[i].2:=congrArg Prod.snd hkv
 have s1:Seen W (epiece 0 acc[i]).1 (epiece 0 acc[i]).2.1:=he.1.1.seen
 have s2:Seen W (eval0 acc[i]).1 (eval0 acc[i]).2.1:=he.2.1.seen
 have m1:(epiece 0 acc[i]).2.1.length<=1000000000:=he.1.2.2
 have m2:(eval0 acc[i]).2.1.length<=1000000000:=he.2.2.2
 unfold pv at h0 h1
 rw [k1] at h0 s1 m1
 rw [k2] at h1 s2 m2
 exact ⟨b,off,_,_,_,_,hA,hb,h0,h1,s1,s2,m1,m2⟩
def KvSeen (W:World) (A:Option Addr) (l:List Kv):Prop:=∀ (i:Nat) (h:i<l.length),∃ b off A0 c0 A1 c1,A=some ⟨b,off,none⟩/\b<W.heap.size/\W.cell? ⟨b,off+i*2,none⟩=some (.slice A0 l[i].1.length c0)/\W.cell? ⟨b,off+i*2+1,none⟩=some (.slice A1 l[i].2.length c1)/\Seen W A0 l[i].1/\Seen W A1 l[i].2
theorem TFound.kv {B0:Nat} {W:World} {acc:List (El 0)} {A:Option Addr} {n c:Nat} (hf:TFound B0 W acc (.slice A n c)) {L:List Kv} (hL:acc.map kv0=L):KvSeen W A L:=fun i hi=>by
 obtain ⟨b,off,A0,c0,A1,c1,hA,hb,q0,q1,s0,s1,_⟩:=found_at hf hL i hi
 exact ⟨b,off,A0,c0,A1,c1,hA,hb,q0,q1,s0,s1⟩
theorem KvSeen.below {W W':World} {A:Option Addr} {l:List Kv} (h:KvSeen W A l) (hW:Below W.heap.size W W'):KvSeen W' A l:=fun i hi=>by
 obtain ⟨b,off,A0,c0,A1,c1,hA,hb,q0,q1,s0,s1⟩:=h i hi
 have key:∀ o,W'.cell? ⟨b,o,none⟩=W.cell? ⟨b,o,none⟩:=fun o=>World.cell?_of_block (a:=⟨b,o,none⟩) (hW.block b hb)
 exact ⟨b,off,A0,c0,A1,c1,hA,Nat.lt_of_lt_of_le hb hW.size,(key _).trans q0,(key _).trans q1,s0.below hW,s1.below hW⟩
theorem kv_of {w:World} {F G:Nat->Prop} {A:Option Addr} {els:List (El 0)} (hc:Cells w F A (rowCells 0 els)) (ha:AllOk w G 0 els):KvSeen w A (els.map kv0):=fun i hi=>by
 rw [List.length_map] at hi
 obtain ⟨b,off,hA,hb,_,h0,h1⟩:=pair_cells hc i hi
 have he:=ha els[i] (List.getElem_mem hi)
 have e:(els.map kv0)[i]'(by rw [List.length_map];exact hi)=kv0 els[i]:=by simp
 have s1:Seen w (epiece 0 els[i]).1 (epiece 0 els[i]).2.1:=he.1.1.seen
 have s2:Seen w (eval0 els[i]).1 (eval0 els[i]).2.1:=he.2.1.seen
 rw [e]
 exact ⟨b,off,_,_,_,_,hA,hb,h0,h1,s1,s2⟩
theorem get_named (w:World) (F:Nat->Prop) (g:Nat) (room:Int) (L:List Kv) (B:Option Addr) (k:Key) (m d:Nat) (t:TreeAt w F g room L) (hk:Seen w B k) (hm:k.length=m):
 Calls Tryz.prog 70 #[.pointer (some ⟨g,0,none⟩),.slice B m d] w fun e w'=>Below w.heap.size w w'/\∃ (X:Option Addr) (n c:Nat),e= .returned (.tuple #[.slice X n c,.bool (hasL k L)])/\AwayW w' (fun b=>b<w.heap.size) X (gv k L)/\(gv k L).length=n:=by
 refine (tget_any w F g room L B k m d t hk hm).mono ?_
 rintro e w' ⟨hb,⟨hh,q,rfl,hq1,hq2⟩ | ⟨hh,rfl⟩⟩
 · refine ⟨hb,q.1,(gv k L).length,q.2.2,?_,?_,rfl⟩
   · unfold gv pv;rw [hh,if_pos rfl,<-hq1]
   · unfold gv;rw [hh,if_pos rfl,<-hq1];exact hq2.1
 · refine ⟨hb,none,0,0,?_,.inl ?_,?_⟩
   · rw [hh]
   · unfold gv;rw [hh];rfl
   · unfold gv;rw [hh];rfl
def PutR (room:Int) (L:List Kv) (k v:Key) (r:Int) (L':List Kv):Prop:=(room<(sizeT (putT k v L):Int)/\r=4/\L'=L)\/((sizeT (putT k v L):Int)<=room/\r=0/\L'=putT k v L)
theorem Made.awayW {e:TypeId} {w0 w:World} {l:List UInt8} {v:Value} (h:Made e w0 l v w):∃ A c,v= .slice A l.length c/\AwayW w (fun b=>b<w0.heap.size) A l:=by
 obtain ⟨A,c,rfl,hs⟩:=h.form
 refine ⟨A,c,rfl,?_⟩
 rcases hs with rfl | ⟨b,off,rfl,hb,hc⟩
 · exact .inl rfl
 · rcases h.1.2 with ⟨hv,h0⟩ | ⟨g,cap,cur,hv,hbg,hg,_⟩
   · exact .inl (List.eq_nil_of_length_eq_zero h0)
   · injection hv with h1 _ _
     injection h1 with h1
     injection h1 with h2 h3
     subst h2 h3
     exact .inr ⟨b,0,rfl,hb,by omega,hc,cur,_,hg⟩
theorem low_take {L:List Kv} (hs:Srt L) (k:Key):low k L=L.take (low k L).length:=by
 rcases hs.cut k with ⟨_,h2,_⟩ | ⟨_,h2,_⟩<;>(conv=>rhs;arg 2;rw [h2])<;>simp
theorem high_has {L:List Kv} (hs:Srt L) (k:Key) (hh:hasL k L=true):high k L=L.drop ((low k L).length+1):=by
 rcases hs.cut k with ⟨_,h2,_⟩ | ⟨h1,_⟩
 · conv=>rhs;arg 2;rw [h2]
   rw [List.drop_append]
   simp
 · rw [h1] at hh;cases hh
theorem high_not {L:List Kv} (hs:Srt L) (k:Key) (hh:hasL k L=false):high k L=L.drop (low k L).length:=by
 rcases hs.cut k with ⟨h1,_⟩ | ⟨_,h2,_⟩
 · rw [h1] at hh;cases hh
 · conv=>rhs;arg 2;rw [h2]
   simp
theorem map_els {w:World} {F:Nat->Prop} {gm:Nat} {room:Int} {L:List Kv} (t:MapAt w F gm room L):∃ (A:Option Addr) (c:Nat) (els:List (El 0)),els.map kv0=L/\els.length=L.length/\Blk w gm [.int .i64 room,.slice A L.length c] 119/\Cells w F A (rowCells 0 els)/\L.length<=c/\AllOk w F 0 els/\L.length<=100000:=by
 obtain ⟨_,_,h2,A,c,els,he,hb,hc,hl,ha⟩:=t
 exact ⟨A,c,els,he,by rw [<-he,List.length_map],hb,hc,hl,ha,h2⟩
theorem map_stored {w5:World} {F:Nat->Prop} {gm:Nat} {room:Int} {L':List Kv} {A A':Option Addr} {n c n' c' base:Nat} {els':List (El 0)} (hF:∀ b,F b->b<base) (hg:F gm) (hs:Srt L') (hl:L'.length<=100000) (he:els'.map kv0=L') (hb:Blk w5 gm [.int .i64 room,.slice A n c] 119) (hown:w5.ownsRow base 123 2 (.slice A' n' c') n' (rowCells 0 els')) (hn:L'.length=n') (ha:AllOk w5 F 0 els'):
 MapAt (w5.setCell ⟨gm,1,none⟩ (.slice A' n' c')) F gm room L':=by
 have hsp:Spared w5 (w5.setCell ⟨gm,1,none⟩ (.slice A' n' c')) F:=(Spared.refl w5 F).setCell hg _ _
 have hoc:=own_cells hown
 refine ⟨hg,hs,hl,A',c',els',he,?_,?_,?_,fun x hx=>EOk.moved hsp (fun _ h=> .inl h) 0 x (ha x hx)⟩
 · rw [hn];exact hb.set 1 _
 · exact (hoc.1.moved (.refl _ _) (fun i hi=> .inl (hF i hi))).moved hsp (fun _ h=> .inl h)
 · rw [hn];exact hoc.2
def RDelOut (w:World) (F:Nat->Prop) (gm:Nat) (room:Int) (L:List Kv) (k:Key) (e:Ending) (w':World):Prop:=
 e= .returned (.bool (hasL k L))/\MapAt w' F gm room (delL k L)/\Spared w w' (fun b=>b=gm)
set_option maxRecDepth 100000 in
set_option maxHeartbeats 4000000 in
theorem rdel_any (w:World) (F:Nat->Prop) (hF:∀ b,F b->b<w.heap.size) (gm:Nat) (room:Int) (L:List Kv) (B:Option Addr) (k:Key) (m d:Nat) (t:MapAt w F gm room L) (hk:Seen w B k) (hm:k.length=m):
 Calls Tryz.prog 65 #[.pointer (some ⟨gm,0,none⟩),.slice B m d] w (RDelOut w F gm room L k):=by
 have HFI:=Lib.hid (rfind_any w F gm room L B k m d t hk hm)
 have HT:=Lib.hid t
 have hsrt:Srt L:=t.2.1
 cases hhas:hasL k L
 · have HE:Hid (delL k L=L):=delL_not hsrt hhas
   have HH:=Lib.hid hhas
   rw [hhas] at HFI
   generalize (low k L).length=pl at *
   clear hhas hsrt hk hm t hF
   go_enter Tryz.func65,Tryz.ntmps65
   go_wp2_with fail
   with_reducible refine HFI.out.mono ?_
   rintro e w1 ⟨rfl,hb1⟩
   have B1:=Lib.hid hb1
   clear hb1
   go_wp2_with fail
   go_ret
   refine ⟨by rw [HH.out];rfl,?_,.of_below B1.out _⟩
   rw [HE.out]
   exact HT.out.below B1.out
 · obtain ⟨A,c,els,he,hel,hb,hcl,hlc,hao,hn9⟩:=map_els t
   have HGF:Hid (F gm):=t.1
   have hpl:=(place_get hsrt k hhas).1
   have hlow:=low_take hsrt k
   have hhigh:=high_has hsrt k hhas
   have HDS:Hid (Srt (delL k L)):=hsrt.del k
   have HDL:Hid ((delL k L).length+1=L.length):=(sizeL_has hsrt hhas).2.symm
   have HHAS:=Lib.hid hhas
   rw [hhas] at HFI
   obtain ⟨pl,hple⟩:∃ pl,pl=(low k L).length:=⟨_,rfl⟩
   rw [<-hple] at HFI hpl hlow hhigh
   obtain ⟨n,hn⟩:∃ n,n=L.length:=⟨_,rfl⟩
   rw [<-hn] at hel hb hlc hn9 hpl HDL
   obtain ⟨i0,z0,R⟩:=rowP
   have hcut1:∀ W,(Instr.slice 63 (.slice A n c) none (some (.int .i64 (pl:Int))) none).run Tryz.prog W= .ok (.slice A pl c) W:=R.head A n c pl (by omega)
   have hcut2:=R.tail A n c (pl+1) (by omega)
   obtain ⟨A2,hA2⟩:∃ A2,A2=if c=pl+1 then A else A.map (·.add ((pl+1)*2)):=⟨_,rfl⟩
   obtain ⟨n2,hn2⟩:∃ n2,n2=n-(pl+1):=⟨_,rfl⟩
   obtain ⟨c2,hc2⟩:∃ c2,c2=c-(pl+1):=⟨_,rfl⟩
   rw [<-hA2,<-hn2,<-hc2] at hcut2
   have hpc:((pl+1:Nat):Int)=(pl:Int)+1:=by omega
   rw [hpc] at hcut2
   have hw1:IntKind.i64.wrap ((pl:Int)+1)=(pl:Int)+1:=by rw [IntKind.wrap_i64];omega
   have CT:Hid (Cells w F A (rowCells 0 (els.take pl))):=by
    have:=hcl.take (pl*2)
    rw [show (2:Nat)=esize 0 from rfl,rowCells_take] at this
    exact this
   have CD:Hid (Cells w F A2 (rowCells 0 (els.drop (pl+1)))):=by
    have:=hcl.drop (pl+1) 2 c (by rw [rowCells_length];show _*2<=_;omega)
    rw [<-hA2] at this
    rw [show (pl+1)*2=(pl+1)*esize 0 from rfl,rowCells_drop] at this
    exact this
   have HLT:Hid ((rowCells 0 (els.take pl)).length=pl*2):=by show _=_;rw [rowCells_length,List.length_take];show _*2=_;omega
   have HLD:Hid ((rowCells 0 (els.drop (pl+1))).length=n2*2):=by show _=_;rw [rowCells_length,List.length_drop];show _*2=_;omega
   have hsum:pl+n2=n-1:=by omega
   have HSUM:=Lib.hid hsum
   have HEL:Hid ((els.take pl++els.drop (pl+1)).map kv0=delL k L):=by show _=_;rw [List.map_append,List.map_take,List.map_drop,he,<-hlow,<-hhigh];rfl
   have HR:=Lib.hid R
   have HB:=Lib.hid hb
   have HAO:=Lib.hid hao
   have HF:=Lib.hid hF
   have hn2b:pl+n2<=100000:=by omega
   clear R hk hm t hF hsrt hhas he hel hb hcl hlc hao hpl hlow hhigh hple hn hA2 hn2 hc2 hsum hpc
   go_enter Tryz.func65,Tryz.ntmps65
   go_wp2_with fail
   with_reducible refine HFI.out.mono ?_
   rintro e w1 ⟨rfl,hb1⟩
   have B1:=Lib.hid hb1
   have hbb:=HB.out.below hb1 HB.out.lt
   have x1:=hbb.cell (i:=1) (by simp)
   simp only [List.getElem_cons_zero,List.getElem_cons_succ] at x1
   clear hb1 hbb
   go_wp2_with (first
    | (
     at_builtin
     refine wpList_append_cells HR.out rfl _ _ rfl F w1.heap.size (.slice none 0 0) 0 [] (by rfl) (World.ownsRow_nil _ _ _ _) A (rowCells 0 (els.take pl)) pl c (by rfl) HLT.out (CT.out.below B1.out) (rowCells_one 0 _) (by omega) (by omega) (Nat.le_refl _) ?_
     intro v2 w2 ho2 hg2
     rw [Nat.zero_add,List.nil_append] at ho2
     obtain ⟨A3,c3,rfl⟩:=own_shape ho2
     have O2:=Lib.hid ho2
     have B12:Hid (Below w1.heap.size w1 w2):=below_grown (Below.refl _ _) (Nat.le_refl _) (World.ownsRow_nil w1 w1.heap.size 123 2) hg2
     have hbb:=(HB.out.below B1.out HB.out.lt).below B12.out (HB.out.below B1.out HB.out.lt).lt
     have y1:=hbb.cell (i:=1) (by simp)
     simp only [List.getElem_cons_zero,List.getElem_cons_succ] at y1
     clear ho2 hg2 hbb)
    | (
     at_builtin
     refine wpList_append_cells HR.out rfl _ _ rfl F w1.heap.size (.slice A3 pl c3) pl (rowCells 0 (els.take pl)) (by rfl) O2.out A2 (rowCells 0 (els.drop (pl+1))) n2 c2 (by rfl) HLD.out ((CD.out.below B1.out).below B12.out) (rowCells_one 0 _) (by omega) (by omega) B12.out.size ?_
     intro v4 w4 ho4 hg4
     rw [HSUM.out,<-rowCells_append] at ho4
     obtain ⟨A5,c5,rfl⟩:=own_shape ho4
     have O4:=Lib.hid ho4
     have B14:Hid (Below w1.heap.size w1 w4):=below_grown B12.out B12.out.size O2.out hg4
     have HB4:=Lib.hid ((HB.out.below B1.out HB.out.lt).below B14.out (HB.out.below B1.out HB.out.lt).lt)
     have z1:=HB4.out.cell (i:=1) (by simp)
     have f1:=HB4.out.free 1
     simp only [List.getElem_cons_zero,List.getElem_cons_succ] at z1
     clear ho4 hg4))
   go_ret
   have BW4:Below w.heap.size w w4:=hop B1.out B14.out
   refine ⟨by rw [HHAS.out];rfl,?_,(Spared.of_below BW4 (fun b=>b=gm)).setCell (g:=gm) rfl _ _⟩
   refine map_stored (base:=w1.heap.size) (fun b hb=>Nat.lt_of_lt_of_le (HF.out b hb) B1.out.size) HGF.out HDS.out (by have:=HDL.out;omega) HEL.out HB4.out O4.out (by have:=HDL.out;omega) ?_
   exact (AllOk.append (HAO.out.take pl) (HAO.out.drop (pl+1))).below BW4
theorem Made.pieceIn {e:TypeId} {w0 w:World} {l:List UInt8} {v:Value} (h:Made e w0 l v w) (hl:l.length<=1000000000):∃ A c,v= .slice A l.length c/\PieceIn w (fun b=>b<w0.heap.size) (A,l,c):=by
 obtain ⟨A,c,rfl,h1⟩:=h.awayW
 obtain ⟨A',c',hv,_,h2⟩:=h.form_cap
 injection hv with e1 _ e3
 subst e1 e3
 exact ⟨A,c,rfl,h1,h2,hl⟩
theorem two_one (A:Option Addr) (n c:Nat) (B:Option Addr) (m d:Nat):∀ u ∈ ([.slice A n c,.slice B m d]:List Value),u.oneCell'=true:=fun u hu=>by
 rcases List.mem_cons.1 hu with rfl | hu
 · rfl
 · rw [List.mem_singleton.1 hu];rfl
theorem size_put_has {L:List Kv} (hs:Srt L) {k v:Key} (hh:hasL k L=true):sizeT (putT k v L)+(getT k L).length=sizeT L+v.length:=by
 have h1:=(sizeL_has hs hh).1
 have h2:=(sizeL_put k v L).1
 omega
theorem size_put_not {L:List Kv} (hs:Srt L) {k v:Key} (hh:hasL k L=false):sizeT (putT k v L)=sizeT L+v.length+k.length:=by
 have h2:=(sizeL_put k v L).1
 rw [delL_not hs hh] at h2
 omega
theorem small_size {L:List Kv} (h:L.length<=100000) (h2:∀ x ∈ L,x.1.length<=1000000000/\x.2.length<=1000000000):sizeT L<=200000000000000:=by
 have:∀ l:List Kv,(∀ x ∈ l,x.1.length<=1000000000/\x.2.length<=1000000000)->sizeT l<=l.length*2000000000:=by
  intro l
  induction l with
  | nil=>intro _;exact Nat.le_refl _
  | cons x l ih=>
   intro hl
   have h1:=ih (fun y hy=>hl y (List.mem_cons_of_mem _ hy))
   have h2:=hl x (List.mem_cons_self ..)
   rw [sizeL_cons,List.length_cons,Nat.succ_mul]
   omega
 have:=this L h2
 omega
theorem map_small {w:World} {F:Nat->Prop} {gm:Nat} {room:Int} {L:List Kv} (t:MapAt w F gm room L):∀ x ∈ L,x.1.length<=1000000000/\x.2.length<=1000000000:=by
 obtain ⟨_,_,_,A,c,els,he,_,_,_,ha⟩:=t
 intro x hx
 rw [<-he] at hx
 obtain ⟨q,hq,rfl⟩:=List.mem_map.1 hx
 exact ⟨(ha q hq).1.2.2,(ha q hq).2.2.2⟩
def RPutOut (w:World) (F:Nat->Prop) (gm:Nat) (room:Int) (L:List Kv) (k v:Key) (e:Ending) (w':World):Prop:=
 ∃ (r:Int) (L':List Kv),e= .returned (.int .i64 r)/\MapAt w' F gm room L'/\Spared w w' (fun b=>b=gm)/\PutR room L k v r L'
set_option maxRecDepth 100000 in
set_option maxHeartbeats 4000000 in
theorem rput_any (w:World) (F:Nat->Prop) (hF:∀ b,F b->b<w.heap.size) (gm:Nat) (room:Int) (L:List Kv) (B V:Option Addr) (k v:Key) (m d mv dv:Nat) (t:MapAt w F gm room L) (hl:L.length<=99999) (hk:Seen w B k) (hm:k.length=m) (hv:Seen w V v) (hmv:v.length=mv) (hm9:m<=1000000000) (hv9:mv<=1000000000):
 Calls Tryz.prog 66 #[.pointer (some ⟨gm,0,none⟩),.slice B m d,.slice V mv dv] w (RPutOut w F gm room L k v):=by
 have HFI:=Lib.hid (rfind_any w F gm room L B k m d t hk hm)
 have HT:=Lib.hid t
 have hsrt:Srt L:=t.2.1
 obtain ⟨A,c,els,he,hel,hb,hcl,hlc,hao,hn9⟩:=map_els t
 have hat:=pairs_at hcl hao
 rw [he] at hat
 have HGF:Hid (F gm):=t.1
 have HPS:Hid (Srt (putT k v L)):=hsrt.put k v
 have hsz:=small_size hn9 (map_small t)
 have HSIZE:Hid (∀ W,Below w.heap.size w W->Calls Tryz.prog 95 #[.pointer (some ⟨gm,0,none⟩)] W fun e w'=>e= .returned (.int .i64 (sizeT L:Int))/\Below W.heap.size W w'):=fun W hW=>rsize_any W F gm room L (t.below hW)
 obtain ⟨S,hS⟩:∃ S,S=sizeT L:=⟨_,rfl⟩
 obtain ⟨S2,hS2⟩:∃ S2,S2=sizeT (putT k v L):=⟨_,rfl⟩
 rw [<-hS] at hsz HSIZE
 have HS2:=Lib.hid hS2
 have hlow:=low_take hsrt k
 have HSK:=Lib.hid hk
 have HSV:=Lib.hid hv
 have HM:=Lib.hid hm
 have HMV:=Lib.hid hmv
 obtain ⟨i0,z0,R⟩:=rowP
 have HR:=Lib.hid R
 obtain ⟨i8,hi,hz0,hz1,hz2⟩:=info_parts info8i
 have HB:=Lib.hid hb
 have HAO:=Lib.hid hao
 have HF:=Lib.hid hF
 obtain ⟨n,hn⟩:∃ n,n=L.length:=⟨_,rfl⟩
 have HN:=Lib.hid hn
 rw [<-hn] at hel HB hlc hn9 hl
 cases hhas:hasL k L
 · -- a new key
   have hsn:=size_put_not (v:=v) hsrt hhas
   rw [<-hS,<-hS2,hm,hmv] at hsn
   have hhigh:=high_not hsrt k hhas
   have hpln:(low k L).length<=n:=by rw [hlow,List.length_take,hn];omega
   have HPL:Hid ((putT k v L).length=n+1):=by show _=_;rw [put_length hsrt,hhas,hn];rfl
   rw [hhas] at HFI
   obtain ⟨pl,hple⟩:∃ pl,pl=(low k L).length:=⟨_,rfl⟩
   rw [<-hple] at HFI hpln hlow hhigh
   have HEL:Hid (∀ q:El 0,kv0 q=(k,v)->(els.take pl++[q]++els.drop pl).map kv0=putT k v L):=fun q hq=>by
    rw [List.map_append,List.map_append,List.map_take,List.map_drop,he,<-hlow,<-hhigh,List.map_cons,List.map_nil,hq]
    unfold putT
    rw [List.append_assoc];rfl
   have hcut1:∀ W,(Instr.slice 63 (.slice A n c) none (some (.int .i64 (pl:Int))) none).run Tryz.prog W= .ok (.slice A pl c) W:=R.head A n c pl (by omega)
   have hcut2:=R.tail A n c pl (by omega)
   obtain ⟨A2,hA2⟩:∃ A2,A2=if c=pl then A else A.map (·.add (pl*2)):=⟨_,rfl⟩
   obtain ⟨n2,hn2⟩:∃ n2,n2=n-pl:=⟨_,rfl⟩
   obtain ⟨c2,hc2⟩:∃ c2,c2=c-pl:=⟨_,rfl⟩
   rw [<-hA2,<-hn2,<-hc2] at hcut2
   have CT:Hid (Cells w F A (rowCells 0 (els.take pl))):=by
    have:=hcl.take (pl*2)
    rw [show (2:Nat)=esize 0 from rfl,rowCells_take] at this
    exact this
   have CD:Hid (Cells w F A2 (rowCells 0 (els.drop pl))):=by
    have:=hcl.drop pl 2 c (by rw [rowCells_length];show _*2<=_;omega)
    rw [<-hA2] at this
    rw [show pl*2=pl*esize 0 from rfl,rowCells_drop] at this
    exact this
   have HLT:Hid ((rowCells 0 (els.take pl)).length=pl*2):=by show _=_;rw [rowCells_length,List.length_take];show _*2=_;omega
   have HLD:Hid ((rowCells 0 (els.drop pl)).length=n2*2):=by show _=_;rw [rowCells_length,List.length_drop];show _*2=_;omega
   have hsum:pl+1+n2=n+1:=by omega
   have HSUM:=Lib.hid hsum
   have hn2b:pl+1+n2<=100000:=by omega
   have hw1:IntKind.i64.wrap ((S:Int)+(mv:Int))=(S:Int)+(mv:Int):=by rw [IntKind.wrap_i64];omega
   have hw2:IntKind.i64.wrap ((S:Int)+(mv:Int)+(m:Int))=(S:Int)+(mv:Int)+(m:Int):=by rw [IntKind.wrap_i64];omega
   have HSE:Hid ((sizeT (putT k v L):Int)=(S:Int)+(mv:Int)+(m:Int)):=by show _=_;rw [<-hS2];omega
   clear R hk hm hv hmv t hF hsrt hhas he hel hb hcl hlc hao hpln hlow hhigh hple hn hA2 hn2 hc2 hsum hat hS hS2 hsn
   go_enter Tryz.func66,Tryz.ntmps66
   go_wp2_with fail
   with_reducible refine HFI.out.mono ?_
   rintro e w1 ⟨rfl,hb1⟩
   have B1:=Lib.hid hb1
   clear hb1
   go_wp2_with fail
   with_reducible refine (HSIZE.out w1 B1.out).mono ?_
   rintro e w2 ⟨rfl,hb2⟩
   have B2:=Lib.hid (hop B1.out hb2)
   have hbb:=HB.out.below B2.out HB.out.lt
   have x0:=hbb.cell (i:=0) (by simp)
   have x1:=hbb.cell (i:=1) (by simp)
   simp only [List.getElem_cons_zero,List.getElem_cons_succ] at x0 x1
   clear hb2 hbb
   by_cases hroom:room<(S:Int)+(mv:Int)+(m:Int)
   · go_wp2_with fail
     go_ret
     refine ⟨4,L,rfl,HT.out.below B2.out,.of_below B2.out _,.inl ⟨?_,rfl,rfl⟩⟩
     rw [HSE.out];exact hroom
   · have dr:decide (room<(S:Int)+(mv:Int)+(m:Int))=false:=decide_eq_false hroom
     have HROOM:Hid ((sizeT (putT k v L):Int)<=room):=by show _<=_;rw [HSE.out];omega
     clear HFI HSIZE HT
     go_wp2_with (first
      | (
       at_builtin
       refine wpList_append_bytes w2 rfl _ _ 22 rfl 5 i8 (.int .u8 0) Tryz.underlying22 hi hz0 hz1 hz2 rfl w2 _ [] B k d rfl (by rw [HM.out];rfl) (Made.nil _ _) (HSK.out.below B2.out) (by rw [List.length_nil,HM.out];omega) ?_
       intro v3 w3 hm3 hb3
       obtain ⟨A3,c3,rfl,ha3⟩:=hm3.pieceIn (by rw [List.nil_append,HM.out];exact hm9)
       have Q3:Hid (PieceIn w3 (fun b=>b<w2.heap.size) (A3,k,c3)):=ha3
       have B23:Hid (Below w2.heap.size w2 w3):=hm3.2
       rw [show (([]:List UInt8)++k).length=m from HM.out]
       clear hm3 hb3 ha3)
      | (
       at_builtin
       refine wpList_append_bytes w3 rfl _ _ 22 rfl 5 i8 (.int .u8 0) Tryz.underlying22 hi hz0 hz1 hz2 rfl w3 _ [] V v dv rfl (by rw [HMV.out];rfl) (Made.nil _ _) (HSV.out.below (hop B2.out B23.out)) (by rw [List.length_nil,HMV.out];omega) ?_
       intro v4 w4 hm4 hb4
       obtain ⟨A4,c4,rfl,ha4⟩:=hm4.pieceIn (by rw [List.nil_append,HMV.out];exact hv9)
       have Q4:Hid (PieceIn w4 (fun b=>b<w3.heap.size) (A4,v,c4)):=ha4
       have B34:Hid (Below w3.heap.size w3 w4):=hm4.2
       rw [show (([]:List UInt8)++v).length=mv from HMV.out]
       have Q34:Hid (PieceIn w4 (fun b=>b<w2.heap.size) (A3,k,c3)):=Q3.out.below B34.out
       have BP:Hid (Below w4.heap.size w4 (w4.alloc (.cells #[.slice A3 m c3,.slice A4 mv c4] 123))):=(Below.refl _ _).alloc (Nat.le_refl _) _
       have KP:Hid (Blk (w4.alloc (.cells #[.slice A3 m c3,.slice A4 mv c4] 123)) w4.heap.size [.slice A3 m c3,.slice A4 mv c4] 123):=Blk.new w4 [.slice A3 m c3,.slice A4 mv c4] 123
       have B24:=Lib.hid (hop B23.out B34.out)
       have B4:=Lib.hid (hop B2.out B24.out)
       have BWP:=Lib.hid (hop B4.out BP.out)
       have hgp:=HB.out.below BWP.out HB.out.lt
       have y1:=hgp.cell (i:=1) (by simp)
       simp only [List.getElem_cons_zero,List.getElem_cons_succ] at y1
       clear hm4 hb4 ha4 hgp)
      | (
       at_builtin
       refine wpList_append_cells HR.out rfl _ _ rfl F w4.heap.size (.slice none 0 0) 0 [] (by rfl) (World.ownsRow_nil _ _ _ _) _ (rowCells 0 (els.take pl)) pl c (by rfl) HLT.out (CT.out.below BWP.out) (rowCells_one 0 _) (by omega) (by omega) BP.out.size ?_
       intro v6 w6 ho6 hg6
       rw [Nat.zero_add,List.nil_append] at ho6
       obtain ⟨A6,c6,rfl⟩:=own_shape ho6
       have O6:=Lib.hid ho6
       have B46:Hid (Below w4.heap.size w4 w6):=below_grown BP.out BP.out.size (World.ownsRow_nil _ w4.heap.size 123 2) hg6
       have KP6:=Lib.hid (Spared.blk (.of_grown (F:=fun _=>False) hg6 (fun k h _=>by cases h)) KP.out (fun h=>h))
       have B6:=Lib.hid (hop B4.out B46.out)
       have hgp:=HB.out.below B6.out HB.out.lt
       have p0:=KP6.out.cell (i:=0) (by simp)
       have p1:=KP6.out.cell (i:=1) (by simp)
       simp only [List.getElem_cons_zero,List.getElem_cons_succ] at p0 p1
       clear ho6 hg6 hgp)
      | (
       at_builtin
       refine wpList_append_cells HR.out rfl _ _ rfl F w4.heap.size (.slice A6 pl c6) pl (rowCells 0 (els.take pl)) (by rfl) (O6.out.alloc _) (some ⟨w6.heap.size,0,none⟩) [.slice A3 m c3,.slice A4 mv c4] 1 1 (by rfl) (by rfl) (cells_new w6 F [.slice A3 m c3,.slice A4 mv c4] 123 (fun h=>by have h1:=HF.out _ h;have h2:=B6.out.size;omega)) (two_one A3 m c3 A4 mv c4) (by omega) (by omega) (by have h2:=B46.out.size;simp;omega) ?_
       intro v7 w7 ho7 hg7
       obtain ⟨A7,c7,rfl⟩:=own_shape ho7
       have O7:=Lib.hid ho7
       have B47:Hid (Below w4.heap.size w4 w7):=below_grown (B46.out.alloc B46.out.size _) (by have h2:=B46.out.size;simp;omega) (O6.out.alloc _) hg7
       have B7:=Lib.hid (hop B4.out B47.out)
       have hgp:=HB.out.below B7.out HB.out.lt
       have z1:=hgp.cell (i:=1) (by simp)
       simp only [List.getElem_cons_zero,List.getElem_cons_succ] at z1
       clear ho7 hg7 hgp)
      | (
       at_builtin
       refine wpList_append_cells HR.out rfl _ _ rfl F w4.heap.size (.slice A7 (pl+1) c7) (pl+1) (rowCells 0 (els.take pl)++[.slice A3 m c3,.slice A4 mv c4]) (by rfl) O7.out A2 (rowCells 0 (els.drop pl)) n2 c2 (by rfl) HLD.out (CD.out.below B7.out) (rowCells_one 0 _) (by omega) (by omega) B47.out.size ?_
       intro v8 w8 ho8 hg8
       have HQC:ecells 0 (mkPair (A3,k,c3) (A4,v,c4))=[.slice A3 m c3,.slice A4 mv c4]:=by rw [<-HM.out,<-HMV.out];rfl
       rw [HSUM.out,<-HQC,<-rowCells_single,<-rowCells_append,<-rowCells_append] at ho8
       obtain ⟨A8,c8,rfl⟩:=own_shape ho8
       have O8:=Lib.hid ho8
       have B48:Hid (Below w4.heap.size w4 w8):=below_grown B47.out B47.out.size O7.out hg8
       have B8:=Lib.hid (hop B4.out B48.out)
       have HB8:=Lib.hid (HB.out.below B8.out HB.out.lt)
       have u1:=HB8.out.cell (i:=1) (by simp)
       have f1:=HB8.out.free 1
       simp only [List.getElem_cons_zero,List.getElem_cons_succ] at u1
       clear ho8 hg8 HQC))
     go_ret
     have HFS:∀ b,F b->b<w2.heap.size:=fun b hb=>Nat.lt_of_lt_of_le (HF.out b hb) B2.out.size
     refine ⟨0,putT k v L,rfl,?_,(Spared.of_below B8.out (fun b=>b=gm)).setCell (g:=gm) rfl _ _,.inr ⟨HROOM.out,rfl,rfl⟩⟩
     refine map_stored (base:=w4.heap.size) (fun b hb=>Nat.lt_of_lt_of_le (HFS b hb) B24.out.size) HGF.out HPS.out (by rw [HPL.out];omega) (HEL.out (mkPair (A3,k,c3) (A4,v,c4)) rfl) HB8.out O8.out HPL.out ?_
     refine AllOk.append (AllOk.append ((HAO.out.take pl).below B8.out) ?_) ((HAO.out.drop pl).below B8.out)
     intro q hq
     rw [List.mem_singleton.1 hq]
     exact ⟨(Q34.out.below B48.out).mono HFS,(Q4.out.below B48.out).mono (fun b hb=>Nat.lt_of_lt_of_le (HFS b hb) B23.out.size)⟩
 · -- a key that is there
   have hsn:=size_put_has (v:=v) hsrt hhas
   rw [<-hS,<-hS2,hmv] at hsn
   obtain ⟨hplt,hpge⟩:=place_get hsrt k hhas
   obtain ⟨bq,oq,A0',c0',A1',c1',hAq,hcq,hq8,hq9⟩:=hat _ hplt
   obtain ⟨ng,hng⟩:∃ ng,ng=(getT k L).length:=⟨_,rfl⟩
   rw [hpge] at hcq hq8 hq9
   rw [<-hng] at hsn
   have hq9':ng<=1000000000:=by rw [hng];exact hq9
   have hgs:ng<=S:=by have:=(sizeL_has hsrt hhas).1;omega
   have HQV:Hid (∀ W,Below w.heap.size w W->W.cell? ⟨bq,oq+(low k L).length*2+1,none⟩=some (.slice A1' ng c1')):=fun W hW=>by rw [hng];exact (hcq W hW).2.1
   have hhigh:=high_has hsrt k hhas
   have hpln:(low k L).length<n:=by rw [hn];exact hplt
   have HPL:Hid ((putT k v L).length=n):=by show _=_;rw [put_length hsrt,hhas,hn];rfl
   rw [hhas] at HFI
   obtain ⟨pl,hple⟩:∃ pl,pl=(low k L).length:=⟨_,rfl⟩
   rw [<-hple] at HFI hpln hlow hhigh HQV
   have HEL:Hid (∀ q:El 0,kv0 q=(k,v)->(els.take pl++[q]++els.drop (pl+1)).map kv0=putT k v L):=fun q hq=>by
    rw [List.map_append,List.map_append,List.map_take,List.map_drop,he,<-hlow,<-hhigh,List.map_cons,List.map_nil,hq]
    unfold putT
    rw [List.append_assoc];rfl
   have hcut1:∀ W,(Instr.slice 63 (.slice A n c) none (some (.int .i64 (pl:Int))) none).run Tryz.prog W= .ok (.slice A pl c) W:=R.head A n c pl (by omega)
   have hcut2:=R.tail A n c (pl+1) (by omega)
   obtain ⟨A2,hA2⟩:∃ A2,A2=if c=pl+1 then A else A.map (·.add ((pl+1)*2)):=⟨_,rfl⟩
   obtain ⟨n2,hn2⟩:∃ n2,n2=n-(pl+1):=⟨_,rfl⟩
   obtain ⟨c2,hc2⟩:∃ c2,c2=c-(pl+1):=⟨_,rfl⟩
   rw [<-hA2,<-hn2,<-hc2] at hcut2
   have hpc:((pl+1:Nat):Int)=(pl:Int)+1:=by omega
   rw [hpc] at hcut2
   have hwp:IntKind.i64.wrap ((pl:Int)+1)=(pl:Int)+1:=by rw [IntKind.wrap_i64];omega
   have hp0:(0:Int)<=(pl:Int):=by omega
   have hp1:(pl:Int)<(n:Int):=by omega
   have CT:Hid (Cells w F A (rowCells 0 (els.take pl))):=by
    have:=hcl.take (pl*2)
    rw [show (2:Nat)=esize 0 from rfl,rowCells_take] at this
    exact this
   have CD:Hid (Cells w F A2 (rowCells 0 (els.drop (pl+1)))):=by
    have:=hcl.drop (pl+1) 2 c (by rw [rowCells_length];show _*2<=_;omega)
    rw [<-hA2] at this
    rw [show (pl+1)*2=(pl+1)*esize 0 from rfl,rowCells_drop] at this
    exact this
   have HLT:Hid ((rowCells 0 (els.take pl)).length=pl*2):=by show _=_;rw [rowCells_length,List.length_take];show _*2=_;omega
   have HLD:Hid ((rowCells 0 (els.drop (pl+1))).length=n2*2):=by show _=_;rw [rowCells_length,List.length_drop];show _*2=_;omega
   have hsum:pl+1+n2=n:=by omega
   have HSUM:=Lib.hid hsum
   have hn2b:pl+1+n2<=100000:=by omega
   have hw1:IntKind.i64.wrap ((S:Int)+(mv:Int))=(S:Int)+(mv:Int):=by rw [IntKind.wrap_i64];omega
   have hw2:IntKind.i64.wrap ((S:Int)+(mv:Int)-(ng:Int))=(S:Int)+(mv:Int)-(ng:Int):=by rw [IntKind.wrap_i64];omega
   have HSE:Hid ((sizeT (putT k v L):Int)=(S:Int)+(mv:Int)-(ng:Int)):=by show _=_;rw [<-hS2];omega
   clear R hk hm hv hmv t hF hsrt hhas he hel hb hcl hlc hao hpln hlow hhigh hple hn hA2 hn2 hc2 hsum hat hS hS2 hsn hplt hpge hcq hq8 hq9 hng hpc
   go_enter Tryz.func66,Tryz.ntmps66
   go_wp2_with fail
   with_reducible refine HFI.out.mono ?_
   rintro e w1 ⟨rfl,hb1⟩
   have B1:=Lib.hid hb1
   clear hb1
   go_wp2_with fail
   with_reducible refine (HSIZE.out w1 B1.out).mono ?_
   rintro e w2 ⟨rfl,hb2⟩
   have B2:=Lib.hid (hop B1.out hb2)
   have hbb:=HB.out.below B2.out HB.out.lt
   have x0:=hbb.cell (i:=0) (by simp)
   have x1:=hbb.cell (i:=1) (by simp)
   simp only [List.getElem_cons_zero,List.getElem_cons_succ] at x0 x1
   have xq:=HQV.out w2 B2.out
   subst hAq
   clear hb2 hbb
   by_cases hroom:room<(S:Int)+(mv:Int)-(ng:Int)
   · go_wp2_with fail
     go_ret
     refine ⟨4,L,rfl,HT.out.below B2.out,.of_below B2.out _,.inl ⟨?_,rfl,rfl⟩⟩
     rw [HSE.out];exact hroom
   · have dr:decide (room<(S:Int)+(mv:Int)-(ng:Int))=false:=decide_eq_false hroom
     have HROOM:Hid ((sizeT (putT k v L):Int)<=room):=by show _<=_;rw [HSE.out];omega
     clear HFI HSIZE HT
     go_wp2_with (first
      | (
       at_builtin
       refine wpList_append_bytes w2 rfl _ _ 22 rfl 5 i8 (.int .u8 0) Tryz.underlying22 hi hz0 hz1 hz2 rfl w2 _ [] B k d rfl (by rw [HM.out];rfl) (Made.nil _ _) (HSK.out.below B2.out) (by rw [List.length_nil,HM.out];omega) ?_
       intro v3 w3 hm3 hb3
       obtain ⟨A3,c3,rfl,ha3⟩:=hm3.pieceIn (by rw [List.nil_append,HM.out];exact hm9)
       have Q3:Hid (PieceIn w3 (fun b=>b<w2.heap.size) (A3,k,c3)):=ha3
       have B23:Hid (Below w2.heap.size w2 w3):=hm3.2
       rw [show (([]:List UInt8)++k).length=m from HM.out]
       clear hm3 hb3 ha3)
      | (
       at_builtin
       refine wpList_append_bytes w3 rfl _ _ 22 rfl 5 i8 (.int .u8 0) Tryz.underlying22 hi hz0 hz1 hz2 rfl w3 _ [] V v dv rfl (by rw [HMV.out];rfl) (Made.nil _ _) (HSV.out.below (hop B2.out B23.out)) (by rw [List.length_nil,HMV.out];omega) ?_
       intro v4 w4 hm4 hb4
       obtain ⟨A4,c4,rfl,ha4⟩:=hm4.pieceIn (by rw [List.nil_append,HMV.out];exact hv9)
       have Q4:Hid (PieceIn w4 (fun b=>b<w3.heap.size) (A4,v,c4)):=ha4
       have B34:Hid (Below w3.heap.size w3 w4):=hm4.2
       rw [show (([]:List UInt8)++v).length=mv from HMV.out]
       have Q34:Hid (PieceIn w4 (fun b=>b<w2.heap.size) (A3,k,c3)):=Q3.out.below B34.out
       have BP:Hid (Below w4.heap.size w4 (w4.alloc (.cells #[.slice A3 m c3,.slice A4 mv c4] 123))):=(Below.refl _ _).alloc (Nat.le_refl _) _
       have KP:Hid (Blk (w4.alloc (.cells #[.slice A3 m c3,.slice A4 mv c4] 123)) w4.heap.size [.slice A3 m c3,.slice A4 mv c4] 123):=Blk.new w4 [.slice A3 m c3,.slice A4 mv c4] 123
       have B24:=Lib.hid (hop B23.out B34.out)
       have B4:=Lib.hid (hop B2.out B24.out)
       have BWP:=Lib.hid (hop B4.out BP.out)
       have hgp:=HB.out.below BWP.out HB.out.lt
       have y1:=hgp.cell (i:=1) (by simp)
       simp only [List.getElem_cons_zero,List.getElem_cons_succ] at y1
       clear hm4 hb4 ha4 hgp)
      | (
       at_builtin
       refine wpList_append_cells HR.out rfl _ _ rfl F w4.heap.size (.slice none 0 0) 0 [] (by rfl) (World.ownsRow_nil _ _ _ _) _ (rowCells 0 (els.take pl)) pl c (by rfl) HLT.out (CT.out.below BWP.out) (rowCells_one 0 _) (by omega) (by omega) BP.out.size ?_
       intro v6 w6 ho6 hg6
       rw [Nat.zero_add,List.nil_append] at ho6
       obtain ⟨A6,c6,rfl⟩:=own_shape ho6
       have O6:=Lib.hid ho6
       have B46:Hid (Below w4.heap.size w4 w6):=below_grown BP.out BP.out.size (World.ownsRow_nil _ w4.heap.size 123 2) hg6
       have KP6:=Lib.hid (Spared.blk (.of_grown (F:=fun _=>False) hg6 (fun k h _=>by cases h)) KP.out (fun h=>h))
       have B6:=Lib.hid (hop B4.out B46.out)
       have hgp:=HB.out.below B6.out HB.out.lt
       have p0:=KP6.out.cell (i:=0) (by simp)
       have p1:=KP6.out.cell (i:=1) (by simp)
       simp only [List.getElem_cons_zero,List.getElem_cons_succ] at p0 p1
       clear ho6 hg6 hgp)
      | (
       at_builtin
       refine wpList_append_cells HR.out rfl _ _ rfl F w4.heap.size (.slice A6 pl c6) pl (rowCells 0 (els.take pl)) (by rfl) (O6.out.alloc _) (some ⟨w6.heap.size,0,none⟩) [.slice A3 m c3,.slice A4 mv c4] 1 1 (by rfl) (by rfl) (cells_new w6 F [.slice A3 m c3,.slice A4 mv c4] 123 (fun h=>by have h1:=HF.out _ h;have h2:=B6.out.size;omega)) (two_one A3 m c3 A4 mv c4) (by omega) (by omega) (by have h2:=B46.out.size;simp;omega) ?_
       intro v7 w7 ho7 hg7
       obtain ⟨A7,c7,rfl⟩:=own_shape ho7
       have O7:=Lib.hid ho7
       have B47:Hid (Below w4.heap.size w4 w7):=below_grown (B46.out.alloc B46.out.size _) (by have h2:=B46.out.size;simp;omega) (O6.out.alloc _) hg7
       have B7:=Lib.hid (hop B4.out B47.out)
       have hgp:=HB.out.below B7.out HB.out.lt
       have z1:=hgp.cell (i:=1) (by simp)
       simp only [List.getElem_cons_zero,List.getElem_cons_succ] at z1
       clear ho7 hg7 hgp)
      | (
       at_builtin
       refine wpList_append_cells HR.out rfl _ _ rfl F w4.heap.size (.slice A7 (pl+1) c7) (pl+1) (rowCells 0 (els.take pl)++[.slice A3 m c3,.slice A4 mv c4]) (by rfl) O7.out A2 (rowCells 0 (els.drop (pl+1))) n2 c2 (by rfl) HLD.out (CD.out.below B7.out) (rowCells_one 0 _) (by omega) (by omega) B47.out.size ?_
       intro v8 w8 ho8 hg8
       have HQC:ecells 0 (mkPair (A3,k,c3) (A4,v,c4))=[.slice A3 m c3,.slice A4 mv c4]:=by rw [<-HM.out,<-HMV.out];rfl
       rw [HSUM.out,<-HQC,<-rowCells_single,<-rowCells_append,<-rowCells_append] at ho8
       obtain ⟨A8,c8,rfl⟩:=own_shape ho8
       have O8:=Lib.hid ho8
       have B48:Hid (Below w4.heap.size w4 w8):=below_grown B47.out B47.out.size O7.out hg8
       have B8:=Lib.hid (hop B4.out B48.out)
       have HB8:=Lib.hid (HB.out.below B8.out HB.out.lt)
       have u1:=HB8.out.cell (i:=1) (by simp)
       have f1:=HB8.out.free 1
       simp only [List.getElem_cons_zero,List.getElem_cons_succ] at u1
       clear ho8 hg8 HQC))
     go_ret
     have HFS:∀ b,F b->b<w2.heap.size:=fun b hb=>Nat.lt_of_lt_of_le (HF.out b hb) B2.out.size
     refine ⟨0,putT k v L,rfl,?_,(Spared.of_below B8.out (fun b=>b=gm)).setCell (g:=gm) rfl _ _,.inr ⟨HROOM.out,rfl,rfl⟩⟩
     refine map_stored (base:=w4.heap.size) (fun b hb=>Nat.lt_of_lt_of_le (HFS b hb) B24.out.size) HGF.out HPS.out (by rw [HPL.out];omega) (HEL.out (mkPair (A3,k,c3) (A4,v,c4)) rfl) HB8.out O8.out HPL.out ?_
     refine AllOk.append (AllOk.append ((HAO.out.take pl).below B8.out) ?_) ((HAO.out.drop (pl+1)).below B8.out)
     intro q hq
     rw [List.mem_singleton.1 hq]
     exact ⟨(Q34.out.below B48.out).mono HFS,(Q4.out.below B48.out).mono (fun b hb=>Nat.lt_of_lt_of_le (HFS b hb) B23.out.size)⟩
theorem step_append_cells {P:Program} {t e:TypeId} {s b:Nat} {i:TypeInfo} {z:Value} (R:RowTy P t e s b i z) {w:World} {ops:Array Oper} {o:Oper} {a:Act} {K:Act->World->Prop} {Q:Exit->Act->World->Prop} {E:Prop} (hgd:o.guard=none) (sx x:Operand)
 (ho:o.op= .call { callee:= .builtin .append,args:= #[sx,x],argTypes:= #[t,t] }) (F:Nat->Prop) (base:Nat) (v:Value) (n:Nat) (xs:List Value) (hs:a.eval sx=v) (hown:w.ownsRow base e s v n xs)
 (A:Option Addr) (C:List Value) (m c:Nat) (hx:a.eval x= .slice A m c) (hC:C.length=m*s) (hr:Cells w F A C) (h1:∀ u ∈ C,u.oneCell'=true) (hb:(n+m)*b<=140737488355328) (hm:n+m<=1000000) (hbase:base<=w.heap.size)
 (h:∀ v' w',w'.ownsRow base e s v' (n+m) (xs++C)->w.grownBy w' v.ownBlock->K (a.put o.dst v') w'):
 if Region.wanted o (yielded ops a.tmps)=true then Oper.wp P o a w K Q else E:=by
 have hw:Region.wanted o (yielded ops a.tmps)=true:=by simp [Region.wanted,hgd]
 rw [if_pos hw]
 obtain ⟨v',w',hrun,h2,h3⟩:=run_append_cells R o.type w F base v n xs hown A C m c hC hr h1 hb hm hbase
 unfold Oper.wp execOp
 simp only [ho,resolve,invoke,builtin,Sem.run_bind,Sem.run_pure,Result.andThen_ok,List.map_toArray,List.map_cons,List.map_nil,hs,hx,hrun]
 exact h v' w' h2 h3
end Go.Proofs.YtdaahapbpnjkfaaGreat
