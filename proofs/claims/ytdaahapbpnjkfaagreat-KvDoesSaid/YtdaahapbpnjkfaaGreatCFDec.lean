/-
What the program's Decode comes to: the frame that the bytes begin with, or none. Condition: the bytes are at most 2^46.
-/
import Derived.Test.YtdaahapbpnjkfaaGreatCKvRows
import Derived.Test.YtdaahapbpnjkfaaGreatCFEnc
import Derived.Deep.AppendLies
import Derived.Test.YtdaahapbpnjkfaaGreatCLgWrite
import Derived.Test.YtdaahapbpnjkfaaGreatCCatch
namespace Go.Proofs.YtdaahapbpnjkfaaGreat
open Go.RowKit
def PieceAt (w:World) (G:Nat->Prop) (q:Piece):Prop:=Away w G q.1 q.2.1/\q.2.1.length<=q.2.2/\q.2.1.length<=9223372036854775807
structure RecsAt (w:World) (f:TypeId) (G:Nat->Prop) (ps:List Piece) (v:Value):Prop where
 list:w.ownsRow 0 f 1 v ps.length (ps.map pv)
 far:∀ k,v.ownBlock=some k-> ¬ G k
 each:∀ q ∈ ps,PieceAt w (fun k=>G k\/v.ownBlock=some k) q
section
variable {w w1 w5 w':World} {f:TypeId} {G G':Nat->Prop} {ps:List Piece} {v:Value} {q:Piece}
theorem PieceAt.moved (h:PieceAt w G q) (hs:Spared w w' G) (hG:∀ k,G' k->G k\/w.heap.size<=k):PieceAt w' G' q:=⟨h.1.moved hs hG,h.2⟩
theorem PieceAt.still (h:PieceAt w G q) (hb:Below w.heap.size w w'):PieceAt w' G q:=h.moved (.of_below hb G) (fun _ h=> .inl h)
theorem PieceAt.mono (h:PieceAt w G q) (hG:∀ k,G' k->G k):PieceAt w G' q:=h.moved (.refl w G) (fun k hk=> .inl (hG k hk))
theorem RecsAt.nil (w:World) (f:TypeId) (G:Nat->Prop):RecsAt w f G [] (.slice none 0 0):=⟨World.ownsRow_nil _ _ _ _,(fun k e=>by cases e),(fun q hq=>by cases hq)⟩
theorem RecsAt.lt (h:RecsAt w f G ps v):∀ k,v.ownBlock=some k->k<w.heap.size:=fun k e=>(h.list.lt k e).2
theorem RecsAt.form (h:RecsAt w f G ps v):∃ A c,v= .slice A ps.length c:=own_form h.list
theorem RecsAt.moved (h:RecsAt w f G ps v) (hs:Spared w w' G) (hG:∀ k,G' k->G k\/w.heap.size<=k):RecsAt w' f G' ps v:=by
 have hlt:=h.lt
 refine ⟨?_,fun k e hk=>(hG k hk).elim (h.far k e) (fun h=>by have:=hlt k e;omega),fun q hq=> ?_⟩
 · refine ⟨h.list.1,?_⟩
   rcases h.list.2 with h0 | ⟨g,cap,cur,hv,hb,hg,rest⟩
   · exact .inl h0
   · exact .inr ⟨g,cap,cur,hv,hb,(hs.block g (hlt g (by rw [hv];rfl)) (h.far g (by rw [hv];rfl))).trans hg,rest⟩
 · exact (h.each q hq).moved (hs.mono (fun _ h=> .inl h)) (fun k hk=>hk.elim (fun h=>(hG k h).elim (fun h=> .inl (.inl h)) .inr) (fun h=> .inl (.inr h)))
theorem RecsAt.still (h:RecsAt w f G ps v) (hb:Below w.heap.size w w'):RecsAt w' f G ps v:=h.moved (.of_below hb G) (fun _ h=> .inl h)
theorem RecsAt.mono (h:RecsAt w f G ps v) (hG:∀ k,G' k->G k):RecsAt w f G' ps v:=h.moved (.refl w G) (fun k hk=> .inl (hG k hk))
theorem RecsAt.shown {A:Option Addr} {n c:Nat} (h:RecsAt w f G ps (.slice A n c)):SeenAll w A ps:=by
 rcases h.list.2 with ⟨hv,h0⟩ | ⟨g,cap,cur,hv,hb,hg,hnc,_⟩
 · exact .inl (List.eq_nil_of_length_eq_zero h0)
 · injection hv with hA _ hc
   subst hA
   refine .inr ⟨g,0,rfl,(h.list.lt g rfl).2,fun j hj=> ?_⟩
   obtain ⟨h1,h2,h3⟩:=h.each ps[j] (List.getElem_mem hj)
   have hcell:=h.list.cells (g:=g) rfl j (pv ps[j]) (by rw [List.getElem?_map,List.getElem?_eq_getElem hj];rfl)
   rw [add_plain] at hcell
   exact ⟨hcell,h1.seen,h2,h3⟩
theorem RecsAt.more {g c:Nat} (h:RecsAt w f G ps v) (hq:PieceAt w (fun k=>G k\/v.ownBlock=some k) q) (hlt:∀ k,G k->k<w.heap.size)
 (hown:w5.ownsRow 0 f 1 (.slice (some ⟨g,0,none⟩) (ps.length+1) c) (ps.length+1) (ps.map pv++[pv q])) (hgr:(w.alloc (.cells #[pv q] f)).grownBy w5 v.ownBlock) (hat:v.ownBlock=some g\/g=w.heap.size+1):
 RecsAt w5 f G (ps++[q]) (.slice (some ⟨g,0,none⟩) (ps.length+1) c)/\Spared w w5 (fun k=>v.ownBlock=some k):=by
 have hal:Below w.heap.size w (w.alloc (.cells #[pv q] f)):=(Below.refl _ _).alloc (Nat.le_refl _) _
 have hs:Spared w w5 (fun k=>v.ownBlock=some k):=(Spared.of_below hal _).trans (.of_grown hgr (F:=fun k=>v.ownBlock=some k) (fun k e _=>e)) (fun _ h=> .inl h)
 have hG:∀ k,(G k\/(some g:Option Nat)=some k)->(G k\/v.ownBlock=some k)\/w.heap.size<=k:=fun k hk=>by
  rcases hk with hk | hk
  · exact .inl (.inl hk)
  · injection hk with hk
    rcases hat with e | e
    · exact .inl (.inr (by rw [e,hk]))
    · exact .inr (by omega)
 refine ⟨⟨?_,fun k e=> ?_,fun x hx=> ?_⟩,hs⟩
 · rw [List.length_append,List.map_append];exact hown
 · injection e with e
   change g=k at e
   subst e
   rcases hat with e | e
   · exact h.far g e
   · intro hg;have:=hlt g hg;omega
 · rcases List.mem_append.1 hx with hx | hx
   · exact (h.each x hx).moved (hs.mono (fun _ h=> .inr h)) hG
   · rw [List.mem_singleton.1 hx];exact hq.moved (hs.mono (fun _ h=> .inr h)) hG
end
def lenOf:Value->Nat
 | .slice _ n _=>n
 | _=>0
theorem only_new {w w':World} {row:Option Nat} {g:Nat} (h:w.grownBy w' row) (hg:w.heap.size<=g) (i:Nat) (u:Value):w.grownBy (w'.setCell ⟨g,i,none⟩ u) row:=
 ⟨h.os,h.tape,h.output,by simpa [World.setCell] using h.size,fun k hk hne=>(heap_setCell_other w' ⟨g,i,none⟩ k u (fun e=>by simp only at e;omega)).trans (h.block k hk hne)⟩
theorem only_more {w w':World} {row:Option Nat} (h:w.grownBy w' row) (o:Obj):w.grownBy (w'.alloc o) row:=
 only_below h ((Below.refl _ _).alloc (Nat.le_refl _) o)
def Framed (w:World) (p:Nat) (F:Nat->Prop) (f:Int × Int × List UInt8) (e:Ending) (w':World):Prop:=
 ∃ A n c,e= .returned (.agg #[.int .i64 f.1,.int .i64 f.2.1,.slice A n c])/\f.2.2.length=n/\n<=c/\Away w' F A f.2.2/\w.grownBy w' (some p)
set_option maxRecDepth 100000 in
set_option maxHeartbeats 1000000 in
theorem frame_ok (w:World) (p:Nat) (F:Nat->Prop) (b0:UInt8) (r:List UInt8) (h:RdAt w p F (b0::r)) (hl:r.length<=140737488351232) (f:Int × Int × List UInt8) (hf:readR r=some f):
 Calls Tryz.prog 134 #[.pointer (some ⟨p,0,none⟩)] w (Framed w p F f):=by
 have HR:=Lib.hid (h.mono (G:=fun b=>F b\/w.heap.size<=b) (.inl h.1) (fun b hb=>hb))
 have hF:Hid (F p):=h.1
 obtain ⟨G,hG⟩:∃ G,G=fun b=>F b\/w.heap.size<=b:=⟨_,rfl⟩
 rw [<-hG] at HR
 have EG:=Lib.hid hG
 obtain ⟨h1,h2,h3,h4,h5,h6⟩:=readR_some hf
 obtain ⟨fg,fs,fd⟩:=f
 simp only at h3 h4 h5 h6
 have H3:=Lib.hid h3
 have H4:=Lib.hid h4
 have H5:=Lib.hid h5
 have H6:=Lib.hid h6
 have HN:=fun W (hr:RdAt W p G r)=>number_ok W p G r hr (by omega) h1
 generalize (getL r 0 0).2=k at *
 generalize (getL r 0 0).1=n at *
 have H2:=Lib.hid h2
 have HN':=Lib.hid HN
 clear h h1 h2 h3 h4 h5 h6 hf HN hG
 go_enter Tryz.func134,Tryz.ntmps134
 go_wp2_with fail
 refine (take_ok _ p G (b0::r) 1 1 rfl ?h1 (by simp)).mono ?_
 case h1=>exact HR.out.below ((Below.refl _ _).alloc (Nat.le_refl _) _)
 rintro e w1 ⟨A1,c1,rfl,_,_,hr1,hg1⟩
 have HR1:Hid (RdAt w1 p G r):=hr1
 have HG1:=Lib.hid hg1
 clear hr1 hg1
 go_wp2_with fail
 refine (HN'.out w1 HR1.out).mono ?_
 rintro e w2 ⟨rfl,hr2,hg2⟩
 have HR2:=Lib.hid hr2
 have HG2:=Lib.hid hg2
 clear hr2 hg2
 go_wp2_with fail
 refine (wide_ok w2 p G _ HR2.out ?h2).mono ?_
 case h2=>have:=H2.out;omega
 rintro e w3 ⟨rfl,hr3,hg3⟩
 have HR3:=Lib.hid hr3
 have HG3:=Lib.hid hg3
 clear hr3 hg3
 go_wp2_with fail
 refine (wide_ok w3 p G _ HR3.out ?h3).mono ?_
 case h3=>have:=H2.out;rw [List.length_drop];omega
 rintro e w4 ⟨rfl,hr4,hg4⟩
 have HR4:=Lib.hid hr4
 have HG4:=Lib.hid hg4
 clear hr4 hg4
 rw [<-H5.out,<-H6.out]
 go_wp2_with fail
 refine (take_ok _ p G (List.drop 8 (List.drop 8 (List.drop k r))) n _ rfl ?h5 ?h6).mono ?_
 case h5=>exact HR4.out.below ((Below.refl _ _).alloc (Nat.le_refl _) _)
 case h6=>have:=H2.out;simp only [List.length_drop] at this ⊢;omega
 rintro e w5 ⟨A5,c5,rfl,ha5,hc5,_,hg5⟩
 have HA5:Hid (Away w5 G A5 fd):=by show Away _ _ _ _;rw [H4.out];exact ha5
 have HG5:=Lib.hid hg5
 clear ha5 hg5
 -- the two new blocks,behind all that
 have hp:p<w.heap.size:=by
  have:=HR.out.lt;exact this
 have B0:=Blk.new w [.int .i64 0,.int .i64 0,.slice none 0 0] 134
 have B1:=B0.only HG1.out (by omega)
 have B2:=B1.only HG2.out (by omega)
 have B3:=B2.only HG3.out (by omega)
 have B4:=(B3.only HG4.out (by omega)).alloc (.cells #[.int .i64 fg,.int .i64 fs,.slice none 0 0] 134)
 have B5:=B4.only HG5.out (by omega)
 have s1:=HG1.out.size
 have s2:=HG2.out.size
 have s3:=HG3.out.size
 have s4:=HG4.out.size
 have s5:=HG5.out.size
 simp only [World.size_alloc] at s1 s5
 have C5:=(Blk.new w4 [.int .i64 fg,.int .i64 fs,.slice none 0 0] 134).only HG5.out (by omega)
 have r0:=B5.cell (i:=0) (by simp)
 have r1:=B5.cell (i:=1) (by simp)
 have r2:=B5.cell (i:=2) (by simp)
 have f0:=B5.free 0
 have f1:=B5.free 1
 have f2:=B5.free 2
 have q0:=C5.cell (i:=0) (by simp)
 have q1:=C5.cell (i:=1) (by simp)
 have q2:=C5.cell (i:=2) (by simp)
 have g2:=C5.free 2
 simp only [List.getElem_cons_zero,List.getElem_cons_succ] at r0 r1 r2 q0 q1 q2
 have hne: ¬ w.heap.size=w4.heap.size:=by omega
 have hne': ¬ w4.heap.size=w.heap.size:=by omega
 have HS:=Lib.hid (And.intro s1 (And.intro s2 (And.intro s3 (And.intro s4 s5))))
 clear B0 B1 B2 B3 B4 B5 C5 s1 s2 s3 s4 s5
 go_wp2_with fail
 have hs4:w.heap.size<=w4.heap.size:=by have:=HS.out;omega
 refine bodyPost_ret (v:= .agg #[.int .i64 fg,.int .i64 fs,.slice A5 n c5]) (by simp [results,Tryz.results134,go_sem,r0,r1,r2]) rfl ⟨A5,n,c5,rfl,H3.out,hc5,?_,?_⟩
 · have hg:∀ k,w.heap.size<=k->G k:=fun k hk=>by rw [EG.out];exact .inr hk
   refine HA5.out.moved (((((Spared.refl w5 G).setCell (hg _ hs4) 2 _).setCell (hg _ (Nat.le_refl _)) 0 _).setCell (hg _ (Nat.le_refl _)) 1 _).setCell (hg _ (Nat.le_refl _)) 2 _) (fun i hi=> .inl ?_)
   rw [EG.out];exact .inl hi
 · refine only_new (only_new (only_new (only_new ?_ hs4 2 _) (Nat.le_refl _) 0 _) (Nat.le_refl _) 1 _) (Nat.le_refl _) 2 _
   exact only_trans (only_more (only_trans (only_trans (only_trans (only_trans (only_more (World.grownBy.refl w _) _) HG1.out) HG2.out) HG3.out) HG4.out) _) HG5.out
set_option maxRecDepth 100000 in
set_option maxHeartbeats 1000000 in
theorem frame_no (w:World) (p:Nat) (F:Nat->Prop) (b:List UInt8) (h:RdAt w p F b) (hl:b.length<=140737488351232) (hf:readF b=none):
 Calls Tryz.prog 134 #[.pointer (some ⟨p,0,none⟩)] w fun e w'=>e=wrong/\w.grownBy w' (some p):=by
 have HR:=Lib.hid (h.below ((Below.refl w.heap.size w).alloc (Nat.le_refl _) (.cells #[.int .i64 0,.int .i64 0,.slice none 0 0] 134)))
 have HO:=Lib.hid (only_more (World.grownBy.refl w (some p)) (.cells #[.int .i64 0,.int .i64 0,.slice none 0 0] 134))
 clear h
 generalize hW:w.alloc (.cells #[.int .i64 0,.int .i64 0,.slice none 0 0] 134)=W at HR HO
 have HW:=Lib.hid hW
 clear hW
 cases b with
 | nil=>
  go_enter Tryz.func134,Tryz.ntmps134
  go_wp2_with fail
  rw [HW.out]
  refine (take_no W p F [] 1 1 rfl HR.out (by simp)).mono ?_
  rintro e w1 ⟨rfl,rfl⟩
  go_wp2_with fail
  exact ⟨rfl,rfl,HO.out⟩
 | cons b0 r=>
  have hl':r.length<=140737488351232:=by simp at hl;omega
  clear hl
  have hf':readR r=none:=hf
  clear hf
  unfold readR at hf'
  have HT:=Lib.hid (take_ok W p F (b0::r) 1 1 rfl HR.out (by simp))
  by_cases hk:(getL r 0 0).2=0
  · have HK:=Lib.hid hk
    clear hk hf'
    go_enter Tryz.func134,Tryz.ntmps134
    go_wp2_with fail
    rw [HW.out]
    refine HT.out.mono ?_
    rintro e w1 ⟨A1,c1,rfl,_,_,hr1,hg1⟩
    have HG1:=Lib.hid hg1
    have HR1:=Lib.hid hr1
    clear hg1 hr1
    go_wp2_with fail
    refine (number_no w1 p F r HR1.out (by omega) HK.out).mono ?_
    rintro e w2 ⟨rfl,rfl⟩
    go_wp2_with fail
    exact ⟨rfl,rfl,only_trans HO.out HG1.out⟩
  · rw [if_neg hk] at hf'
    split at hf'
    · rename_i hlt
      have HN:=Lib.hid fun W (hr:RdAt W p F r)=>number_ok W p F r hr (by omega) hk
      generalize (getL r 0 0).2=k at *
      generalize (getL r 0 0).1=n at *
      have HL:=Lib.hid hlt
      clear hk hf' hlt
      by_cases h8:(r.drop k).length<8
      · have H8:=Lib.hid h8
        clear h8
        go_enter Tryz.func134,Tryz.ntmps134
        go_wp2_with fail
        rw [HW.out]
        refine HT.out.mono ?_
        rintro e w1 ⟨A1,c1,rfl,_,_,hr1,hg1⟩
        have HG1:=Lib.hid hg1
        have HR1:=Lib.hid hr1
        clear hg1 hr1
        go_wp2_with fail
        refine (HN.out w1 HR1.out).mono ?_
        rintro e w2 ⟨rfl,hr2,hg2⟩
        have HG2:=Lib.hid hg2
        have HR2:=Lib.hid hr2
        clear hg2 hr2
        go_wp2_with fail
        refine (wide_no w2 p F _ HR2.out H8.out).mono ?_
        rintro e w3 ⟨rfl,rfl⟩
        go_wp2_with fail
        exact ⟨rfl,rfl,only_trans (only_trans HO.out HG1.out) HG2.out⟩
      · by_cases h16:((r.drop k).drop 8).length<8
        · have H8:=Lib.hid h8
          have H16:=Lib.hid h16
          clear h8 h16
          go_enter Tryz.func134,Tryz.ntmps134
          go_wp2_with fail
          rw [HW.out]
          refine HT.out.mono ?_
          rintro e w1 ⟨A1,c1,rfl,_,_,hr1,hg1⟩
          have HG1:=Lib.hid hg1
          have HR1:=Lib.hid hr1
          clear hg1 hr1
          go_wp2_with fail
          refine (HN.out w1 HR1.out).mono ?_
          rintro e w2 ⟨rfl,hr2,hg2⟩
          have HG2:=Lib.hid hg2
          have HR2:=Lib.hid hr2
          clear hg2 hr2
          go_wp2_with fail
          refine (wide_ok w2 p F _ HR2.out ?h8).mono ?_
          case h8=>have:=H8.out;omega
          rintro e w3 ⟨rfl,hr3,hg3⟩
          have HG3:=Lib.hid hg3
          have HR3:=Lib.hid hr3
          clear hg3 hr3
          go_wp2_with fail
          refine (wide_no w3 p F _ HR3.out H16.out).mono ?_
          rintro e w4 ⟨rfl,rfl⟩
          go_wp2_with fail
          exact ⟨rfl,rfl,only_trans (only_trans (only_trans HO.out HG1.out) HG2.out) HG3.out⟩
        · have H8:=Lib.hid h8
          have H16:=Lib.hid h16
          clear h8 h16
          go_enter Tryz.func134,Tryz.ntmps134
          go_wp2_with fail
          rw [HW.out]
          refine HT.out.mono ?_
          rintro e w1 ⟨A1,c1,rfl,_,_,hr1,hg1⟩
          have HG1:=Lib.hid hg1
          have HR1:=Lib.hid hr1
          clear hg1 hr1
          go_wp2_with fail
          refine (HN.out w1 HR1.out).mono ?_
          rintro e w2 ⟨rfl,hr2,hg2⟩
          have HG2:=Lib.hid hg2
          have HR2:=Lib.hid hr2
          clear hg2 hr2
          go_wp2_with fail
          refine (wide_ok w2 p F _ HR2.out ?h8).mono ?_
          case h8=>have:=H8.out;omega
          rintro e w3 ⟨rfl,hr3,hg3⟩
          have HG3:=Lib.hid hg3
          have HR3:=Lib.hid hr3
          clear hg3 hr3
          go_wp2_with fail
          refine (wide_ok w3 p F _ HR3.out ?h9).mono ?_
          case h9=>have:=H16.out;omega
          rintro e w4 ⟨rfl,hr4,hg4⟩
          have HG4:=Lib.hid hg4
          have HR4:=Lib.hid hr4
          clear hg4 hr4
          go_wp2_with fail
          refine (take_no _ p F (List.drop 8 (List.drop 8 (List.drop k r))) n _ rfl ?h5 ?h6).mono ?_
          case h5=>exact HR4.out.below ((Below.refl _ _).alloc (Nat.le_refl _) _)
          case h6=>have:=HL.out;have:=H16.out;have:=H8.out;simp only [List.length_drop] at *;omega
          rintro e w5 ⟨rfl,rfl⟩
          go_wp2_with fail
          exact ⟨rfl,rfl,only_more (only_trans (only_trans (only_trans (only_trans HO.out HG1.out) HG2.out) HG3.out) HG4.out) _⟩
    · cases hf'
def eqB (a b:List UInt8):Bool:=decide (a=b)
def preB (l p:List UInt8):Bool:=decide (l.take p.length=p)
theorem bytesEqual_any (A B:Option Addr) (a b:List UInt8) (n c m k:Nat) (w:World) (hn:a.length=n) (hm:b.length=m) (ha:Seen w A a) (hb:Seen w B b):
 Calls Tryz.prog 155 #[.slice A n c,.slice B m k] w fun e w'=>e= .returned (.bool (eqB a b))/\w=w':=by
 have ua:=text_on ha n c hn w (Below.refl _ _)
 have ub:=text_on hb m k hm w (Below.refl _ _)
 have HT:Hid ((a==b)=eqB a b):=by show _=_;unfold eqB;rw [Bool.eq_iff_iff,beq_iff_eq,decide_eq_true_iff]
 clear ha hb hn hm
 go_enter Tryz.func155,Tryz.ntmps155
 go_wp2_with fail
 go_ret
 exact ⟨ret_bool HT.out,rfl⟩
theorem hasPrefix_any (A B:Option Addr) (l p:List UInt8) (n c m k:Nat) (w:World) (hn:l.length=n) (hc:n<=c) (hm:p.length=m) (ha:Seen w A l) (hp:Seen w B p):
 Calls Tryz.prog 135 #[.slice A n c,.slice B m k] w fun e w'=>e= .returned (.bool (preB l p))/\w=w':=by
 by_cases hlt:m<=n
 · have HE:Hid (eqB (l.take m) p=preB l p):=by show _=_;unfold eqB preB;rw [hm]
   have HC:=Lib.hid (bytesEqual_any A B (l.take m) p m c m k w (by rw [List.length_take];omega) hm (ha.take m) hp)
   have hcut:=cut_head A n c m (by omega)
   have ht:decide ((m:Int)<=(n:Int))=true:=decide_eq_true (by omega)
   clear ha hp hn hm
   go_enter Tryz.func135,Tryz.ntmps135
   go_wp2_with fail
   refine HC.out.mono ?_
   rintro e w' ⟨rfl,rfl⟩
   go_wp2_with fail
   go_ret
   exact ⟨ret_bool HE.out,rfl⟩
 · have HE:Hid (preB l p=false):=decide_eq_false (fun e=>by have:=congrArg List.length e;rw [List.length_take] at this;omega)
   have ht:decide ((m:Int)<=(n:Int))=false:=decide_eq_false (by omega)
   clear ha hp hn hm
   go_enter Tryz.func135,Tryz.ntmps135
   go_wp2_with fail
   go_ret
   exact ⟨ret_bool HE.out.symm,rfl⟩
def outF (D:Option (Int × Int × List UInt8)):Int × Int × List UInt8:=D.getD (0,0,[])
def sizeF (D:Option (Int × Int × List UInt8)):Nat:=
 match D with
 | none=>0
 | some f=>(frameL f.1 f.2.1 f.2.2).length
def DecodeOut (w:World) (D:Option (Int × Int × List UInt8)) (e:Ending) (w':World):Prop:=
 ∃ A n c,e= .returned (.tuple #[.agg #[.int .i64 (outF D).1,.int .i64 (outF D).2.1,.slice A n c],.int .i64 (sizeF D:Nat)])/\MadeN 5 w (outF D).2.2 A n c w'
theorem below_only {w0 w w':World} {g:Nat} (h:Below w0.heap.size w0 w) (hg:w.grownBy w' (some g)) (hn:w0.heap.size<=g):Below w0.heap.size w0 w':=
 h.grown hg h.size (fun k hk=>by injection hk with hk;omega)
theorem madeN_none {w w':World} (h:Below w.heap.size w w'):MadeN 5 w [] none 0 0 w':=⟨rfl,World.ownsRow_nil _ _ _ _,h⟩
set_option maxRecDepth 100000 in
set_option maxHeartbeats 2000000 in
theorem decode_any (A:Option Addr) (b:List UInt8) (c:Nat) (w:World) (hs:Seen w A b) (hc:b.length<=c) (hb:b.length<=140737488351232):
 Calls Tryz.prog 104 #[.slice A b.length c] w (DecodeOut w (decF b)):=by
 have hmf:∀ (fn:Fn) (first cap:Array Value) (w:World),(Instr.makeFunc fn first cap).run Tryz.prog w= .ok (.func fn first cap) w:=fun _ _ _ _=>rfl
 obtain ⟨D,hD⟩:∃ D,D=decF b:=⟨_,rfl⟩
 rw [<-hD]
 -- the three new blocks
 have B1:=((Blk.new w [.int .i64 0,.int .i64 0,.slice none 0 0] 134).alloc (.cells #[.int .i64 0] 3)).alloc (.cells #[.slice A b.length c] 168)
 have B2:=(Blk.new (w.alloc (.cells #[.int .i64 0,.int .i64 0,.slice none 0 0] 134)) [.int .i64 0] 3).alloc (.cells #[.slice A b.length c] 168)
 have B3:=Blk.new ((w.alloc (.cells #[.int .i64 0,.int .i64 0,.slice none 0 0] 134)).alloc (.cells #[.int .i64 0] 3)) [.slice A b.length c] 168
 have HBW:Below w.heap.size w (((w.alloc (.cells #[.int .i64 0,.int .i64 0,.slice none 0 0] 134)).alloc (.cells #[.int .i64 0] 3)).alloc (.cells #[.slice A b.length c] 168)):=
  (((Below.refl _ _).alloc (Nat.le_refl _) _).alloc (by simp) _).alloc (by simp;omega) _
 obtain ⟨W,hW⟩:∃ W,W=(((w.alloc (.cells #[.int .i64 0,.int .i64 0,.slice none 0 0] 134)).alloc (.cells #[.int .i64 0] 3)).alloc (.cells #[.slice A b.length c] 168)):=⟨_,rfl⟩
 have hz3:W.heap.size=w.heap.size+3:=by rw [hW];simp
 have B1':Blk W w.heap.size [.int .i64 0,.int .i64 0,.slice none 0 0] 134:=by rw [hW];exact B1
 have B2':Blk W (w.heap.size+1) [.int .i64 0] 3:=by rw [hW];have:=B2;simp only [World.size_alloc] at this;exact this
 have B3':Blk W (w.heap.size+1+1) [.slice A b.length c] 168:=by rw [hW];have:=B3;simp only [World.size_alloc] at this;exact this
 rw [<-hW] at HBW
 have HR:RdAt W (w.heap.size+1+1) (fun k=>w.heap.size<=k) b:=
  ⟨by show w.heap.size<=_;omega,A,c,B3',(Away.of_seen hs (fun b off _ hlt=>by show ¬ w.heap.size<=b;omega)).moved (Spared.of_below HBW _) (fun i hi=> .inl hi),hc⟩
 have H1:=Lib.hid B1'
 have H2:=Lib.hid B2'
 have HBW':=Lib.hid HBW
 have HZ:=Lib.hid hz3
 have HW:=Lib.hid hW
 have HS:=Lib.hid hs
 rcases hrd:readF b with _ | f
 · have HP:=Lib.hid (frame_no W (w.heap.size+1+1) _ b HR hb hrd)
   have HE:Hid (D=none):=by show _=_;rw [hD];unfold decF;rw [hrd]
   clear hs hc B1 B2 B3 hW B1' B2' B3' HBW HR hz3 hD hrd
   go_enter_defers Tryz.func104,Tryz.ntmps104
   go_wp2_with fail
   rw [<-HW.out]
   refine HP.out.mono ?_
   rintro e w1 ⟨rfl,hg1⟩
   have HG:=Lib.hid hg1
   have C1:=H1.out.only hg1 (by omega)
   have C2:=H2.out.only hg1 (by omega)
   have r0:=C1.cell (i:=0) (by simp)
   have r1:=C1.cell (i:=1) (by simp)
   have r2:=C1.cell (i:=2) (by simp)
   have r3:=C2.cell (i:=0) (by simp)
   have f0:=C1.free 0
   have f1:=C1.free 1
   have f2:=C1.free 2
   have f3:=C2.free 0
   simp only [List.getElem_cons_zero,List.getElem_cons_succ] at r0 r1 r2 r3
   clear hg1 C1 C2
   go_wp2_with fail
   refine leaves_cons (f:=133) (args:= #[.pointer (some ⟨w.heap.size,0,none⟩),.pointer (some ⟨w.heap.size+1,0,none⟩)]) (by simp) (by simp [go_sem]) ?_
   refine (decodeCatch_wrong w.heap.size (w.heap.size+1) [] w1 _ _ _ 0 r0 r1 r2 f0 f1 f2 r3 f3 (by omega)).mono ?_
   rintro e u' w' ⟨rfl,rfl,rfl⟩
   simp [Leaves,settle,results,Tryz.results104,go_sem,r0,r1,r2,r3]
   have hb':=below_only HBW'.out HG.out (by omega)
   rw [HE.out]
   exact ⟨none,0,0,rfl,madeN_none ((((hb'.setCell (Nat.le_refl _) _).setCell (Nat.le_refl _) _).setCell (Nat.le_refl _) _).setCell (by simp) _)⟩
 · cases b with
   | nil=>cases hrd
   | cons b0 r=>
    have hrr:readR r=some f:=hrd
    have HP:=Lib.hid (frame_ok W (w.heap.size+1+1) _ b0 r HR (by simp at hb;omega) f hrr)
    have hfd:=(readR_some hrr).2.2.1
    have hfl:f.2.2.length<=r.length:=by
     have h3:=(readR_some hrr).2.1
     rw [List.length_drop] at h3;omega
    have hf1:=(readR_some hrr).2.2.2.2.1
    have hf2:=(readR_some hrr).2.2.2.2.2
    have g0: -9223372036854775808<=f.1/\f.1<=9223372036854775807:=by rw [hf1];exact narI_range _
    have s0: -9223372036854775808<=f.2.1/\f.2.1<=9223372036854775807:=by rw [hf2];exact narI_range _
    obtain ⟨fg,fs,fd⟩:=f
    simp only at hfl g0 s0
    have hfd47:fd.length<=140737488351232:=by simp at hb;omega
    have HDD:Hid (D=if mayB fg fs fd.length=true/\(b0::r).take (frameL fg fs fd).length=frameL fg fs fd then some (fg,fs,fd) else none):=by
     show _=_;rw [hD];unfold decF;rw [hrd]
    have HC:=Lib.hid hc
    clear hs hc B1 B2 B3 hW B1' B2' B3' HBW HR hz3 hD hrd hrr hfd hf1 hf2 hfl
    generalize (b0::r)=b at *
    go_enter_defers Tryz.func104,Tryz.ntmps104
    go_wp2_with fail
    rw [<-HW.out]
    refine HP.out.mono ?_
    rintro e w1 ⟨A1,n1,c1,rfl,hn1,hc1,ha1,hg1⟩
    simp only at hn1 ha1
    have HN1:=Lib.hid hn1
    have HZ':=HZ.out
    have hs1:=hg1.size
    have HB1:Hid (Below w.heap.size w (w1.alloc (.cells #[.int .i64 fg,.int .i64 fs,.slice A1 n1 c1] 134))):=(below_only HBW'.out hg1 (by omega)).alloc (by omega) _
    have HA1:Hid (Seen (w1.alloc (.cells #[.int .i64 fg,.int .i64 fs,.slice A1 n1 c1] 134)) A1 fd):=ha1.seen.alloc _
    have C1:=(H1.out.only hg1 (by omega)).alloc (.cells #[.int .i64 fg,.int .i64 fs,.slice A1 n1 c1] 134)
    have C2:=(H2.out.only hg1 (by omega)).alloc (.cells #[.int .i64 fg,.int .i64 fs,.slice A1 n1 c1] 134)
    have C3:=Blk.new w1 [.int .i64 fg,.int .i64 fs,.slice A1 n1 c1] 134
    obtain ⟨W1,hW1⟩:∃ W1,W1=w1.alloc (.cells #[.int .i64 fg,.int .i64 fs,.slice A1 n1 c1] 134):=⟨_,rfl⟩
    have hzW1:W1.heap.size=w1.heap.size+1:=by rw [hW1];simp
    have HW1:=Lib.hid hW1
    have C3':Blk W1 w1.heap.size [.int .i64 fg,.int .i64 fs,.slice A1 n1 c1] 134:=by rw [hW1];exact C3
    rw [<-hW1] at HB1 HA1 C1 C2
    have HSZ:=Lib.hid (And.intro HZ' (And.intro hs1 hzW1))
    have H1':=Lib.hid C1
    have H2':=Lib.hid C2
    have H3':=Lib.hid C3'
    clear hn1 ha1 hg1 HZ' hs1 C1 C2 C3 C3' hW1 hzW1
    go_wp2_with fail
    rw [<-HW1.out]
    refine (encode_any fg fs A1 fd n1 c1 W1 HA1.out HN1.out (by have:=HN1.out;omega) g0.1 g0.2 s0.1 s0.2).mono ?_
    rintro e w2 ⟨A2,n2,c2,rfl,hm2⟩
    have HM2:=Lib.hid hm2
    have hb2:=hm2.2.2
    have C1:=H1'.out.below hb2 H1'.out.lt
    have C2:=H2'.out.below hb2 H2'.out.lt
    have C3:=H3'.out.below hb2 H3'.out.lt
    have HB2:Hid (Below w.heap.size w w2):=HB1.out.trans (hb2.mono HB1.out.size)
    have hs2:=hb2.size
    have r0:=C1.cell (i:=0) (by simp)
    have r1:=C1.cell (i:=1) (by simp)
    have r2:=C1.cell (i:=2) (by simp)
    have r3:=C2.cell (i:=0) (by simp)
    have f0:=C1.free 0
    have f1:=C1.free 1
    have f2:=C1.free 2
    have f3:=C2.free 0
    simp only [List.getElem_cons_zero,List.getElem_cons_succ] at r0 r1 r2 r3
    have HC1:=Lib.hid C1
    have HC2:=Lib.hid C2
    have HC3:=Lib.hid C3
    have HS2:=Lib.hid hs2
    have hzf:=zeroFrame
    clear hm2 hb2 C1 C2 C3 hs2
    by_cases hm:mayB fg fs fd.length=true
    · have hn0:Hid (n2=(frameL fg fs fd).length):=by show _=_;rw [<-HM2.out.1,encF_may hm]
      have hpos:=frameL_pos fg fs fd
      have t0:((n2:Int)==0)=false:=by rw [beq_eq_false_iff_ne];have:=hn0.out;omega
      have HSb:Hid (Seen w2 A b):=(HS.out.below HB2.out)
      have HPRE:=Lib.hid (hasPrefix_any A A2 b (encF fg fs fd) b.length c n2 c2 w2 rfl HC.out HM2.out.1 HSb.out HM2.out.seen)
      by_cases hp:b.take (frameL fg fs fd).length=frameL fg fs fd
      · have HDS:Hid (D=some (fg,fs,fd)):=by show _=_;rw [HDD.out,if_pos ⟨hm,hp⟩]
        have hpb:preB b (encF fg fs fd)=true:=by rw [encF_may hm];exact decide_eq_true hp
        rw [hpb] at HPRE
        clear hpb hp hm HDD hpos
        go_wp2_with fail
        refine HPRE.out.mono ?_
        rintro e w2' ⟨rfl,rfl⟩
        have q2:=HC3.out.cell (i:=2) (by simp)
        simp only [List.getElem_cons_zero,List.getElem_cons_succ] at q2
        go_wp2_with fail
        refine (clone_made A1 fd n1 c1 w2 HN1.out (by have:=HN1.out;omega) (HA1.out.below HM2.out.2.2)).mono ?_
        rintro e w3 ⟨A3,c3,rfl,hm3⟩
        have HM3:=Lib.hid hm3
        have hb3:=hm3.2
        have C1:=HC1.out.below hb3 HC1.out.lt
        have C2:=HC2.out.below hb3 HC2.out.lt
        have C3:=HC3.out.below hb3 HC3.out.lt
        clear r0 r1 r2 r3 f0 f1 f2 f3 q2
        have r0:=C1.cell (i:=0) (by simp)
        have r1:=C1.cell (i:=1) (by simp)
        have r2:=C1.cell (i:=2) (by simp)
        have r3:=C2.cell (i:=0) (by simp)
        have f0:=C1.free 0
        have f1:=C1.free 1
        have f2:=C1.free 2
        have f3:=C2.free 0
        have q0:=C3.cell (i:=0) (by simp)
        have q1:=C3.cell (i:=1) (by simp)
        have q2:=C3.cell (i:=2) (by simp)
        have z2:=C3.free 2
        simp only [List.getElem_cons_zero,List.getElem_cons_succ] at r0 r1 r2 r3 q0 q1 q2
        have h1:=HSZ.out.1
        have h2:=HSZ.out.2.1
        have d1: ¬ w1.heap.size=w.heap.size:=by omega
        have d2: ¬ w.heap.size=w1.heap.size:=by omega
        have d3: ¬ w1.heap.size=w.heap.size+1:=by omega
        have d4: ¬ w.heap.size+1=w1.heap.size:=by omega
        have HB3:Hid (Below w.heap.size w w3):=HB2.out.trans (hb3.mono HB2.out.size)
        clear hm3 hb3 C1 C2 C3 h1 h2
        go_wp2_with fail
        refine leaves_cons (f:=133) (args:= #[.pointer (some ⟨w.heap.size,0,none⟩),.pointer (some ⟨w.heap.size+1,0,none⟩)]) (by simp) (by simp [go_sem]) ?_
        refine (decodeCatch_idle _ _ _).mono ?_
        rintro e u' w' ⟨rfl,rfl,rfl⟩
        simp [Leaves,settle,results,Tryz.results104,go_sem,r0,r1,r2,r3]
        have h1:=HSZ.out
        have h2:=HS2.out
        have k1:w1.heap.size<w2.heap.size:=by omega
        have k2:w.heap.size<w2.heap.size:=by omega
        have k3:w.heap.size+1<w2.heap.size:=by omega
        rw [HDS.out]
        have e1:sizeF (some (fg,fs,fd))=n2:=hn0.out.symm
        refine ⟨A3,n1,c3,by rw [e1];rfl,HN1.out,HM3.out.finish (by omega) ?_ ?_⟩
        · exact (((((Spared.refl w3 (fun b=>b<w2.heap.size)).setCell k1 2 _).setCell k2 0 _).setCell k2 1 _).setCell k2 2 _).setCell k3 0 _
        · exact ((((HB3.out.setCell (by simp only;omega) _).setCell (Nat.le_refl _) _).setCell (Nat.le_refl _) _).setCell (Nat.le_refl _) _).setCell (by simp) _
      · have HDS:Hid (D=none):=by show _=_;rw [HDD.out,if_neg (fun h=>hp h.2)]
        have hpb:preB b (encF fg fs fd)=false:=by rw [encF_may hm];exact decide_eq_false hp
        rw [hpb] at HPRE
        clear hpb hp hm HDD hpos
        go_wp2_with fail
        refine HPRE.out.mono ?_
        rintro e w2' ⟨rfl,rfl⟩
        go_wp2_with fail
        refine leaves_cons (f:=133) (args:= #[.pointer (some ⟨w.heap.size,0,none⟩),.pointer (some ⟨w.heap.size+1,0,none⟩)]) (by simp) (by simp [go_sem]) ?_
        refine (decodeCatch_idle _ _ _).mono ?_
        rintro e u' w' ⟨rfl,rfl,rfl⟩
        simp [Leaves,settle,results,Tryz.results104,go_sem,r0,r1,r2,r3]
        rw [HDS.out]
        exact ⟨none,0,0,rfl,madeN_none ((((HB2.out.setCell (Nat.le_refl _) _).setCell (Nat.le_refl _) _).setCell (Nat.le_refl _) _).setCell (by simp) _)⟩
    · have hmf':mayB fg fs fd.length=false:=by simpa using hm
      have HDS:Hid (D=none):=by show _=_;rw [HDD.out,if_neg (fun h=>hm h.1)]
      have hn0:n2=0:=by rw [<-HM2.out.1,encF_not hmf'];rfl
      have HM2':=Lib.hid HM2.out
      clear hm hmf' HDD HM2 HM2'
      subst hn0
      go_wp2_with fail
      refine leaves_cons (f:=133) (args:= #[.pointer (some ⟨w.heap.size,0,none⟩),.pointer (some ⟨w.heap.size+1,0,none⟩)]) (by simp) (by simp [go_sem]) ?_
      refine (decodeCatch_idle _ _ _).mono ?_
      rintro e u' w' ⟨rfl,rfl,rfl⟩
      simp [Leaves,settle,results,Tryz.results104,go_sem,r0,r1,r2,r3]
      rw [HDS.out]
      exact ⟨none,0,0,rfl,madeN_none ((((HB2.out.setCell (Nat.le_refl _) _).setCell (Nat.le_refl _) _).setCell (Nat.le_refl _) _).setCell (by simp) _)⟩
end Go.Proofs.YtdaahapbpnjkfaaGreat
