/-
What Behind comes to, the program's and the document's. Condition: the prefix is at most 2^47 bytes.
-/
import Derived.Test.YtdaahapbpnjkfaaGreatCTrStep
import Derived.Test.YtdaahapbpnjkfaaGreatCTrScan
import Derived.BigQuiet
import Derived.Laws.Cover1
import Derived.Test.YtdaahapbpnjkfaaGreatCRkC
import Derived.Test.YtdaahapbpnjkfaaGreatCRefBegins
import Derived.Test.YtdaahapbpnjkfaaGreatChecked
import Derived.Test.YtdaahapbpnjkfaaGreatCOnly
import Derived.Lib.SliceRun
namespace Go.Proofs.YtdaahapbpnjkfaaGreat
open Go.RowKit
def pick (fr tz:Key) (x:Kv):Bool:=upTo tz x&& !ltK x.1 fr
theorem visit_take (tz:Key) (mo:Int):∀ (l acc:List Kv),Srt l->(acc.length:Int)<mo->(visit tz mo acc l).1=acc++(l.filter (upTo tz)).take (mo.toNat-acc.length):=by
 intro l
 induction l with
 | nil=>intro acc _ _;rw [List.filter_nil,List.take_nil,List.append_nil];rfl
 | cons x r ih=>
  intro acc hs h
  rw [Srt.cons] at hs
  by_cases hx:upTo tz x=true
  · have hsee:see tz mo acc x=(acc++[x],decide ((acc.length:Int)+1<mo)):=by
     unfold see
     rw [if_neg]
     rintro ⟨h1,h2⟩
     unfold upTo at hx
     rw [h2,Bool.or_false,List.isEmpty_iff] at hx
     exact h1 hx
    rw [visit,hsee,List.filter_cons_of_pos hx]
    by_cases hlt:(acc.length:Int)+1<mo
    · rw [if_pos (decide_eq_true hlt),ih _ hs.2 (by rw [List.length_append,List.length_singleton];omega),List.append_assoc,List.length_append,List.length_singleton,show mo.toNat-acc.length=(mo.toNat-(acc.length+1))+1 by omega,List.take_succ_cons]
      rfl
    · rw [if_neg (by rw [decide_eq_false hlt];simp),show mo.toNat-acc.length=1 by omega,List.take_succ_cons,List.take_zero]
  · have hx2:tz≠[]/\ltK x.1 tz=false:=by
     unfold upTo at hx
     rw [Bool.not_eq_true,Bool.or_eq_false_iff] at hx
     exact ⟨fun e=>by rw [e] at hx;simp at hx,hx.2⟩
    have hsee:see tz mo acc x=(acc,false):=by unfold see;rw [if_pos hx2]
    rw [visit,hsee,List.filter_cons_of_neg hx]
    have hnone:r.filter (upTo tz)=[]:=List.filter_eq_nil_iff.2 (fun y hy=>by
     unfold upTo
     rw [Bool.not_eq_true,Bool.or_eq_false_iff]
     refine ⟨by simpa using hx2.1,?_⟩
     cases hyt:ltK y.1 tz
     · rfl
     · rw [ltK_trans (hs.1 y hy) hyt] at hx2
       exact absurd hx2.2 (by simp))
    rw [hnone,List.take_nil,List.append_nil,if_neg (by simp)]
theorem scan_doc (fr tz:Key) (mo:Int) (L:List Kv) (hs:Srt L):scanT fr tz mo L=(L.filter (pick fr tz)).take mo.toNat:=by
 unfold scanT
 by_cases h1:mo<1
 · rw [if_pos h1,show mo.toNat=0 by omega,List.take_zero]
 · rw [if_neg h1,visit_take tz mo (since fr L) [] (hs.filter _) (by simp;omega),List.nil_append]
   unfold since
   rw [List.filter_filter]
   rfl
theorem pick_step {L:List Kv} {fr tz:Key} {i:Nat} (hi:i<L.length):(L.take (i+1)).filter (pick fr tz)=(L.take i).filter (pick fr tz)++if pick fr tz L[i] then [L[i]] else []:=by
 rw [List.take_succ_eq_append_getElem hi,List.filter_append]
 congr 1
 cases h:pick fr tz L[i]
 · rw [List.filter_cons_of_neg (by rw [h];simp)];rfl
 · rw [List.filter_cons_of_pos h];rfl
theorem pick_full {L:List Kv} {fr tz:Key} {mo:Int} {i:Nat} (h:((L.take i).filter (pick fr tz)).length=mo.toNat):(L.filter (pick fr tz)).take mo.toNat=(L.take i).filter (pick fr tz):=by
 conv=>lhs;arg 2;rw [<-List.take_append_drop i L]
 rw [List.filter_append,<-h,List.take_left]
theorem pick_all {L:List Kv} {fr tz:Key} {mo:Int} (h:((L.filter (pick fr tz)).length:Int)<=max mo 0):(L.filter (pick fr tz)).take mo.toNat=L.filter (pick fr tz):=List.take_of_length_le (by omega)
def RScanOut (w:World) (Z:List Kv) (e:Ending) (w':World):Prop:=
 Below w.heap.size w w'/\∃ (A:Option Addr) (n c:Nat),e= .returned (.slice A n c)/\Z.length=n/\KvSeen w' A Z
set_option maxRecDepth 100000 in
set_option maxHeartbeats 4000000 in
theorem rscan_any (w:World) (F:Nat->Prop) (hF:∀ b,F b->b<w.heap.size) (gm:Nat) (room:Int) (L:List Kv) (R T:Option Addr) (fr tz:Key) (r rc m d:Nat) (mo:Int) (t:MapAt w F gm room L) (hr:Seen w R fr) (hrl:fr.length=r) (ht:Seen w T tz) (htl:tz.length=m) (hmm:m<=9223372036854775807):
 Calls Tryz.prog 61 #[.pointer (some ⟨gm,0,none⟩),.slice R r rc,.slice T m d,.int .i64 mo] w (RScanOut w (scanT fr tz mo L)):=by
 have hsrt:Srt L:=t.2.1
 obtain ⟨A,c,els,he,hel,hb,hcl,hlc,hao,hn9⟩:=map_els t
 rw [scan_doc fr tz mo L hsrt]
 obtain ⟨Z,hZ⟩:∃ Z,Z=(L.filter (pick fr tz)).take mo.toNat:=⟨_,rfl⟩
 rw [<-hZ]
 have HZ:=Lib.hid hZ
 clear hZ
 have HB:=Lib.hid hb
 have HAO:=Lib.hid hao
 have HCL:=Lib.hid hcl
 have HE:=Lib.hid he
 have HF:=Lib.hid hF
 have cvR:=text_on hr r rc hrl
 have cvT:=text_on ht m d htl
 have HCR:=Lib.hid cvR
 have HCT:=Lib.hid cvT
 have HTL:=Lib.hid htl
 obtain ⟨n,hn⟩:∃ n,n=L.length:=⟨_,rfl⟩
 have HN:=Lib.hid hn
 rw [<-hn] at hel HB hlc hn9
 have HEL:=Lib.hid hel
 obtain ⟨i0,z0,RT⟩:=rowP
 have HR:=Lib.hid RT
 clear t hr hrl ht htl hb hcl hao he cvR cvT hn hF RT hsrt hel
 go_enter Tryz.func61,Tryz.ntmps61
 go_wp2_with fail
 go_loopg [9,10] n (fun kx s9 s10 wr=>∃ (i j:Nat) (sel:List (El 0)) (B:Option Addr) (e:Nat),i+kx=n/\s10= .int .i64 (i:Int)/\s9= .slice B j e/\Below w.heap.size w wr/\wr.ownsRow w.heap.size 123 2 (.slice B j e) j (rowCells 0 sel)/\sel.length=j/\(∀ q ∈ sel,q ∈ els)/\sel.map kv0=(L.take i).filter (pick fr tz)/\(j:Int)<=max mo 0)
 case atStart=>exact ⟨0,0,[],none,0,by omega,rfl,rfl,Below.refl _ _,World.ownsRow_nil _ _ _ _,rfl,(fun q hq=>by cases hq),rfl,by omega⟩
 case round=>
  obtain ⟨i,j,sel,B,e,hi,rfl,rfl,hbr,hown,hsl,hsub,hsel,hmax⟩:=hrel
  have HI:=Lib.hid hi
  have HBR:=Lib.hid hbr
  have HOWN:=Lib.hid hown
  have HSL:=Lib.hid hsl
  have HSUB:=Lib.hid hsub
  have HSEL:=Lib.hid hsel
  have HMAX:=Lib.hid hmax
  have hbb:=HB.out.below hbr HB.out.lt
  have x1:=hbb.cell (i:=1) (by simp)
  simp only [List.getElem_cons_zero,List.getElem_cons_succ] at x1
  have HDONE:Hid (Z=sel.map kv0->RScanOut w Z (.returned (.slice B j e)) wr):=fun hE=>by
   rw [hE]
   exact ⟨HBR.out,B,j,e,rfl,by rw [List.length_map];exact HSL.out,kv_of (own_cells HOWN.out).1 (AllOk.below (fun q hq=>HAO.out q (HSUB.out q hq)) HBR.out)⟩
  clear hi hbr hown hsl hsub hsel hmax hbb
  by_cases hlt:i<n
  · have hkl:(i:Int)<(n:Int):=by omega
    by_cases hjm:(j:Int)<mo
    · have hil:i<L.length:=by have:=HN.out;omega
      have hil2:i<els.length:=by have:=HEL.out;omega
      obtain ⟨b,off,rfl,hblt,_,h0,h1⟩:=pair_cells HCL.out i hil2
      obtain ⟨q,hq⟩:∃ q,q=els[i]:=⟨_,rfl⟩
      have HQ:Hid (q ∈ els):=by show _ ∈ _;rw [hq];exact List.getElem_mem _
      have HQL:Hid (L[i]=kv0 q):=by show _=_;rw [hq];simp [<-HE.out]
      have hstep:=pick_step (fr:=fr) (tz:=tz) hil
      rw [HQL.out] at hstep
      have HSTEP:=Lib.hid hstep
      clear hstep HQL
      have hok:=HAO.out q HQ.out
      obtain ⟨⟨A0,y,c0⟩,hp⟩:∃ p,p=epiece 0 q:=⟨_,rfl⟩
      obtain ⟨⟨A1,u,c1⟩,hv⟩:∃ p,p=eval0 q:=⟨_,rfl⟩
      have s0:Seen w A0 y:=by have h5:Seen w (epiece 0 q).1 (epiece 0 q).2.1:=hok.1.1.seen;rw [<-hp] at h5;exact h5
      have HKV:Hid (kv0 q=(y,u)):=by show ((epiece 0 q).2.1,(eval0 q).2.1)=_;rw [<-hp,<-hv]
      obtain ⟨ny,hny⟩:∃ ny,ny=y.length:=⟨_,rfl⟩
      obtain ⟨nz,hnz⟩:∃ nz,nz=u.length:=⟨_,rfl⟩
      have HEC:Hid (ecells 0 q=[.slice A0 ny c0,.slice A1 nz c1]):=by show [pv (epiece 0 q),pv (eval0 q)]=_;rw [<-hp,<-hv,hny,hnz];rfl
      have q0:wr.cell? ⟨b,off+i*2,none⟩=some (.slice A0 ny c0):=by rw [HBR.out.cell (p:=⟨b,off+i*2,none⟩) hblt,h0,<-hq,<-hp,hny];rfl
      have q1:wr.cell? ⟨b,off+i*2+1,none⟩=some (.slice A1 nz c1):=by rw [HBR.out.cell (p:=⟨b,off+i*2+1,none⟩) hblt,h1,<-hq,<-hv,hnz];rfl
      have cv:(convert 22 9 (.slice A0 ny c0)).run Tryz.prog wr= .ok (.string ⟨y.toArray⟩) wr:=text_on s0 ny c0 hny.symm _ HBR.out
      have cR:(convert 22 9 (.slice R r rc)).run Tryz.prog wr= .ok (.string ⟨fr.toArray⟩) wr:=HCR.out _ HBR.out
      have cT:(convert 22 9 (.slice T m d)).run Tryz.prog wr= .ok (.string ⟨tz.toArray⟩) wr:=HCT.out _ HBR.out
      have hj3:j<=100000:=by
       have h5:=congrArg List.length HSEL.out
       have h6:=List.length_filter_le (pick fr tz) (L.take i)
       rw [List.length_map] at h5
       rw [List.length_take] at h6
       have:=HSL.out
       omega
      have hwi:IntKind.i64.wrap ((i:Int)+1)=((i+1:Nat):Int):=by rw [IntKind.wrap_i64];omega
      have HPICK:Hid (pick fr tz (kv0 q)=(upTo tz (y,u)&& !ltK y fr)):=by show _=_;rw [HKV.out];rfl
      clear s0 hok h0 h1 hp hv hq hny hnz hil2 hil
      cases hyf:ltK y fr
      · have hge:Op.bytesLess (⟨y.toArray⟩:ByteArray).toList (⟨fr.toArray⟩:ByteArray).toList=false:=by rw [Lib.toList_data,Lib.toList_data];exact hyf
        have hge2:Op.bytesLess y fr=false:=hyf
        have hcase:m=0\/(m≠0/\ltK y tz=true)\/(m≠0/\ltK y tz=false):=by
         cases ltK y tz<;>simp<;>omega
        have HTN:Hid (tz=[]↔m=0):=by
         have:=HTL.out
         exact ⟨fun h=>by rw [h] at this;exact this.symm,fun h=>List.eq_nil_of_length_eq_zero (by omega)⟩
        rcases hcase with rfl | ⟨hm0,hyt⟩ | ⟨hm0,hyt⟩
        · have HP:Hid (pick fr tz (kv0 q)=true):=by show _=_;rw [HPICK.out,hyf,HTN.out.2 rfl];rfl
          clear hyf
          go_wp2_with (
           at_builtin
           refine wpList_append_cells HR.out rfl _ _ rfl F w.heap.size (.slice B j e) j (rowCells 0 sel) (by rfl) (HOWN.out.alloc _) (some ⟨wr.heap.size,0,none⟩) [.slice A0 ny c0,.slice A1 nz c1] 1 1 (by rfl) (by rfl) (cells_new wr F [.slice A0 ny c0,.slice A1 nz c1] 123 (fun h=>by have h1:=HF.out _ h;have h2:=HBR.out.size;omega)) (two_one A0 ny c0 A1 nz c1) (by omega) (by omega) (by have h2:=HBR.out.size;simp;omega) ?_
           intro v7 w7 ho7 hg7
           rw [<-HEC.out,<-rowCells_single,<-rowCells_append] at ho7
           obtain ⟨A7,c7,rfl⟩:=own_shape ho7
           have O7:=Lib.hid ho7
           have B7:Hid (Below w.heap.size w w7):=below_grown (HBR.out.alloc HBR.out.size _) (by have h2:=HBR.out.size;simp;omega) (HOWN.out.alloc _) hg7
           clear ho7 hg7)
          go_roundg (n-(i+1))
          case measure=>have:=HI.out;omega
          case rel=>
           refine ⟨i+1,j+1,sel++[q],A7,c7,by have:=HI.out;omega,rfl,rfl,B7.out,O7.out,by rw [List.length_append,HSL.out];rfl,fun x hx=> ?_,by rw [HSTEP.out,HP.out,List.map_append,HSEL.out];rfl,by omega⟩
           rcases List.mem_append.1 hx with hx | hx
           · exact HSUB.out x hx
           · rw [List.mem_singleton.1 hx];exact HQ.out
        · have HP:Hid (pick fr tz (kv0 q)=true):=by show _=_;rw [HPICK.out,hyf];unfold upTo;rw [hyt];simp
          have hJ:(m==0)=false:=by rw [beq_eq_false_iff_ne];omega
          have hJ2:((m:Int)==0)=false:=by rw [beq_eq_false_iff_ne];omega
          have hle:Op.bytesLess (⟨y.toArray⟩:ByteArray).toList (⟨tz.toArray⟩:ByteArray).toList=true:=by rw [Lib.toList_data,Lib.toList_data];exact hyt
          have hle2:Op.bytesLess y tz=true:=hyt
          clear hyf hyt
          go_wp2_with (
           at_builtin
           refine wpList_append_cells HR.out rfl _ _ rfl F w.heap.size (.slice B j e) j (rowCells 0 sel) (by rfl) (HOWN.out.alloc _) (some ⟨wr.heap.size,0,none⟩) [.slice A0 ny c0,.slice A1 nz c1] 1 1 (by rfl) (by rfl) (cells_new wr F [.slice A0 ny c0,.slice A1 nz c1] 123 (fun h=>by have h1:=HF.out _ h;have h2:=HBR.out.size;omega)) (two_one A0 ny c0 A1 nz c1) (by omega) (by omega) (by have h2:=HBR.out.size;simp;omega) ?_
           intro v7 w7 ho7 hg7
           rw [<-HEC.out,<-rowCells_single,<-rowCells_append] at ho7
           obtain ⟨A7,c7,rfl⟩:=own_shape ho7
           have O7:=Lib.hid ho7
           have B7:Hid (Below w.heap.size w w7):=below_grown (HBR.out.alloc HBR.out.size _) (by have h2:=HBR.out.size;simp;omega) (HOWN.out.alloc _) hg7
           clear ho7 hg7)
          go_roundg (n-(i+1))
          case measure=>have:=HI.out;omega
          case rel=>
           refine ⟨i+1,j+1,sel++[q],A7,c7,by have:=HI.out;omega,rfl,rfl,B7.out,O7.out,by rw [List.length_append,HSL.out];rfl,fun x hx=> ?_,by rw [HSTEP.out,HP.out,List.map_append,HSEL.out];rfl,by omega⟩
           rcases List.mem_append.1 hx with hx | hx
           · exact HSUB.out x hx
           · rw [List.mem_singleton.1 hx];exact HQ.out
        · have HP:Hid (pick fr tz (kv0 q)=false):=by
           have h7:tz≠[]:=fun h=>hm0 (HTN.out.1 h)
           show _=_;rw [HPICK.out,hyf];unfold upTo;rw [hyt];simp [h7]
          have hJ:(m==0)=false:=by rw [beq_eq_false_iff_ne];omega
          have hJ2:((m:Int)==0)=false:=by rw [beq_eq_false_iff_ne];omega
          have hle:Op.bytesLess (⟨y.toArray⟩:ByteArray).toList (⟨tz.toArray⟩:ByteArray).toList=false:=by rw [Lib.toList_data,Lib.toList_data];exact hyt
          have hle2:Op.bytesLess y tz=false:=hyt
          clear hyf hyt
          go_wp2_with fail
          go_roundg (n-(i+1))
          case measure=>have:=HI.out;omega
          case rel=>exact ⟨i+1,j,sel,B,e,by have:=HI.out;omega,rfl,rfl,HBR.out,HOWN.out,HSL.out,HSUB.out,by rw [HSTEP.out,HP.out,HSEL.out];simp,HMAX.out⟩
      · have hge:Op.bytesLess (⟨y.toArray⟩:ByteArray).toList (⟨fr.toArray⟩:ByteArray).toList=true:=by rw [Lib.toList_data,Lib.toList_data];exact hyf
        have hge2:Op.bytesLess y fr=true:=hyf
        have HP:Hid (pick fr tz (kv0 q)=false):=by show _=_;rw [HPICK.out,hyf];simp
        clear hyf
        go_wp2_with fail
        go_roundg (n-(i+1))
        case measure=>have:=HI.out;omega
        case rel=>exact ⟨i+1,j,sel,B,e,by have:=HI.out;omega,rfl,rfl,HBR.out,HOWN.out,HSL.out,HSUB.out,by rw [HSTEP.out,HP.out,HSEL.out];simp,HMAX.out⟩
    · have hE:Z=sel.map kv0:=by
       rw [HZ.out,HSEL.out]
       refine pick_full ?_
       rw [<-HSEL.out,List.length_map,HSL.out]
       have:=HMAX.out
       omega
      have HD:=Lib.hid (HDONE.out hE)
      clear hE
      go_wp2_with fail
      go_ret
      exact HD.out
  · obtain rfl:i=n:=by have:=HI.out;omega
    have hkl: ¬ (i:Int)<(i:Int):=by omega
    have hE:Z=sel.map kv0:=by
     have h5:=HSEL.out
     rw [HN.out,List.take_length] at h5
     rw [HZ.out,h5]
     refine pick_all ?_
     rw [<-h5,List.length_map,HSL.out]
     exact HMAX.out
    have HD:=Lib.hid (HDONE.out hE)
    clear hE
    go_wp2_with fail
    go_ret
    exact HD.out
open Go.RowKit
def pre (p:Key) (x:Kv):Bool:=decide (p <+: x.1)
theorem filt_step {f:Kv->Bool} {L:List Kv} {i:Nat} (hi:i<L.length):(L.take (i+1)).filter f=(L.take i).filter f++if f L[i] then [L[i]] else []:=by
 rw [List.take_succ_eq_append_getElem hi,List.filter_append]
 congr 1
 cases h:f L[i]
 · rw [List.filter_cons_of_neg (by rw [h];simp)];rfl
 · rw [List.filter_cons_of_pos h];rfl
theorem filt_full {f:Kv->Bool} {L:List Kv} {mo:Int} {i:Nat} (h:((L.take i).filter f).length=mo.toNat):(L.filter f).take mo.toNat=(L.take i).filter f:=by
 conv=>lhs;arg 2;rw [<-List.take_append_drop i L]
 rw [List.filter_append,<-h,List.take_left]
theorem filt_all {f:Kv->Bool} {L:List Kv} {mo:Int} (h:((L.filter f).length:Int)<=max mo 0):(L.filter f).take mo.toNat=L.filter f:=List.take_of_length_le (by omega)
def preL (p:Key) (mo:Int) (L:List Kv):List Kv:=(L.filter (pre p)).take mo.toNat
theorem row_below {w w':World} {base s n:Nat} {e:TypeId} {v:Value} {xs:List Value} (h:w.ownsRow base e s v n xs) (hb:Below w.heap.size w w'):w'.ownsRow base e s v n xs:=by
 refine ⟨h.1,?_⟩
 rcases h.2 with h0 | ⟨g,cap,cur,hv,hbg,hg,rest⟩
 · exact .inl h0
 · exact .inr ⟨g,cap,cur,hv,hbg,(hb.block g (h.lt g (by rw [hv];rfl)).2).trans hg,rest⟩
set_option maxRecDepth 100000 in
set_option maxHeartbeats 4000000 in
theorem rprefix_any (w:World) (T:Nat->Prop) (q r b gm:Nat) (G:Nat->Prop) (h:Nat) (t:Dsk) (k:KvS) (P:Option Addr) (p:Key) (np cp:Nat) (mo:Int) (hs:RSt w T q r b gm G h t k) (hp:Seen w P p) (hnp:p.length=np) (hn9:np<=140737488355328):
 Calls Tryz.prog 62 #[.pointer (some ⟨q,0,none⟩),.slice P np cp,.int .i64 mo] w (RScanOut w (preL p mo k.L)):=by
 have HBX:=Lib.hid hs.box
 have HT:Hid (∀ x,T x->x<w.heap.size):=hs.tlt
 have tm:=hs.map
 obtain ⟨L,hL⟩:∃ L,L=k.L:=⟨_,rfl⟩
 rw [<-hL] at tm ⊢
 obtain ⟨A,c,els,he,hel,hb,hcl,hlc,hao,hn9'⟩:=map_els tm
 obtain ⟨Z,hZ⟩:∃ Z,Z=preL p mo L:=⟨_,rfl⟩
 rw [<-hZ]
 have HZ:=Lib.hid hZ
 have HB:=Lib.hid hb
 have HAO:=Lib.hid hao
 have HCL:=Lib.hid hcl
 have HE:=Lib.hid he
 have HP:=Lib.hid hp
 have HNP:=Lib.hid hnp
 obtain ⟨n,hn⟩:∃ n,n=L.length:=⟨_,rfl⟩
 have HN:=Lib.hid hn
 rw [<-hn] at hel HB hlc hn9'
 have HEL:=Lib.hid hel
 obtain ⟨i0,z0,RT⟩:=rowP
 have HR:=Lib.hid RT
 clear tm hL hs hp hnp hZ hb hcl hao he hn RT hel
 go_enter Tryz.func62,Tryz.ntmps62
 go_wp2_with fail
 go_loopg [7,8] n (fun kx s7 s8 wr=>∃ (i j:Nat) (sel:List (El 0)) (B:Option Addr) (e:Nat),i+kx=n/\s8= .int .i64 (i:Int)/\s7= .slice B j e/\Below w.heap.size w wr/\wr.ownsRow w.heap.size 123 2 (.slice B j e) j (rowCells 0 sel)/\sel.length=j/\(∀ q ∈ sel,q ∈ els)/\sel.map kv0=(L.take i).filter (pre p)/\(j:Int)<=max mo 0)
 case atStart=>exact ⟨0,0,[],none,0,by omega,rfl,rfl,Below.refl _ _,World.ownsRow_nil _ _ _ _,rfl,(fun q hq=>by cases hq),rfl,by omega⟩
 case round=>
  obtain ⟨i,j,sel,B,e,hi,rfl,rfl,hbr,hown,hsl,hsub,hsel,hmax⟩:=hrel
  have HI:=Lib.hid hi
  have HBR:=Lib.hid hbr
  have HOWN:=Lib.hid hown
  have HSL:=Lib.hid hsl
  have HSUB:=Lib.hid hsub
  have HSEL:=Lib.hid hsel
  have HMAX:=Lib.hid hmax
  have HXC:Hid (∀ W,Below w.heap.size w W->W.cell? ⟨q,3,none⟩=some (.pointer (some ⟨gm,0,none⟩))/\W.cell? ⟨gm,1,none⟩=some (.slice A n c)):=fun W hW=>
   ⟨(HBX.out.below hW HBX.out.lt).cell (i:=3) (by simp [rsCells]),(HB.out.below hW HB.out.lt).cell (i:=1) (by simp)⟩
  obtain ⟨y3,x1⟩:=HXC.out wr hbr
  have HDONE:Hid (Z=sel.map kv0->∀ W,Below wr.heap.size wr W->RScanOut w Z (.returned (.slice B j e)) W):=fun hE W hW=>by
   rw [hE]
   exact ⟨hop HBR.out hW,B,j,e,rfl,by rw [List.length_map];exact HSL.out,(kv_of (own_cells HOWN.out).1 (AllOk.below (fun q hq=>HAO.out q (HSUB.out q hq)) HBR.out)).below hW⟩
  clear hi hbr hown hsl hsub hsel hmax
  by_cases hlt:i<n
  · have hkl:(i:Int)<(n:Int):=by omega
    by_cases hjm:(j:Int)<mo
    · have hil:i<L.length:=by have:=HN.out;omega
      have hil2:i<els.length:=by have:=HEL.out;omega
      obtain ⟨bb,off,rfl,hblt,hnF,h0,h1⟩:=pair_cells HCL.out i hil2
      obtain ⟨qq,hq⟩:∃ q,q=els[i]:=⟨_,rfl⟩
      have HQ:Hid (qq ∈ els):=by show _ ∈ _;rw [hq];exact List.getElem_mem _
      have HQL:Hid (L[i]=kv0 qq):=by show _=_;rw [hq];simp [<-HE.out]
      have hstep:=filt_step (f:=pre p) hil
      rw [HQL.out] at hstep
      have HSTEP:=Lib.hid hstep
      clear hstep HQL
      have hok:=HAO.out qq HQ.out
      obtain ⟨⟨A0,y,c0⟩,hp⟩:∃ p,p=epiece 0 qq:=⟨_,rfl⟩
      obtain ⟨⟨A1,u,c1⟩,hv⟩:∃ p,p=eval0 qq:=⟨_,rfl⟩
      have s0:Seen w A0 y/\y.length<=c0:=by have h5:Seen w (epiece 0 qq).1 (epiece 0 qq).2.1:=hok.1.1.seen;have h6:(epiece 0 qq).2.1.length<=(epiece 0 qq).2.2:=hok.1.2.1;rw [<-hp] at h5 h6;exact ⟨h5,h6⟩
      have HKV:Hid (kv0 qq=(y,u)):=by show ((epiece 0 qq).2.1,(eval0 qq).2.1)=_;rw [<-hp,<-hv]
      obtain ⟨ny,hny⟩:∃ ny,ny=y.length:=⟨_,rfl⟩
      obtain ⟨nz,hnz⟩:∃ nz,nz=u.length:=⟨_,rfl⟩
      have HEC:Hid (ecells 0 qq=[.slice A0 ny c0,.slice A1 nz c1]):=by show [pv (epiece 0 qq),pv (eval0 qq)]=_;rw [<-hp,<-hv,hny,hnz];rfl
      have HCELL:Hid (∀ W,Below w.heap.size w W->W.cell? ⟨bb,off+i*2,none⟩=some (.slice A0 ny c0)/\W.cell? ⟨bb,off+i*2+1,none⟩=some (.slice A1 nz c1)):=fun W hW=>
       ⟨by rw [hW.cell (p:=⟨bb,off+i*2,none⟩) hblt,h0,<-hq,<-hp,hny];rfl,by rw [hW.cell (p:=⟨bb,off+i*2+1,none⟩) hblt,h1,<-hq,<-hv,hnz];rfl⟩
      obtain ⟨q0,q1⟩:=HCELL.out wr HBR.out
      have HBE:=Lib.hid (refBegins_any A0 y ny c0 P p np cp wr hny.symm HNP.out (s0.1.below HBR.out) (HP.out.below HBR.out) (by rw [hny];exact s0.2) hn9)
      have hwi:IntKind.i64.wrap ((i:Int)+1)=((i+1:Nat):Int):=by rw [IntKind.wrap_i64];omega
      have hj3:j<=100000:=by
       have h5:=congrArg List.length HSEL.out
       have h6:=List.length_filter_le (pre p) (L.take i)
       rw [List.length_map] at h5
       rw [List.length_take] at h6
       have:=HSL.out
       omega
      obtain ⟨v,hvv⟩:∃ v,v=decide (p <+: y):=⟨_,rfl⟩
      rw [<-hvv] at HBE
      have HPK:Hid (pre p (kv0 qq)=v):=by show _=_;rw [HKV.out,hvv];rfl
      clear s0 hok h0 h1 hp hv hq hny hnz hil2 hil hnF hvv
      go_wp2_with fail
      with_reducible refine HBE.out.mono ?_
      rintro e5 w5 ⟨rfl,hb5⟩
      have B5:=Lib.hid (hop HBR.out hb5)
      have O5:=Lib.hid (row_below HOWN.out hb5)
      obtain ⟨z0,z1⟩:=HCELL.out w5 B5.out
      obtain ⟨z3,z4⟩:=HXC.out w5 B5.out
      clear hb5 q0 q1 y3 x1 HBE
      cases v
      · go_wp2_with fail
        go_roundg (n-(i+1))
        case measure=>have:=HI.out;omega
        case rel=>exact ⟨i+1,j,sel,B,e,by have:=HI.out;omega,rfl,rfl,B5.out,O5.out,HSL.out,HSUB.out,by rw [HSTEP.out,HPK.out,HSEL.out];simp,HMAX.out⟩
      · go_wp2_with (
         at_builtin
         refine wpList_append_cells HR.out rfl _ _ rfl (fun x=>x<w.heap.size) w.heap.size (.slice B j e) j (rowCells 0 sel) (by rfl) (O5.out.alloc _) (some ⟨w5.heap.size,0,none⟩) [.slice A0 ny c0,.slice A1 nz c1] 1 1 (by rfl) (by rfl) (cells_new w5 _ [.slice A0 ny c0,.slice A1 nz c1] 123 (fun h=>by have h2:=B5.out.size;omega)) (two_one A0 ny c0 A1 nz c1) (by omega) (by omega) (by have h2:=B5.out.size;simp;omega) ?_
         intro v7 w7 ho7 hg7
         rw [<-HEC.out,<-rowCells_single,<-rowCells_append] at ho7
         obtain ⟨A7,c7,rfl⟩:=own_shape ho7
         have O7:=Lib.hid ho7
         have B7:Hid (Below w.heap.size w w7):=below_grown (B5.out.alloc B5.out.size _) (by have h2:=B5.out.size;simp;omega) (O5.out.alloc _) hg7
         clear ho7 hg7)
        go_roundg (n-(i+1))
        case measure=>have:=HI.out;omega
        case rel=>
         refine ⟨i+1,j+1,sel++[qq],A7,c7,by have:=HI.out;omega,rfl,rfl,B7.out,O7.out,by rw [List.length_append,HSL.out];rfl,fun x hx=> ?_,by rw [HSTEP.out,HPK.out,List.map_append,HSEL.out];rfl,by omega⟩
         rcases List.mem_append.1 hx with hx | hx
         · exact HSUB.out x hx
         · rw [List.mem_singleton.1 hx];exact HQ.out
    · have hE:Z=sel.map kv0:=by
       rw [HZ.out,HSEL.out]
       refine filt_full ?_
       rw [<-HSEL.out,List.length_map,HSL.out]
       have:=HMAX.out
       omega
      have HD:=Lib.hid (HDONE.out hE)
      clear hE
      go_wp2_with fail
      go_ret
      exact HD.out _ (Below.refl _ _)
  · obtain rfl:i=n:=by have:=HI.out;omega
    have hkl: ¬ (i:Int)<(i:Int):=by omega
    have hE:Z=sel.map kv0:=by
     have h5:=HSEL.out
     rw [HN.out,List.take_length] at h5
     rw [HZ.out,h5]
     refine filt_all ?_
     rw [<-h5,List.length_map,HSL.out]
     exact HMAX.out
    have HD:=Lib.hid (HDONE.out hE)
    clear hE
    go_wp2_with fail
    go_ret
    exact HD.out _ (Below.refl _ _)
theorem infoByte:(Tryz.prog.info? 5).map (fun i=>(i.zero,i.size,i.bytes))=some (some (.int .u8 0),1,1):=by kernel_rfl
theorem kclone_any (A:Option Addr) (l:List UInt8) (n c:Nat) (w:World) (hn:l.length=n) (hs:Seen w A l) (hl:n<=140737488355328):
 Calls Tryz.prog 69 #[.slice A n c] w fun e w'=>∃ A' c',e= .returned (.slice A' n c')/\Made 5 w l (.slice A' n c') w':=by
 obtain ⟨i0,hi,hz0,hz1,hz2⟩:=info_parts infoByte
 have q22:∀ (w:World) (a:Option Addr) (n c n' c':Nat),(binOp .eql 22 (.slice a n c) (.slice none n' c')).run Tryz.prog w= .ok (.bool a.isNone) w:=fun w a n c n' c'=>Lib.run_eql_slice_nil w _ _ a n c n' c' Tryz.underlying22
 rcases A with _ | ad
 · obtain rfl:l=[]:=by
    rcases hs with h | ⟨_,_,h,_⟩
    · exact h
    · cases h
   obtain rfl:n=0:=hn.symm
   go_enter Tryz.func69,Tryz.ntmps69
   go_wp2_with fail
   go_ret
   exact ⟨none,0,rfl,Made.nil _ _⟩
 · have HS:=Lib.hid hs
   have HO:Made 5 w [] (.slice (some ⟨w.heap.size,0,none⟩) 0 0) (w.alloc (.cells #[] 5)):=
    ⟨World.ownsRow_made w #[] 0 (Nat.le_refl _) (Nat.zero_le _) rfl,(Below.refl _ _).alloc (Nat.le_refl _) _⟩
   clear hs
   subst hn
   go_enter Tryz.func69,Tryz.ntmps69
   go_wp2_with (at_builtin;refine wpList_append_bytes _ rfl _ _ 22 rfl 5 i0 (.int .u8 0) Tryz.underlying22 hi hz0 hz1 hz2 rfl w _ [] (some ad) l c rfl rfl HO ?a1 ?a2 ?_)
   case a1=>exact HS.out.below HO.2
   case a2=>simpa using hl
   intro v1 w1 HM _
   obtain ⟨A1,c1,rfl,_⟩:=HM.form
   have H1:Hid (Made 5 w l (.slice A1 l.length c1) w1):=by show Made _ _ _ _ _;simpa using HM
   clear HM HO
   go_wp2_with fail
   go_ret
   exact ⟨A1,c1,rfl,H1.out⟩
theorem byte_is {y c:UInt8} (n:Int) (hn:(c.toNat:Int)=n) (h:y=c):((y.toNat:Int)==n)=true:=by
 subst h;rw [hn];simp
theorem byte_not {y c:UInt8} (n:Int) (hn:(c.toNat:Int)=n) (h:y≠c):((y.toNat:Int)==n)=false:=by
 rw [beq_eq_false_iff_ne,<-hn]
 intro e
 exact h (UInt8.toNat_inj.1 (by omega))
theorem drop_highs (m:Nat) (r:List UInt8):(List.replicate m (255:UInt8)++r).dropWhile (· ==255)=r.dropWhile (· ==255):=by
 induction m with
 | zero=>rfl
 | succ m ih=>rw [List.replicate_succ,List.cons_append,List.dropWhile_cons_of_pos (by decide),ih]
theorem behind_all (m:Nat):behindL (List.replicate m 255)=[]:=by
 unfold behindL
 have h:=drop_highs m []
 rw [List.append_nil] at h
 rw [List.reverse_replicate,h]
 rfl
theorem behind_at {q:List UInt8} {c:UInt8} (m:Nat) (h:c≠255):behindL (q++c::List.replicate m 255)=q++[c+1]:=by
 unfold behindL
 rw [List.reverse_append,List.reverse_cons,List.reverse_replicate,List.append_assoc,drop_highs]
 have:([c]++q.reverse).dropWhile (· ==255)=c::q.reverse:=by
  show (c::q.reverse).dropWhile _=_
  rw [List.dropWhile_cons_of_neg (by simpa using h)]
 rw [this]
 simp
theorem high_next {p:List UInt8} {k m:Nat} (h:k<p.length) (h1:p.drop (k+1)=List.replicate m 255) (h2:p[k]=255):p.drop k=List.replicate (m+1) 255:=by
 rw [List.drop_eq_getElem_cons h,h1,h2,List.replicate_succ]
theorem behind_out {p:List UInt8} {k m:Nat} (h:k<p.length) (h1:p.drop (k+1)=List.replicate m 255) (h2:p[k]≠255):behindL p=(p.take (k+1)).set k (p[k]+1):=by
 have e:p=p.take k++p[k]::List.replicate m 255:=by
  rw [<-h1,<-List.drop_eq_getElem_cons h,List.take_append_drop]
 have e2:behindL p=behindL (p.take k++p[k]::List.replicate m 255):=congrArg behindL e
 rw [e2,behind_at m h2,List.take_succ_eq_append_getElem h]
 rw [List.set_append_right _ _ (by simp;omega),List.length_take,Nat.min_eq_left (by omega),Nat.sub_self]
 rfl
def BehindOut (w:World) (p:List UInt8) (e:Ending) (w':World):Prop:=
 ∃ (A:Option Addr) (n c:Nat),e= .returned (.slice A n c)/\(behindL p).length=n/\Seen w' A (behindL p)/\Below w.heap.size w w'
def BH (w:World) (p:List UInt8) (i:Value) (wr:World):Prop:=
 ∃ k:Nat,k<=p.length/\i= .int .i64 k/\Hid (∃ m,p.drop k=List.replicate m 255)/\w=wr
set_option maxRecDepth 100000 in
set_option maxHeartbeats 1000000 in
theorem behind_any (A:Option Addr) (p:List UInt8) (c:Nat) (w:World) (hs:Seen w A p) (hcap:p.length<=c) (hn:p.length<=140737488355328):
 Calls Tryz.prog 36 #[.slice A p.length c] w fun e w'=>BehindOut w p e w':=by
 have HS:=Lib.hid hs
 clear hs
 go_enter Tryz.func36,Tryz.ntmps36
 go_wp2_with fail
 go_loopw [3] (fun i wr=>BH w p i wr) (fun i _=>(intOf i).toNat)
 case atStart=>exact ⟨p.length,by omega,rfl,Lib.hid ⟨0,by simp⟩,rfl⟩
 case round=>
  obtain ⟨k,hk,rfl,hall,rfl⟩:=hrel
  rcases Nat.eq_zero_or_pos k with rfl | hpos
  · have HB:Hid (behindL p=[]):=by
     obtain ⟨m,h⟩:=hall.out
     show _=_
     rw [show p=List.replicate m 255 from h,behind_all]
    go_wp2_with fail
    go_ret
    exact ⟨none,0,0,rfl,by rw [HB.out];rfl,by rw [HB.out];exact .inl rfl,Below.refl _ _⟩
  · obtain ⟨j,rfl⟩:∃ j,k=j+1:=⟨k-1,by omega⟩
    have hj:j<p.length:=by omega
    obtain ⟨b,off,hA,hbw,hc⟩:=HS.out.at_ hj
    subst hA
    by_cases h255:p[j]=255
    · have HN:Hid (∃ m,p.drop j=List.replicate m 255):=by
       obtain ⟨m,h⟩:=hall.out
       exact ⟨m+1,high_next hj h h255⟩
      have t1:(((p[j]).toNat:Int)==255)=true:=byte_is 255 rfl h255
      clear h255
      generalize p[j]=y at *
      go_wp2_with fail
      go_roundw
      case rel=>exact ⟨j,by omega,by go_num,HN,by first | rfl | trivial⟩
      case measure=>simp [intOf]
    · have t1:(((p[j]).toNat:Int)==255)=false:=byte_not 255 rfl h255
      have HB:Hid (behindL p=(p.take (j+1)).set j (p[j]+1)):=by
       obtain ⟨m,h⟩:=hall.out
       exact behind_out hj h h255
      have HY:=Lib.hid (succ_nat h255)
      have hy:(p[j]).toNat<255:=by
       have:=(p[j]).toNat_lt
       have h3:(p[j]).toNat≠255:=fun e=>h255 (UInt8.toNat_inj.1 e)
       omega
      have HC:=Lib.hid (kclone_any (some ⟨b,off,none⟩) (p.take (j+1)) (j+1) c w (by rw [List.length_take];omega) (HS.out.first _) (by omega))
      have HG:Hid ((p.take (j+1))[j]? =some p[j]):=by show _=_;rw [List.getElem?_take,if_pos (by omega),List.getElem?_eq_getElem hj]
      have t2:((j:Int)+1==0)=false:=by rw [beq_eq_false_iff_ne];omega
      have HL:Hid (j<(p.take (j+1)).length):=by show _<_;rw [List.length_take];omega
      clear h255
      generalize p.take (j+1)=q at *
      generalize p[j]=y at *
      go_wp2_with fail
      refine HC.out.mono ?_
      rintro e w2 ⟨A2,c2,rfl,hm2⟩
      obtain ⟨g,hA2,_,hf,hm3⟩:=hm2.set (show j<j+1 by omega) (y+1)
      obtain ⟨g',off',hA2',hg',hcj⟩:=hm2.at_len.2.at_ HL.out
      subst hA2
      injection hA2' with hA2'
      injection hA2' with e1 e2 _
      subst e1 e2
      have hg:=HG.out
      rw [List.getElem?_eq_getElem HL.out] at hg
      injection hg with hg
      rw [hg,Nat.zero_add] at hcj
      rw [HY.out] at hm3
      have H3:=Lib.hid hm3
      clear hm2 hm3
      go_wp2_with fail
      go_ret
      exact ⟨_,j+1,c2,rfl,by rw [HB.out];exact H3.out.at_len.1,by rw [HB.out];exact H3.out.at_len.2,H3.out.2⟩
end Go.Proofs.YtdaahapbpnjkfaaGreat
