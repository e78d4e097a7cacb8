/-
What leaves all blocks but one as they were, and a row of the call's own behind it. No program is named here.
-/
import Derived.Test.YtdaahapbpnjkfaaGreatCGet
import Derived.Maps.AppendAt
import Derived.OwnWalk
import Derived.Deep.RegionLaw
import Derived.Test.YtdaahapbpnjkfaaGreatChecked
import Derived.WalkSpells
import Derived.Laws.Rows
import Derived.Laws.CopyOwn
namespace Go.Proofs.YtdaahapbpnjkfaaGreat
open Go.RowKit
section
variable {P:Program} (w:World)
theorem run_append_nought (base:Nat) (t ty e:TypeId) (i:TypeInfo) (size:Nat) (ht:P.underlying t=some (.slice e)) (hi:P.info? e=some i)
 (v:Value) (n:Nat) (xs:List Value) (hown:w.ownsRow base e size v n xs) (c:Nat):
 (Builtin.append_ #[t,t] ty #[v,.slice none 0 c]).run P w= .ok v w:=by
 rcases hown.2 with ⟨rfl,rfl⟩ | ⟨g,cap,cur,rfl,_,_,hnc,_⟩
 · simp [Builtin.append_,run_underlying ht,sizeOf,typeInfo,hi,Builtin.lenOf,Builtin.firstCells]
 · simp [Builtin.append_,run_underlying ht,sizeOf,typeInfo,hi,Builtin.lenOf,Builtin.firstCells,hnc,storeCells]
theorem bytes_one (l:List UInt8):∀ u ∈ l.map bv,u.oneCell'=true:=by
 intro u hu
 obtain ⟨c,_,rfl⟩:=List.mem_map.1 hu
 rfl
theorem run_append_seen (base:Nat) (t ty e:TypeId) (i:TypeInfo) (z:Value) (ht:P.underlying t=some (.slice e)) (hi:P.info? e=some i) (hz:i.zero=some z)
 (hsize:i.size=1) (hby:i.bytes=1) (hzs:z.cells.size=1)
 (v:Value) (n:Nat) (xs:List Value) (hown:w.ownsRow base e 1 v n xs)
 (A:Option Addr) (l:List UInt8) (c:Nat) (hr:Seen w A l) (hb:n+l.length<=140737488355328) (hbase:base<=w.heap.size):
 ∃ v' w',(Builtin.append_ #[t,t] ty #[v,.slice A l.length c]).run P w= .ok v' w'/\w'.ownsRow base e 1 v' (n+l.length) (xs++l.map bv)/\w.grownBy w' v.ownBlock/\
  (v'.ownBlock=v.ownBlock\/v'.ownBlock=some w.heap.size):=by
 rcases A with _ | ad
 · obtain rfl:l=[]:=by
    rcases hr with h | ⟨_,_,h,_⟩
    · exact h
    · cases h
   exact ⟨v,w,run_append_nought w base t ty e i 1 ht hi v n xs hown c,by simpa using hown,World.grownBy.refl w _,.inl rfl⟩
 · have hcells:∀ j u,(l.map bv)[j]? =some u->w.cell? (ad.add j)=some u:=by
    intro j u hu
    obtain ⟨hj,hju⟩:=List.getElem?_eq_some_iff.1 hu
    rw [List.length_map] at hj
    obtain ⟨b,off,ha,_,hc⟩:=hr.at_ hj
    injection ha with ha
    subst ha
    rw [add_plain,hc,<-hju,List.getElem_map]
    rfl
   obtain ⟨v',w',hrun,h2,h3,_,h5⟩:=run_append_own_at (P:=P) w base t ty e i z 1 1 ht hi hz hsize hby hzs (by decide) v n xs hown ad l.length c (l.map bv) (by simp) hcells (bytes_one l) (by unfold maxLen;omega) (by omega) hbase
   exact ⟨v',w',hrun,h2,h3,h5⟩
theorem wpList_append_seen {ops:Array Oper} {rest:List Oper} {o:Oper} {a:Act} {Q:Exit->Act->World->Prop} (hgd:o.guard=none) (s x:Operand) (t:TypeId)
 (ho:o.op= .call { callee:= .builtin .append,args:= #[s,x],argTypes:= #[t,t] })
 (base:Nat) (e:TypeId) (i:TypeInfo) (z:Value) (ht:P.underlying t=some (.slice e)) (hi:P.info? e=some i) (hz:i.zero=some z)
 (hsize:i.size=1) (hby:i.bytes=1) (hzs:z.cells.size=1)
 (v:Value) (n:Nat) (xs:List Value) (hs:a.eval s=v) (hown:w.ownsRow base e 1 v n xs)
 (A:Option Addr) (l:List UInt8) (c:Nat) (hx:a.eval x= .slice A l.length c) (hr:Seen w A l) (hb:n+l.length<=140737488355328) (hbase:base<=w.heap.size)
 (h:∀ v' w',w'.ownsRow base e 1 v' (n+l.length) (xs++l.map bv)->w.grownBy w' v.ownBlock->(v'.ownBlock=v.ownBlock\/v'.ownBlock=some w.heap.size)->wpList P ops Q rest (a.put o.dst v') w'):
 wpList P ops Q (o::rest) a w:=by
 refine wpList_plain hgd fun K hK=> ?_
 obtain ⟨v',w',hrun,h2,h3,h4⟩:=run_append_seen (P:=P) w base t o.type e i z ht hi hz hsize hby hzs v n xs hown A l c hr hb hbase
 unfold Oper.wp execOp
 simp only [ho,resolve,invoke,builtin,Sem.run_bind,Sem.run_pure,Result.andThen_ok,List.map_toArray,List.map_cons,List.map_nil,hs,hx,hrun]
 exact hK _ _ (h v' w' h2 h3 h4)
end
theorem below_grown {B:Nat} {a w w':World} {e:TypeId} {size n:Nat} {v:Value} {xs:List Value} (h:Below B a w) (hB:B<=w.heap.size) (hown:w.ownsRow B e size v n xs) (hg:w.grownBy w' v.ownBlock):Below B a w':=
 h.grown hg hB (fun k hk=>(hown.lt k hk).1)
theorem bv_ofInt (y:Int) (h0:0<=y) (h1:y<256):bv (UInt8.ofNat y.toNat)= .int .u8 y:=by
 unfold bv
 rw [UInt8.toNat_ofNat']
 congr 1
 omega
def Made (e:TypeId) (w0:World) (l:List UInt8) (v:Value) (w':World):Prop:=
 w'.ownsRow w0.heap.size e 1 v l.length (l.map bv)/\Below w0.heap.size w0 w'
section
variable {e:TypeId} {w0 w w':World} {l:List UInt8} {v:Value}
theorem Made.form (h:Made e w0 l v w):∃ A c,v= .slice A l.length c/\Seen w A l:=by
 have h1:=h.1
 rcases h1.2 with ⟨rfl,h0⟩ | ⟨g,cap,cur,rfl,_⟩
 · exact ⟨none,0,by rw [h0],.inl (List.eq_nil_of_length_eq_zero h0)⟩
 · exact ⟨_,_,rfl,(Seen.of_own h1).1⟩
theorem Made.nil (e:TypeId) (w:World):Made e w [] (.slice none 0 0) w:=⟨World.ownsRow_nil _ _ _ _,Below.refl _ _⟩
end
def pushed (d:List UInt8) (y:Int):List UInt8:=d++[UInt8.ofNat y.toNat]
theorem run_append_byte {P:Program} (w:World) (t ty e:TypeId) (i:TypeInfo) (z:Value) (ht:P.underlying t=some (.slice e)) (hi:P.info? e=some i) (hz:i.zero=some z)
 (hsize:i.size=1) (hby:i.bytes=1) (hzs:z.cells.size=1)
 (w0:World) (v:Value) (d:List UInt8) (y:Int) (H:Made e w0 d v w) (h0:0<=y) (h1:y<256) (hb:d.length+1<=140737488355328):
 ∃ v' w',(Builtin.append_ #[t,t] ty #[v,.slice (some ⟨w.heap.size,0,none⟩) 1 1]).run P (w.alloc (.cells #[.int .u8 y] e))= .ok v' w'/\Made e w0 (pushed d y) v' w':=by
 obtain ⟨hown,hbel⟩:=H
 have hB:=hbel.size
 obtain ⟨v',w',hrun,hown',hg,_⟩:=run_append_own_at (P:=P) (w.alloc (.cells #[.int .u8 y] e)) w0.heap.size t ty e i z 1 1 ht hi hz hsize hby hzs (by decide) v d.length (d.map bv) (hown.alloc _) ⟨w.heap.size,0,none⟩ 1 1 [.int .u8 y] rfl (by
  intro j u hu
  have hj:j=0:=by
   rcases Nat.eq_zero_or_pos j with h | h
   · exact h
   · rw [List.getElem?_eq_none (by simp;omega)] at hu;cases hu
  subst hj
  simp at hu
  subst hu
  rw [add_plain,World.cell?_alloc_at _ _ _ _ rfl]
  rfl) (by
  intro u hu
  simp at hu
  subst hu
  rfl) (by unfold maxLen;omega) (by omega) (by simp;omega)
 refine ⟨v',w',hrun,?_,below_grown (hbel.alloc hB _) (by simp;omega) (hown.alloc _) hg⟩
 unfold pushed
 rw [List.map_append,List.map_cons,List.map_nil,bv_ofInt y h0 h1]
 simpa using hown'
theorem wpList_append_byte {P:Program} (w:World) {ops:Array Oper} {rest:List Oper} {o:Oper} {a:Act} {Q:Exit->Act->World->Prop} (hgd:o.guard=none) (s x:Operand) (t:TypeId)
 (ho:o.op= .call { callee:= .builtin .append,args:= #[s,x],argTypes:= #[t,t] })
 (e:TypeId) (i:TypeInfo) (z:Value) (ht:P.underlying t=some (.slice e)) (hi:P.info? e=some i) (hz:i.zero=some z)
 (hsize:i.size=1) (hby:i.bytes=1) (hzs:z.cells.size=1)
 (w0:World) (v:Value) (d:List UInt8) (y:Int) (hs:a.eval s=v) (hx:a.eval x= .slice (some ⟨w.heap.size,0,none⟩) 1 1)
 (H:Made e w0 d v w) (h0:0<=y) (h1:y<256) (hb:d.length+1<=140737488355328)
 (h:∀ v' w',Made e w0 (pushed d y) v' w'->wpList P ops Q rest (a.put o.dst v') w'):
 wpList P ops Q (o::rest) a (w.alloc (.cells #[.int .u8 y] e)):=by
 refine wpList_plain hgd fun K hK=> ?_
 obtain ⟨v',w',hrun,h2⟩:=run_append_byte (P:=P) w t o.type e i z ht hi hz hsize hby hzs w0 v d y H h0 h1 hb
 unfold Oper.wp execOp
 simp only [ho,resolve,invoke,builtin,Sem.run_bind,Sem.run_pure,Result.andThen_ok,List.map_toArray,List.map_cons,List.map_nil,hs,hx,hrun]
 exact hK _ _ (h v' w' h2)
theorem wpList_append_bytes {P:Program} (w:World) {ops:Array Oper} {rest:List Oper} {o:Oper} {a:Act} {Q:Exit->Act->World->Prop} (hgd:o.guard=none) (s x:Operand) (t:TypeId)
 (ho:o.op= .call { callee:= .builtin .append,args:= #[s,x],argTypes:= #[t,t] })
 (e:TypeId) (i:TypeInfo) (z:Value) (ht:P.underlying t=some (.slice e)) (hi:P.info? e=some i) (hz:i.zero=some z)
 (hsize:i.size=1) (hby:i.bytes=1) (hzs:z.cells.size=1)
 (w0:World) (v:Value) (d:List UInt8) (A:Option Addr) (l:List UInt8) (c:Nat) (hs:a.eval s=v) (hx:a.eval x= .slice A l.length c)
 (H:Made e w0 d v w) (hr:Seen w A l) (hb:d.length+l.length<=140737488355328)
 (h:∀ v' w',Made e w0 (d++l) v' w'->Below w0.heap.size w w'->wpList P ops Q rest (a.put o.dst v') w'):
 wpList P ops Q (o::rest) a w:=by
 refine wpList_append_seen w hgd s x t ho w0.heap.size e i z ht hi hz hsize hby hzs v d.length (d.map bv) hs H.1 A l c hx hr hb H.2.size fun v' w' hown hg _=>h v' w' ⟨?_,below_grown H.2 H.2.size H.1 hg⟩ (below_grown (Below.refl _ _) H.2.size H.1 hg)
 rw [List.map_append,List.length_append]
 exact hown
theorem info8p:(Tryz.prog.info? 5).map (fun i=>(i.zero,i.size,i.bytes))=some (some (.int .u8 0),1,1):=by kernel_rfl
theorem none_nil {w:World} {l:List UInt8} (hs:Seen w none l):l=[]:=by
 rcases hs with h | ⟨_,_,h,_⟩
 · exact h
 · cases h
set_option maxHeartbeats 400000 in
theorem clone_any (A:Option Addr) (l:List UInt8) (c:Nat) (w:World) (hl:l.length<=140737488351232) (hs:Seen w A l):
 Calls Tryz.prog 69 #[.slice A l.length c] w fun e w'=>∃ v,e= .returned v/\Made 5 w l v w':=by
 obtain ⟨i0,hi,hz0,hz1,hz2⟩:=info_parts info8p
 have heq:=fun (W:World) (A:Option Addr) (n c:Nat)=>Lib.run_eql_slice_nil (P:=Tryz.prog) W 22 5 A n c 0 0 Tryz.underlying22
 rcases A with _ | ad
 · obtain rfl:l=[]:=none_nil hs
   clear hs
   go_enter Tryz.func69,Tryz.ntmps69
   go_wp2_with fail
   go_ret
   exact ⟨_,rfl,World.ownsRow_nil _ _ _ _,Below.refl _ _⟩
 · have HS:=Lib.hid hs
   clear hs
   have HO:Made 5 w [] (.slice (some ⟨w.heap.size,0,none⟩) 0 0) (w.alloc (.cells #[] 5)):=
    ⟨World.ownsRow_lit w #[] 0 (Nat.le_refl _) (by unfold maxLen;omega) rfl,(Below.refl _ _).alloc (Nat.le_refl _) _⟩
   go_enter Tryz.func69,Tryz.ntmps69
   go_wp2_with (at_builtin;refine wpList_append_bytes _ rfl _ _ 22 rfl 5 i0 (.int .u8 0) Tryz.underlying22 hi hz0 hz1 hz2 rfl w _ [] (some ad) l c rfl rfl HO ?c1 ?c2 ?_)
   case c1=>exact HS.out.alloc _
   case c2=>simp;omega
   intro v' w' hown _
   go_wp2_with fail
   go_ret
   exact ⟨_,rfl,hown⟩
def putL (n:Nat):List UInt8:=if n<128 then [UInt8.ofNat n] else UInt8.ofNat (n%128+128)::putL (n/128)
 termination_by n
 decreasing_by omega
theorem putL_small {n:Nat} (h:n<128):putL n=[UInt8.ofNat n]:=by rw [putL,if_pos h]
theorem putL_more {n:Nat} (h:128<=n):putL n=UInt8.ofNat (n%128+128)::putL (n/128):=by rw [putL,if_neg (by omega)]
theorem putL_length:∀ (k n:Nat),n<128 ^ (k+1)->(putL n).length<=k+1
 | 0,n,h=>by rw [putL_small (by simpa using h)];simp
 | k+1,n,h=>by
  by_cases hn:n<128
  · rw [putL_small hn];simp
  · rw [putL_more (by omega),List.length_cons]
    have:=putL_length k (n/128) (by rw [Nat.pow_succ] at h;omega)
    omega
theorem putL_length9 {n:Nat} (h:n<=9223372036854775807):(putL n).length<=9:=
 putL_length 8 n (by
  have:128 ^ 9=9223372036854775808:=by decide
  omega)
theorem putL_pos (n:Nat):1<=(putL n).length:=by
 by_cases hn:n<128
 · rw [putL_small hn];simp
 · rw [putL_more (by omega)];simp
theorem and_i64 (a b:Nat) (ha:a<=9223372036854775807) (hb:b<=9223372036854775807):bits .and .i64 (a:Int) (b:Int)=((a &&& b:Nat):Int):=by
 have hx:a &&& b<2 ^ 63:=Nat.and_lt_two_pow _ (by omega)
 show IntKind.i64.wrap ((BitVec.ofInt 64 (a:Int) &&& BitVec.ofInt 64 (b:Int)).toNat:Int)=_
 rw [BitVec.toNat_and,ofInt_u64 a (by omega),ofInt_u64 b (by omega),IntKind.wrap_i64]
 omega
theorem or_128 (x:Nat) (h:x<128):bits .or .u8 (x:Int) 128=((x+128:Nat):Int):=by
 rw [show (128:Int)=((128:Nat):Int) from rfl,u8_or_nat x 128 (by omega) (by omega),Nat.or_comm,nat_join 7 128 x (by decide) (by omega),Nat.add_comm]
set_option maxRecDepth 100000 in
set_option maxHeartbeats 400000 in
theorem put_any (A:Option Addr) (l:List UInt8) (c:Nat) (n:Nat) (w:World) (hl:l.length<=140737488351232) (hn:n<=9223372036854775807) (hs:Seen w A l):
 Calls Tryz.prog 122 #[.slice A l.length c,.int .i64 (n:Int)] w fun e w'=>∃ v,e= .returned v/\Made 5 w (l++putL n) v w':=by
 obtain ⟨i0,hi,hz0,hz1,hz2⟩:=info_parts info8p
 have HS:=Lib.hid hs
 have HL:=Lib.hid (putL_length9 hn)
 clear hs
 go_enter Tryz.func122,Tryz.ntmps122
 go_wp2_with fail
 refine (clone_any A l c _ hl HS.out).mono ?_
 rintro e w1 ⟨v,rfl,HM⟩
 go_wp2_with fail
 go_loopw [1,5] (fun i v wr=>∃ (m:Nat) (d:List UInt8) (V:Value),i= .int .i64 m/\V=v/\m<=9223372036854775807/\Hid (l++putL n=d++putL m)/\Made 5 w d V wr) (fun i _ _=>(intOf i).toNat)
 case atStart=>exact ⟨n,l,v,rfl,rfl,hn,rfl,HM⟩
 case round=>
  obtain ⟨m,d,V,rfl,rfl,hm,H,HD⟩:=hrel
  have hd:d.length<=140737488351241:=by
   have h1:=congrArg List.length H.out
   have h2:=putL_pos m
   have h3:=HL.out
   simp only [List.length_append] at h1
   omega
  by_cases hlt:128<=m
  · have e1:bits .and .i64 (m:Int) 127=((m%128:Nat):Int):=by
     rw [show (127:Int)=((127:Nat):Int) from rfl,and_i64 m 127 (by omega) (by omega),nat_mask7]
    have e2:bits .or .u8 ((m:Int)%128) 128=((m%128+128:Nat):Int):=by
     rw [show (m:Int)%128=((m%128:Nat):Int) from by omega];exact or_128 _ (by omega)
    have HN:Hid (l++putL n=pushed d ((m:Int)%128+128)++putL (m/128)):=by
     show _=_
     rw [H.out,putL_more hlt,pushed,List.append_assoc,List.singleton_append,show ((m:Int)%128+128).toNat=m%128+128 from by omega]
    go_wp2_with (at_builtin;refine wpList_append_byte _ rfl _ _ 22 rfl 5 i0 (.int .u8 0) Tryz.underlying22 hi hz0 hz1 hz2 rfl w V d _ rfl rfl HD ?c1 ?c2 ?c3 ?_)
    case c1=>omega
    case c2=>omega
    case c3=>omega
    intro v' w' HD'
    go_wp2_with fail
    go_roundw
    case rel=>exact ⟨m/128,_,_,by go_num,rfl,by omega,HN,HD'⟩
    case measure=>simp [intOf];omega
  · have HN:Hid (pushed d (m:Int)=l++putL n):=by
     show _=_
     rw [H.out,putL_small (by omega),pushed,Int.toNat_natCast]
    go_wp2_with (at_builtin;refine wpList_append_byte _ rfl _ _ 22 rfl 5 i0 (.int .u8 0) Tryz.underlying22 hi hz0 hz1 hz2 rfl w V d _ rfl rfl HD ?c1 ?c2 ?c3 ?_)
    case c1=>omega
    case c2=>omega
    case c3=>omega
    intro v' w' HD'
    go_wp2_with fail
    go_ret
    exact ⟨_,rfl,by rw [<-HN.out];exact HD'⟩
set_option maxRecDepth 100000 in
set_option maxHeartbeats 400000 in
theorem refPut_any (A:Option Addr) (l:List UInt8) (c:Nat) (n:Nat) (w:World) (hl:l.length<=140737488351232) (hn:n<=9223372036854775807) (hs:Seen w A l):
 Calls Tryz.prog 92 #[.slice A l.length c,.int .i64 (n:Int)] w fun e w'=>∃ v,e= .returned v/\Made 5 w (l++putL n) v w':=by
 obtain ⟨i0,hi,hz0,hz1,hz2⟩:=info_parts info8p
 have HS:=Lib.hid hs
 have HL:=Lib.hid (putL_length9 hn)
 clear hs
 have HO:=Made.nil 5 w
 go_enter Tryz.func92,Tryz.ntmps92
 go_wp2_with (at_builtin;refine wpList_append_bytes _ rfl _ _ 22 rfl 5 i0 (.int .u8 0) Tryz.underlying22 hi hz0 hz1 hz2 rfl w _ [] A l c rfl rfl HO ?c1 ?c2 ?_)
 case c1=>exact HS.out
 case c2=>simp;omega
 intro v w1 HM _
 go_wp2_with fail
 go_loopw [1,5] (fun i v wr=>∃ (m:Nat) (d:List UInt8) (V:Value),i= .int .i64 m/\V=v/\m<=9223372036854775807/\Hid (l++putL n=d++putL m)/\Made 5 w d V wr) (fun i _ _=>(intOf i).toNat)
 case atStart=>exact ⟨n,l,v,rfl,rfl,hn,rfl,HM⟩
 case round=>
  obtain ⟨m,d,V,rfl,rfl,hm,H,HD⟩:=hrel
  have hd:d.length<=140737488351241:=by
   have h1:=congrArg List.length H.out
   have h2:=putL_pos m
   have h3:=HL.out
   simp only [List.length_append] at h1
   omega
  by_cases hlt:128<=m
  · have HN:Hid (l++putL n=pushed d ((m:Int)%128+128)++putL (m/128)):=by
     show _=_
     rw [H.out,putL_more hlt,pushed,List.append_assoc,List.singleton_append,show ((m:Int)%128+128).toNat=m%128+128 from by omega]
    go_wp2_with (at_builtin;refine wpList_append_byte _ rfl _ _ 22 rfl 5 i0 (.int .u8 0) Tryz.underlying22 hi hz0 hz1 hz2 rfl w V d _ rfl rfl HD ?c1 ?c2 ?c3 ?_)
    case c1=>omega
    case c2=>omega
    case c3=>omega
    intro v' w' HD'
    go_wp2_with fail
    go_roundw
    case rel=>exact ⟨m/128,_,_,by go_num,rfl,by omega,HN,HD'⟩
    case measure=>simp [intOf];omega
  · have HN:Hid (pushed d (m:Int)=l++putL n):=by
     show _=_
     rw [H.out,putL_small (by omega),pushed,Int.toNat_natCast]
    go_wp2_with (at_builtin;refine wpList_append_byte _ rfl _ _ 22 rfl 5 i0 (.int .u8 0) Tryz.underlying22 hi hz0 hz1 hz2 rfl w V d _ rfl rfl HD ?c1 ?c2 ?c3 ?_)
    case c1=>omega
    case c2=>omega
    case c3=>omega
    intro v' w' HD'
    go_wp2_with fail
    go_ret
    exact ⟨_,rfl,by rw [<-HN.out];exact HD'⟩
theorem get_put (t:List UInt8) (n:Nat):∀ (i acc:Nat),i<=8->n<128 ^ (9-i)->(i=0\/0<n)->getL (putL n++t) i acc=(acc+n*128 ^ i,i+(putL n).length):=by
 induction n using Nat.strongRecOn with
 | _ n ih=>
  intro i acc hi hn hp
  by_cases h:n<128
  · rw [putL_small h,List.singleton_append,getL,if_neg (by omega)]
    have e:(UInt8.ofNat n).toNat=n:=by rw [UInt8.toNat_ofNat'];omega
    rw [e,if_neg (by omega),if_neg (by omega),Nat.mod_eq_of_lt h]
    rfl
  · rw [putL_more (by omega),List.cons_append,getL,if_neg (by omega)]
    have e:(UInt8.ofNat (n%128+128)).toNat=n%128+128:=by rw [UInt8.toNat_ofNat'];omega
    have hi8:i<=7:=by
     rcases Nat.lt_or_ge i 8 with h8 | h8
     · omega
     · have:i=8:=by omega
       subst this
       simp at hn
       omega
    have hn':n/128<128 ^ (9-(i+1)):=by
     have e9:9-i=(9-(i+1))+1:=by omega
     rw [e9,Nat.pow_succ] at hn
     omega
    rw [e,if_pos (by omega),ih (n/128) (by omega) (i+1) _ (by omega) hn' (.inr (by omega))]
    rw [show (n%128+128)%128=n%128 from by omega,List.length_cons,Nat.pow_succ]
    have hd:n=128*(n/128)+n%128:=by omega
    have e2:acc+n%128*128 ^ i+n/128*(128 ^ i*128)=acc+n*128 ^ i:=by
     generalize 128 ^ i=P
     rw [Nat.add_assoc]
     congr 1
     conv=>rhs;rw [hd]
     rw [Nat.add_mul,Nat.mul_comm P 128,<-Nat.mul_assoc,Nat.mul_comm (n/128) 128,Nat.add_comm]
    rw [e2]
    congr 1
    omega
theorem get_put0 (t:List UInt8) (n:Nat) (h:n<=9223372036854775807):getL (putL n++t) 0 0=(n,(putL n).length):=by
 have e:128 ^ (9-0)=9223372036854775808:=by decide
 rw [get_put t n 0 0 (by omega) (by omega) (.inl rfl)]
 simp
theorem put_of_get:∀ (l:List UInt8) (i acc:Nat),i<=8->(getL l i acc).2≠0->∃ (m:Nat) (t:List UInt8),l=putL m++t/\getL l i acc=(acc+m*128 ^ i,i+(putL m).length)/\m<128 ^ (9-i)/\(i=0\/0<m)
 | [],_,_,_,h=>absurd rfl h
 | c::r,i,acc,hi,h=>by
  have hc:=c.toNat_lt
  rw [getL,if_neg (by omega)] at h ⊢
  have hpow:0<128 ^ (9-(i+1)):=Nat.pow_pos (by decide)
  have e9:128 ^ (9-i)=128 ^ (9-(i+1))*128:=by rw [<-Nat.pow_succ];congr 1;omega
  by_cases h1:128<=c.toNat
  · rw [if_pos h1] at h ⊢
    by_cases h8:i+1<=8
    · obtain ⟨m,t,rfl,he,hm,hp⟩:=put_of_get r (i+1) _ h8 h
      have hp:0<m:=by rcases hp with h | h;omega;exact h
      have hP:putL (c.toNat%128+128*m)=c::putL m:=by
       rw [putL_more (n:=c.toNat%128+128*m) (by omega),show (c.toNat%128+128*m)%128+128=c.toNat from by omega,show (c.toNat%128+128*m)/128=m from by omega,UInt8.ofNat_toNat]
      refine ⟨c.toNat%128+128*m,t,by rw [hP];rfl,?_,by rw [e9];omega,.inr (by omega)⟩
      · rw [he,hP,List.length_cons,Nat.pow_succ]
        have e2:acc+c.toNat%128*128 ^ i+m*(128 ^ i*128)=acc+(c.toNat%128+128*m)*128 ^ i:=by
         generalize 128 ^ i=P
         rw [Nat.add_mul,Nat.add_assoc,Nat.mul_comm P 128,<-Nat.mul_assoc,Nat.mul_comm m 128]
        rw [e2]
        congr 1
        omega
    · rw [getL_nine r (i+1) _ (by omega)] at h
      exact absurd rfl h
  · rw [if_neg h1] at h ⊢
    by_cases h2:c.toNat=0/\0<i
    · rw [if_pos h2] at h;exact absurd rfl h
    · rw [if_neg h2]
      refine ⟨c.toNat,r,?_,?_,by rw [e9];omega,?_⟩
      · rw [putL_small (by omega),UInt8.ofNat_toNat];rfl
      · rw [putL_small (by omega),Nat.mod_eq_of_lt (by omega)];rfl
      · rcases Nat.eq_zero_or_pos i with h0 | h0
        · exact .inl h0
        · exact .inr (by omega)
theorem put_of_get0 {l:List UInt8} (h:(getL l 0 0).2≠0):∃ (t:List UInt8),l=putL (getL l 0 0).1++t/\(getL l 0 0).2=(putL (getL l 0 0).1).length/\(getL l 0 0).1<=9223372036854775807:=by
 obtain ⟨m,t,h1,h2,h3,_⟩:=put_of_get l 0 0 (by omega) h
 have e:128 ^ (9-0)=9223372036854775808:=by decide
 have e1:(getL l 0 0).1=m:=by rw [h2];simp
 have e2:(getL l 0 0).2=(putL m).length:=by rw [h2];simp
 rw [e1,e2]
 exact ⟨t,h1,rfl,by omega⟩
theorem get_fits {l:List UInt8}:(getL l 0 0).2<=l.length/\(getL l 0 0).2<=9/\(getL l 0 0).1<=9223372036854775807:=by
 by_cases h:(getL l 0 0).2=0
 · refine ⟨by omega,by omega,?_⟩
   -- nothing is read:the number is 0
   have key:∀ (l:List UInt8) (i acc:Nat),(getL l i acc).2=0->(getL l i acc).1=0:=by
    intro l
    induction l with
    | nil=>intro i acc _;rfl
    | cons c r ih=>
     intro i acc h
     rw [getL] at h ⊢
     split at h
     · rename_i h1;rw [if_pos h1]
     · rename_i h1
       rw [if_neg h1]
       split at h
       · rename_i h2;rw [if_pos h2];exact ih _ _ h
       · rename_i h2
         rw [if_neg h2]
         split at h
         · rename_i h3;rw [if_pos h3]
         · simp at h
   rw [key l 0 0 h];omega
 · obtain ⟨t,h1,h2,h3⟩:=put_of_get0 h
   refine ⟨?_,?_,h3⟩
   · have:=congrArg List.length h1
     rw [List.length_append] at this
     omega
   · rw [h2];exact putL_length9 h3
theorem nar_inj:∀ (a b:List UInt8) (x:Nat),a.length=b.length->nar a x=nar b x->a=b
 | [],[],_,_,_=>rfl
 | [],_::_,_,h,_=>by simp at h
 | _::_,[],_,h,_=>by simp at h
 | c::a,d::b,x,h,e=>by
  have hl:a.length=b.length:=by simpa using h
  rcases Nat.lt_trichotomy c.toNat d.toNat with h1 | h1 | h1
  · have:=nar_acc a b (256*x+c.toNat) (256*x+d.toNat) hl (by omega)
    simp only [nar] at e;omega
  · have hcd:c=d:=UInt8.toNat_inj.1 h1
    subst hcd
    rw [nar_inj a b _ hl e]
  · have:=nar_acc b a (256*x+d.toNat) (256*x+c.toNat) hl.symm (by omega)
    simp only [nar] at e;omega
def wideI (n:Int):List UInt8:=wideOf (n%18446744073709551616).toNat
def narI (l:List UInt8):Int:=wrap64 ((nar l 0:Nat):Int)
theorem wideI_length (n:Int):(wideI n).length=8:=wideOf_length _
theorem nar_lt8 {l:List UInt8} (h:l.length=8):nar l 0<18446744073709551616:=by
 have:=nar_lt l 0 0 (by decide)
 rw [h] at this
 have e:256 ^ (0+8)=18446744073709551616:=by decide
 omega
theorem wide_nar {l:List UInt8} (h:l.length=8):wideI (narI l)=l:=by
 have hl:=nar_lt8 h
 unfold wideI narI
 have e:(wrap64 ((nar l 0:Nat):Int)%18446744073709551616).toNat=nar l 0:=by unfold wrap64;omega
 rw [e]
 refine nar_inj _ _ 0 (by rw [wideOf_length,h]) (nar_wide _ hl)
theorem nar_wideI {n:Int} (h0: -9223372036854775808<=n) (h1:n<=9223372036854775807):narI (wideI n)=n:=by
 unfold narI wideI
 rw [nar_wide _ (by omega)]
 unfold wrap64
 omega
theorem narI_range (l:List UInt8): -9223372036854775808<=narI l/\narI l<=9223372036854775807:=by
 unfold narI wrap64;omega
def sum4 (x:Nat):List UInt8:=[UInt8.ofNat (x/16777216%256),UInt8.ofNat (x/65536%256),UInt8.ofNat (x/256%256),UInt8.ofNat (x%256)]
theorem sum4_length (x:Nat):(sum4 x).length=4:=rfl
theorem crcOf_lt (l:List UInt8):crcOf l<4294967296:=
 Nat.xor_lt_two_pow (n:=32) (by have:=crcL_lt l 4294967295 (by omega);omega) (by omega)
def sumOf (l:List UInt8):List UInt8:=sum4 (crcOf l)
theorem sumOf_length (l:List UInt8):(sumOf l).length=4:=rfl
def headL (g s:Int) (d:List UInt8):List UInt8:=245::(putL d.length++(wideI g++(wideI s++d)))
def frameL (g s:Int) (d:List UInt8):List UInt8:=headL g s d++sumOf (headL g s d)
theorem headL_length (g s:Int) (d:List UInt8):(headL g s d).length=(putL d.length).length+d.length+17:=by
 simp only [headL,List.length_cons,List.length_append,wideI_length];omega
theorem frameL_length (g s:Int) (d:List UInt8):(frameL g s d).length=(putL d.length).length+d.length+21:=by
 rw [frameL,List.length_append,headL_length,sumOf_length]
theorem frameL_pos (g s:Int) (d:List UInt8):22<=(frameL g s d).length:=by
 rw [frameL_length];have:=putL_pos d.length;omega
def mayB (g s:Int) (n:Nat):Bool:=decide (0<=g/\g<=1152921504606846976/\0<=s/\s<=1152921504606846976/\n<=65536)
theorem mayB_true {g s:Int} {n:Nat} (h:mayB g s n=true):0<=g/\g<=1152921504606846976/\0<=s/\s<=1152921504606846976/\n<=65536:=of_decide_eq_true h
theorem mayB_false {g s:Int} {n:Nat} (h:mayB g s n=false): ¬ (0<=g/\g<=1152921504606846976/\0<=s/\s<=1152921504606846976/\n<=65536):=of_decide_eq_false h
def encF (g s:Int) (d:List UInt8):List UInt8:=if mayB g s d.length=true then frameL g s d else []
theorem encF_may {g s:Int} {d:List UInt8} (h:mayB g s d.length=true):encF g s d=frameL g s d:=if_pos h
theorem encF_not {g s:Int} {d:List UInt8} (h:mayB g s d.length=false):encF g s d=[]:=if_neg (by rw [h];decide)
theorem putL3 {n:Nat} (h:n<=65536):(putL n).length<=3:=putL_length 2 n (by
 have:128 ^ 3=2097152:=by decide
 omega)
theorem encF_fits (g s:Int) (d:List UInt8):(encF g s d).length<=65560:=by
 by_cases h:mayB g s d.length=true
 · have h5:=(mayB_true h).2.2.2.2
   have:=putL3 h5
   rw [encF_may h,frameL_length];omega
 · rw [encF_not (by simpa using h)];simp
def sizeL (n:Int):Int:=if n<0\/65536<n then 0 else ((putL n.toNat).length:Int)+n+21
theorem sizeL_frame {g s:Int} {d:List UInt8} (h:mayB g s d.length=true):sizeL (d.length:Int)=((frameL g s d).length:Int):=by
 have:=(mayB_true h).2.2.2.2
 rw [sizeL,if_neg (by omega),frameL_length]
 simp only [Int.toNat_natCast]
 omega
def readR (r:List UInt8):Option (Int × Int × List UInt8):=
 if (getL r 0 0).2=0 then none
 else if (r.drop (getL r 0 0).2).length<16+(getL r 0 0).1 then none
 else some (narI ((r.drop (getL r 0 0).2).take 8),narI (((r.drop (getL r 0 0).2).drop 8).take 8),(((r.drop (getL r 0 0).2).drop 8).drop 8).take (getL r 0 0).1)
def readF:List UInt8->Option (Int × Int × List UInt8)
 | []=>none
 | _::r=>readR r
def decF (b:List UInt8):Option (Int × Int × List UInt8):=
 match readF b with
 | none=>none
 | some f=>if mayB f.1 f.2.1 f.2.2.length=true/\b.take (frameL f.1 f.2.1 f.2.2).length=frameL f.1 f.2.1 f.2.2 then some f else none
theorem decF_some {b:List UInt8} {f:Int × Int × List UInt8} (h:decF b=some f):readF b=some f/\mayB f.1 f.2.1 f.2.2.length=true/\b.take (frameL f.1 f.2.1 f.2.2).length=frameL f.1 f.2.1 f.2.2:=by
 unfold decF at h
 split at h
 · cases h
 · rename_i f' hf
   split at h
   · rename_i hc
     injection h with h
     subst h
     exact ⟨hf,hc⟩
   · cases h
theorem decF_fits {b:List UInt8} {f:Int × Int × List UInt8} (h:decF b=some f):(frameL f.1 f.2.1 f.2.2).length<=b.length:=by
 have:=congrArg List.length (decF_some h).2.2
 rw [List.length_take] at this
 omega
theorem readR_some {r:List UInt8} {f:Int × Int × List UInt8} (h:readR r=some f):(getL r 0 0).2≠0/\16+(getL r 0 0).1<=(r.drop (getL r 0 0).2).length/\f.2.2.length=(getL r 0 0).1/\f.2.2=(((r.drop (getL r 0 0).2).drop 8).drop 8).take (getL r 0 0).1/\
 f.1=narI ((r.drop (getL r 0 0).2).take 8)/\f.2.1=narI (((r.drop (getL r 0 0).2).drop 8).take 8):=by
 unfold readR at h
 split at h
 · cases h
 · rename_i hk
   split at h
   · cases h
   · rename_i hl
     injection h with h
     subst h
     refine ⟨hk,by omega,?_,rfl,rfl,rfl⟩
     simp only [List.length_take,List.length_drop] at hl ⊢
     omega
theorem dec_enc {g s:Int} {d:List UInt8} (h:mayB g s d.length=true) (t:List UInt8):decF (frameL g s d++t)=some (g,s,d):=by
 have hm:=mayB_true h
 have e1:frameL g s d++t=245::(putL d.length++(wideI g++(wideI s++(d++(sumOf (headL g s d)++t))))):=by
  simp only [frameL,headL,List.cons_append,List.append_assoc]
 have hg:=get_put0 (wideI g++(wideI s++(d++(sumOf (headL g s d)++t)))) d.length (by omega)
 have hr:readF (frameL g s d++t)=some (g,s,d):=by
  rw [e1,readF,readR,hg]
  have hp:=putL_pos d.length
  have w8:=wideI_length g
  have w9:=wideI_length s
  rw [if_neg (by simp only;omega)]
  simp only [List.drop_left]
  rw [if_neg (by simp only [List.length_append,w8,w9];omega)]
  have d1:List.take 8 (wideI g++(wideI s++(d++(sumOf (headL g s d)++t))))=wideI g:=by rw [<-w8];exact List.take_left' rfl
  have d2:List.drop 8 (wideI g++(wideI s++(d++(sumOf (headL g s d)++t))))=wideI s++(d++(sumOf (headL g s d)++t)):=by rw [<-w8];exact List.drop_left' rfl
  have d3:List.take 8 (wideI s++(d++(sumOf (headL g s d)++t)))=wideI s:=by rw [<-w9];exact List.take_left' rfl
  have d4:List.drop 8 (wideI s++(d++(sumOf (headL g s d)++t)))=d++(sumOf (headL g s d)++t):=by rw [<-w9];exact List.drop_left' rfl
  rw [d2,d1,d3,d4,List.take_left' rfl,nar_wideI (by omega) (by omega),nar_wideI (by omega) (by omega)]
 unfold decF
 rw [hr]
 simp only
 rw [if_pos ⟨h,List.take_left' rfl⟩]
theorem head_read {b0:UInt8} {r:List UInt8} {f:Int × Int × List UInt8} (h:readR r=some f) (h0:b0=245):
 headL f.1 f.2.1 f.2.2=(b0::r).take (1+(getL r 0 0).2+16+(getL r 0 0).1):=by
 obtain ⟨hk,hl,hd,e3,e1,e2⟩:=readR_some h
 obtain ⟨t,ht,hkk,hn⟩:=put_of_get0 hk
 have hdrop:r.drop (getL r 0 0).2=t:=by
  rw [hkk]
  generalize (getL r 0 0).1=n at ht
  rw [ht]
  exact List.drop_left' rfl
 rw [hdrop] at hl e3 e1 e2
 have w1:wideI f.1=t.take 8:=by rw [e1];exact wide_nar (by rw [List.length_take];omega)
 have w2:wideI f.2.1=(t.drop 8).take 8:=by rw [e2];exact wide_nar (by rw [List.length_take,List.length_drop];omega)
 rw [headL,w1,w2,hd,e3,h0]
 have e4:1+(getL r 0 0).2+16+(getL r 0 0).1=((getL r 0 0).2+(16+(getL r 0 0).1))+1:=by omega
 rw [e4,List.take_succ_cons]
 congr 1
 have e5:r.take ((getL r 0 0).2+(16+(getL r 0 0).1))=putL (getL r 0 0).1++t.take (16+(getL r 0 0).1):=by
  rw [hkk]
  generalize (getL r 0 0).1=n at *
  rw [ht,List.take_length_add_append]
 rw [e5]
 congr 1
 rw [show 16+(getL r 0 0).1=8+(8+(getL r 0 0).1) from by omega,List.take_add,List.take_add]
theorem doc_dec {b0:UInt8} {r:List UInt8} {f:Int × Int × List UInt8} (h:readR r=some f) (h0:b0=245):
 decF (b0::r)=if mayB f.1 f.2.1 f.2.2.length=true/\sumOf ((b0::r).take (1+(getL r 0 0).2+16+(getL r 0 0).1))=((b0::r).drop (1+(getL r 0 0).2+16+(getL r 0 0).1)).take 4 then some f else none:=by
 have hh:=head_read h h0
 obtain ⟨hk,hl,hd, -, -, -⟩:=readR_some h
 obtain ⟨t,ht,hkk,hn⟩:=put_of_get0 hk
 have hr:readF (b0::r)=some f:=h
 unfold decF
 rw [hr]
 simp only
 have e1:(frameL f.1 f.2.1 f.2.2).length=(1+(getL r 0 0).2+16+(getL r 0 0).1)+4:=by
  rw [frameL_length,hd,hkk];omega
 have e2:(b0::r).take (frameL f.1 f.2.1 f.2.2).length=(b0::r).take (1+(getL r 0 0).2+16+(getL r 0 0).1)++((b0::r).drop (1+(getL r 0 0).2+16+(getL r 0 0).1)).take 4:=by
  rw [e1,List.take_add]
 have e3:frameL f.1 f.2.1 f.2.2=(b0::r).take (1+(getL r 0 0).2+16+(getL r 0 0).1)++sumOf ((b0::r).take (1+(getL r 0 0).2+16+(getL r 0 0).1)):=by
  rw [frameL,hh]
 have e4:((b0::r).take (frameL f.1 f.2.1 f.2.2).length=frameL f.1 f.2.1 f.2.2)↔sumOf ((b0::r).take (1+(getL r 0 0).2+16+(getL r 0 0).1))=((b0::r).drop (1+(getL r 0 0).2+16+(getL r 0 0).1)).take 4:=by
  rw [e2,e3]
  exact ⟨fun h=>(List.append_cancel_left h).symm,fun h=>by rw [h]⟩
 simp only [e4]
theorem dec_short {b:List UInt8} (h:b.length<22):decF b=none:=by
 rcases hd:decF b with _ | f
 · rfl
 · have:=decF_fits hd;have:=frameL_pos f.1 f.2.1 f.2.2;omega
theorem dec_mark {b0:UInt8} {r:List UInt8} (h:b0≠245):decF (b0::r)=none:=by
 rcases hd:decF (b0::r) with _ | f
 · rfl
 · have h1:=(decF_some hd).2.2
   rw [frameL,headL,List.cons_append,List.length_cons,List.take_succ_cons] at h1
   injection h1 with h1
   exact absurd h1 h
theorem dec_none {b0:UInt8} {r:List UInt8} (h:(getL r 0 0).2=0\/65536<(getL r 0 0).1\/(b0::r).length<(putL (getL r 0 0).1).length+(getL r 0 0).1+21):decF (b0::r)=none:=by
 rcases hd:decF (b0::r) with _ | f
 · rfl
 · obtain ⟨h1,h2,h3⟩:=decF_some hd
   have h4:=readR_some (show readR r=some f from h1)
   have h5:=decF_fits hd
   rw [frameL_length,h4.2.2.1] at h5
   have h6:=(mayB_true h2).2.2.2.2
   rcases h with h | h | h
   · exact absurd h h4.1
   · omega
   · omega
theorem read_fits {b0:UInt8} {r:List UInt8} (hk:(getL r 0 0).2≠0) (hs:(putL (getL r 0 0).1).length+(getL r 0 0).1+21<=(b0::r).length):∃ f,readR r=some f:=by
 obtain ⟨t,ht,hkk,hn⟩:=put_of_get0 hk
 rw [List.length_cons] at hs
 unfold readR
 rw [if_neg hk,if_neg (by rw [List.length_drop];omega)]
 exact ⟨_,rfl⟩
def Blk (w:World) (g:Nat) (L:List Value) (t:TypeId):Prop:=w.heap[g]? =some (.cells L.toArray t (0,0))
section
variable {w w':World} {g i:Nat} {L:List Value} {t:TypeId}
theorem Blk.lt (h:Blk w g L t):g<w.heap.size:=by
 rcases Nat.lt_or_ge g w.heap.size with hlt | hge
 · exact hlt
 · unfold Blk at h;rw [Array.getElem?_eq_none hge] at h;cases h
theorem Blk.cell (h:Blk w g L t) (hi:i<L.length):w.cell? ⟨g,i,none⟩=some L[i]:=by
 rw [cell_of_row w g i L.toArray t (0,0) h];simp [hi]
theorem Blk.free (h:Blk w g L t) (i:Nat):w.frozen? ⟨g,i,none⟩=false:=frozen_of_row w g i L.toArray t h
theorem Blk.set (h:Blk w g L t) (i:Nat) (v:Value):Blk (w.setCell ⟨g,i,none⟩ v) g (L.set i v) t:=by
 have:=heap_setCell_same w g i L.toArray t v h
 unfold Blk;rw [this];simp
theorem Blk.other (h:Blk w g L t) (a:Addr) (v:Value) (hg:g≠a.block):Blk (w.setCell a v) g L t:=by
 unfold Blk;rw [heap_setCell_other w a g v hg];exact h
theorem Blk.drew (h:Blk w g L t):Blk w.drew g L t:=h
theorem Blk.below {B:Nat} (h:Blk w g L t) (hb:Below B w w') (hg:g<B):Blk w' g L t:=by
 unfold Blk;rw [hb.block g hg];exact h
theorem Blk.alloc (h:Blk w g L t) (o:Obj):Blk (w.alloc o) g L t:=by
 have:=heap_alloc_old w o h.lt
 unfold Blk;rw [this];exact h
theorem Blk.new (w:World) (L:List Value) (t:TypeId):Blk (w.alloc (.cells L.toArray t)) w.heap.size L t:=heap_alloc_new w _
end
theorem made_len {e:TypeId} {w0 w:World} {l:List UInt8} {n:Nat} {v:Value} (h:Made e w0 l v w) (hn:l.length=n):∃ A c,v= .slice A n c/\Made e w0 l (.slice A n c) w:=by
 subst hn
 obtain ⟨A,c,rfl,_⟩:=h.form
 exact ⟨A,c,rfl,h⟩
theorem Made.at_len {e:TypeId} {w0 w:World} {l:List UInt8} {A:Option Addr} {n c:Nat} (h:Made e w0 l (.slice A n c) w):l.length=n/\Seen w A l:=by
 obtain ⟨A',c',hv,hs⟩:=h.form
 injection hv with h1 h2 h3
 subst h1
 exact ⟨h2.symm,hs⟩
theorem Made.set {e:TypeId} {w0 w:World} {l:List UInt8} {A:Option Addr} {n c k:Nat} (h:Made e w0 l (.slice A n c) w) (hk:k<n) (x:UInt8):
 ∃ g,A=some ⟨g,0,none⟩/\(∃ v,w.cell? ⟨g,k,none⟩=some v)/\w.frozen? ⟨g,k,none⟩=false/\Made e w0 (l.set k x) (.slice A n c) (w.setCell ⟨g,k,none⟩ (.int .u8 (x.toNat:Int))):=by
 have hl:=h.at_len.1
 obtain ⟨hown,hbel⟩:=h
 rcases hown.2 with ⟨hv,h0⟩ | ⟨g,cap,cur,hv,hg,hh,hnc,hcm,hcs,ht⟩
 · injection hv with _ h2 _;omega
 · injection hv with h1 h2 h3
   subst h1 h3
   have hB:Blk w g cur.toList e:=by unfold Blk;rw [Array.toArray_toList];exact hh
   have hkc:k<cur.toList.length:=by rw [Array.length_toList,hcs];omega
   refine ⟨g,rfl,⟨_,hB.cell hkc⟩,hB.free k,⟨⟨?_,.inr ⟨g,c,(cur.toList.set k (.int .u8 (x.toNat:Int))).toArray,?_,hg,hB.set k _,by rw [List.length_set];omega,hcm,?_,?_⟩⟩,hbel.setCell hg _⟩⟩
   · simp
   · rw [List.length_set,hl]
   · simpa using hcs
   · have hx:bv x= .int .u8 (x.toNat:Int):=rfl
     rw [List.length_set,List.map_set,<-ht,<-hx]
     simp [List.take_set]
section
variable {w w':World} {row:Option Nat}
theorem only_setCell {g:Nat} (h:w.grownBy w' (some g)) (i:Nat) (u:Value):w.grownBy (w'.setCell ⟨g,i,none⟩ u) (some g):=
 ⟨h.os,h.tape,h.output,by simpa [World.setCell] using h.size,fun k hk hne=>(heap_setCell_other w' ⟨g,i,none⟩ k u (fun e=>hne (by rw [e]))).trans (h.block k hk hne)⟩
theorem only_below {w1:World} (h:w.grownBy w' row) (hb:Below w'.heap.size w' w1):w.grownBy w1 row:=
 ⟨hb.os.trans h.os,hb.tape.trans h.tape,hb.output.trans h.output,Nat.le_trans h.size hb.size,fun k hk hne=>(hb.block k (Nat.lt_of_lt_of_le hk h.size)).trans (h.block k hk hne)⟩
theorem only_of_below (h:Below w.heap.size w w') (row:Option Nat):w.grownBy w' row:=⟨h.os,h.tape,h.output,h.size,fun i hi _=>h.block i hi⟩
theorem only_setRow {g:Nat} (h:w.grownBy w' (some g)) (cs:Array Value):w.grownBy (w'.setRow g cs) (some g):=
 ⟨h.os,h.tape,h.output,by simpa using h.size,fun k hk hne=>(setRow_other w' g k cs (fun e=>hne (by rw [e]))).trans (h.block k hk hne)⟩
theorem only_trans {w'':World} (h:w.grownBy w' row) (k:w'.grownBy w'' row):w.grownBy w'' row:=
 ⟨k.os.trans h.os,k.tape.trans h.tape,k.output.trans h.output,Nat.le_trans h.size k.size,fun i hi hn=>(k.block i (Nat.lt_of_lt_of_le hi h.size) hn).trans (h.block i hi hn)⟩
end
theorem own_form {wr:World} {base:Nat} {e:TypeId} {v:Value} {n:Nat} {xs:List Value} (h:wr.ownsRow base e 1 v n xs):∃ A c,v= .slice A n c:=by
 rcases h.2 with ⟨rfl,h0⟩ | ⟨g,cap,cur,rfl,_⟩
 · exact ⟨none,0,by rw [h0]⟩
 · exact ⟨_,_,rfl⟩
section
variable {e:TypeId} {w0 w w':World}
theorem Made.below {l:List UInt8} {v:Value} (h:Made e w0 l v w) (hb:Below w.heap.size w w'):Made e w0 l v w':=
 ⟨h.1.kept (only_of_below hb none) (by cases v.ownBlock<;>simp),hop h.2 hb⟩
end
end Go.Proofs.YtdaahapbpnjkfaaGreat
