import Derived.Test.YtjafgnohlkkopaaGreatDoorPartP1
import Derived.Test.YtjafgnohlkkopaaGreatDoorPart25
import Derived.Test.YtjafgnohlkkopaaGreatDoorPart30
import Derived.Test.YtjafgnohlkkopaaGreatDoorPart09
import Derived.Shelf.Bits.Mul64
import Derived.Test.YtjafgnohlkkopaaGreatDoorPart32
import Derived.Test.YtjafgnohlkkopaaGreatDoorPart17
import Derived.Lib.SmallJoins
import Derived.Lib.SlBytesConst
set_option linter.unusedVariables false
set_option maxHeartbeats 8000000
set_option maxRecDepth 100000
namespace Go.Proofs.YtjafgnohlkkopaaGreatDoor
open Go.RowKit
def Bx (w:World) (g:Nat):Prop:=∀ j v,w.cell? ⟨g,j,none⟩=some v->∃ a n c,v=.slice a n c
theorem cR3 {w:World} {g:Nat} {t:TypeId} (h:aC w g #[.slice none 0 0,.slice none 0 0] t):Bx w g:=fun j v hv=>by
 rw[h.cell j] at hv
 match j with
 | 0=>simp at hv; exact⟨_,_,_,hv.symm⟩
 | 1=>simp at hv; exact⟨_,_,_,hv.symm⟩
 | j+2=>simp at hv
theorem Bx.noInt {w:World} {g b off:Nat} {k:IntKind} {x:Int} (h:Bx w g) (hc:w.cell? ⟨b,off,none⟩=some (.int k x)):b≠g:=fun e=>by
 subst e
 obtain⟨_,_,_,f⟩:=h _ _ hc
 cases f
theorem Bx.noStr {w:World} {g b off:Nat} {x:ByteArray} (h:Bx w g) (hc:w.cell? ⟨b,off,none⟩=some (.string x)):b≠g:=fun e=>by
 subst e
 obtain⟨_,_,_,f⟩:=h _ _ hc
 cases f
section
variable {Q:Nat->Prop} {w:World} {g:Nat}
theorem Bx.nums (hx:Bx w g) {k:IntKind} {a:Option Addr} {n:Nat} {l:List Int} (h:aI Q k w a n l):aI (fun b=>Q b/\b≠g) k w a n l:=by
 refine⟨h.1,h.2.1,fun hn=>?_⟩
 obtain⟨b,off,rfl,hlt,hq,hc⟩:=h.2.2 hn
 exact⟨b,off,rfl,hlt,⟨hq,hx.noInt (hc 0 hn)⟩,hc⟩
theorem Bx.strs (hx:Bx w g) {a:Option Addr} {n:Nat} {l:List ByteArray} (h:gJ Q w a n l):gJ (fun b=>Q b/\b≠g) w a n l:=by
 refine⟨h.1,fun hn=>?_⟩
 obtain⟨b,off,rfl,hlt,hq,hc⟩:=h.2 hn
 exact⟨b,off,rfl,hlt,⟨hq,hx.noStr (hc 0 hn)⟩,hc⟩
theorem Bx.ents (hx:Bx w g) {a:Option Addr} {n:Nat} {l:List Ent} (h:dS Q w a n l):dS (fun b=>Q b/\b≠g) w a n l:=by
 refine⟨h.1,h.2.1,fun hn=>?_⟩
 obtain⟨b,off,rfl,hlt,hq,hc⟩:=h.2.2 hn
 exact⟨b,off,rfl,hlt,⟨hq,hx.noStr (hc 0 hn).c0⟩,hc⟩
theorem Bx.snaps (hx:Bx w g) {a:Option Addr} {n:Nat} {l:List bQ} (h:dV Q w a n l):dV (fun b=>Q b/\b≠g) w a n l:=by
 refine⟨h.1,fun hn=>?_⟩
 obtain⟨b,off,rfl,hlt,hq,hc⟩:=h.2 hn
 obtain⟨_,_,_,h0⟩:=hc 0 hn
 refine⟨b,off,rfl,hlt,⟨hq,hx.noStr h0.c0⟩,fun i hi=>?_⟩
 obtain⟨fa,fn,fc,hs⟩:=hc i hi
 exact⟨fa,fn,fc,hs.c0,hs.c1,hx.ents hs.files,hs.small,hs.caps⟩
theorem Bx.sets (hx:Bx w g) {a:Option Addr} {n:Nat} {l:List aK} (h:fQ Q w a n l):fQ (fun b=>Q b/\b≠g) w a n l:=by
 refine⟨h.1,fun hn=>?_⟩
 obtain⟨b,off,rfl,hlt,hq,hc⟩:=h.2 hn
 obtain⟨_,h0⟩:=hc 0 hn
 refine⟨b,off,rfl,hlt,⟨hq,hx.noStr h0.c0⟩,fun i hi=>?_⟩
 obtain⟨v,hs⟩:=hc i hi
 exact⟨v,hs.c0,hs.c1,hs.c2,⟨hs.ok.name,hs.ok.small,hx.ents hs.ok.files,hx.snaps hs.ok.snaps,hs.ok.caps⟩⟩
theorem Bx.tens (hx:Bx w g) {a:Option Addr} {n:Nat} {l:List aP} (h:iA Q w a n l):iA (fun b=>Q b/\b≠g) w a n l:=by
 refine⟨h.1,fun hn=>?_⟩
 obtain⟨b,off,rfl,hlt,hq,hc⟩:=h.2 hn
 obtain⟨_,_,_,h0⟩:=hc 0 hn
 refine⟨b,off,rfl,hlt,⟨hq,hx.noInt h0.c0⟩,fun i hi=>?_⟩
 obtain⟨sa,sn,sc,hs⟩:=hc i hi
 exact⟨sa,sn,sc,hs.c0,hs.c1,hs.c2,⟨hx.sets hs.ok.sets,hs.ok.kb,hs.ok.qb,hs.ok.caps⟩⟩
theorem Bx.store (hx:Bx w g) {w':World} (on:Only (fun b=>b=g) w w') {a:Option Addr} {n:Nat} {B:Nat->Blk} (h:aO w a n B):aO w' a n B:=fun hn=>by
 obtain⟨b,off,rfl,hlt,hc⟩:=h hn
 obtain⟨_,_,_,_,_,_,h0⟩:=hc 0 hn
 have hB:dO (fun b=>True/\b≠g) w b off n B:=fun i hi=>by
  obtain⟨ka,kn,kc,ba,bn,bc,hb⟩:=hc i hi
  exact⟨ka,kn,kc,ba,bn,bc,hb.c0,hb.c1,hb.c2,hb.c3,hx.nums hb.kids,hx.nums hb.bytes,hb.refs,hb.level,hb.caps⟩
 exact⟨b,off,rfl,Nat.lt_of_lt_of_le hlt on.size,(on.blocks hB (hx.noInt h0.c0) hlt (fun k q e=>q.2 e)).weaken (fun _ _ _=>trivial)⟩
end
structure RG (w:World) (n:Nat) (B:Nat->Blk) (tn:Nat) (l:List aP) (q:Nat) (xs:List (Int×aM)) (g:Nat) (ta:Option Addr) (rb:Nat) (D:Nat->Blk) (l':List aP) (v:Nat->lG) (ys:List jJ):Prop where
 pool:fU (fun _=>True) w (some ⟨g,0,none⟩) n D ta tn l'
 ans:lH w rb q v
 ok:aR n D l'
 runs:gN n B l xs D l' ys
 len:ys.length=q
 told:∀ i,i<q->kY (fun _=>True) w (v i) (ys.getD i jJ.zero)
section
variable {w w':World} {n:Nat} {B:Nat->Blk} {tn:Nat} {l:List aP} {q:Nat} {xs:List (Int×aM)} {g:Nat} {ta:Option Addr} {rb:Nat} {D:Nat->Blk} {l':List aP} {v:Nat->lG} {ys:List jJ}
theorem RG.below (h:RG w n B tn l q xs g ta rb D l' v ys) (b:Below w.heap.size w w'):RG w' n B tn l q xs g ta rb D l' v ys:=⟨h.pool.below b,h.ans.below b,h.ok,h.runs,h.len,fun i hi=>(h.told i hi).below b⟩
theorem RG.box {k:Nat} {t:TypeId} (h:RG w n B tn l q xs g ta rb D l' v ys) (hx:aC w k #[.slice none 0 0,.slice none 0 0] t) (on:Only (fun b=>b=k) w w'):RG w' n B tn l q xs g ta rb D l' v ys:=by
 have bx:=cR3 hx
 refine⟨⟨bx.store on h.pool.store,(on.tens (bx.tens h.pool.tens) (fun b hb e=>hb.2 e)).weaken (fun _ _ _=>trivial)⟩,h.ans.only on (fun e=>?_),h.ok,h.runs,h.len,fun i hi=>?_⟩
 ·obtain⟨cs,hc,hs,_⟩:=h.ans
  subst e
  have:(Obj.cells cs 41 (0,0))=.cells #[.slice none 0 0,.slice none 0 0] t (0,0):=Option.some.inj (hc.symm.trans hx)
  simp only[Obj.cells.injEq] at this
  rw[this.1] at hs
  simp at hs
  omega
 ·have ht:=h.told i hi
  exact⟨ht.e,ht.n,(on.strs (bx.strs ht.lists.names) (fun b hb e=>hb.2 e)).weaken (fun _ _ _=>trivial),(on.nums (bx.nums ht.lists.bytes) (fun b hb e=>hb.2 e)).weaken (fun _ _ _=>trivial),ht.lists.caps⟩
def cS8 (W wc:World) (n:Nat) (B:Nat->Blk) (tn:Nat) (l:List aP) (q:Nat) (xs:List (Int×aM)) (v11 v15 v16:Value):Prop:=
 ∃ (k g:Nat) (ta:Option Addr) (tc rb:Nat) (D:Nat->Blk) (l':List aP) (v:Nat->lG) (ys:List jJ),v11=.int .i64 0/\v15=.pointer (some ⟨k,0,none⟩)/\v16=.slice (some ⟨rb,0,none⟩) q q/\aC wc k #[.slice (some ⟨g,0,none⟩) n n,.slice ta tn tc] 27/\Below W.heap.size W wc/\RG wc n B tn l q xs g ta rb D l' v ys
theorem cN2 {W:World} {tc:Nat} (bb:Below W.heap.size W w) (h:RG w n B tn l q xs g ta rb D l' v ys):cS8 W (w.alloc (.cells #[.slice (some ⟨g,0,none⟩) n n,.slice ta tn tc] 27)) n B tn l q xs (.int .i64 0) (.pointer (some ⟨w.heap.size,0,none⟩)) (.slice (some ⟨rb,0,none⟩) q q):=
 ⟨_,g,ta,tc,rb,D,l', v,ys,rfl,rfl,rfl,aB w _ _,Below.tr bb (aA _ _),h.below (aA _ _)⟩
theorem cN3 {W:World} {tc k:Nat} (ka:aC w k #[.slice none 0 0,.slice none 0 0] 27) (hk:W.heap.size<=k) (bb:Below W.heap.size W w) (h:RG w n B tn l q xs g ta rb D l' v ys):cS8 W (qI w k (.slice (some ⟨g,0,none⟩) n n) (.slice ta tn tc)) n B tn l q xs (.int .i64 0) (.pointer (some ⟨k,0,none⟩)) (.slice (some ⟨rb,0,none⟩) q q):=
 ⟨k,g,ta,tc,rb,D,l', v,ys,rfl,rfl,rfl,yN _ _ ka,bb.trans ((fP _ _ _ _).below hk),h.box ka (Only.of_kept (M:=fun b=>b=k) (fP _ _ _ _) rfl)⟩
theorem rg_of {e:Ending} (h:aQ7 e w n B tn l q xs):∃ g ta tc rb D l' v ys,e=.returned (.tuple #[.agg #[.slice (some ⟨g,0,none⟩) n n,.slice ta tn tc],.slice (some ⟨rb,0,none⟩) q q,.int .i64 0])/\RG w n B tn l q xs g ta rb D l' v ys:=by
 obtain⟨g,ta,tc,rb,D,l', v,ys,he,h1,h2,h3,h4,h5,h6⟩:=h
 exact⟨g,ta,tc,rb,D,l', v,ys,he,h1,h2,h3,h4,h5,h6⟩
end
theorem aW7 (a1 a2:Option Addr) (n c d:Nat) (Q1 Q2:Nat->Prop) (xs:List ByteArray) (w:World) (hn:n<=1000) (h1:gJ Q1 w a1 n xs) (h2:gJ Q2 w a2 n xs):
 Calls Tryz.prog 21 #[.slice a1 n c,.slice a2 n d] w fun e w'=>e=.returned (.bool true)/\∃ q,w'=w.drewN q:=by
 replace h1:=hid h1
 replace h2:=hid h2
 go_enter Tryz.func21,Tryz.ntmps21
 go_wp2
 go_loopw [13] (fun i wr=>∃ k q:Nat,k<=n/\i=.int .i64 k/\wr=w.drewN q) (fun i _=>n-(intOf i).toNat)
 case atStart=>exact⟨0,0,Nat.zero_le _,rfl,rfl⟩
 case round=>
  obtain⟨k,q,hk,rfl,rfl⟩:=hrel
  by_cases hlt:k<n
  ·obtain⟨b1,o1,rfl,_,_,hc1⟩:=h1.out.2 (by omega)
   obtain⟨b2,o2,rfl,_,_,hc2⟩:=h2.out.2 (by omega)
   have g1:=hc1 k (by omega)
   have g2:=hc2 k (by omega)
   clear hc1 hc2 h1 h2
   generalize xs.getD k ByteArray.empty=x at *
   go_wp2_with fail
   go_quiet (fail)
   go_wp2
   go_roundw
   case rel=>exact⟨k+1,q+nq,by omega,by go_num,rfl⟩
   case measure=>simp[intOf]; omega
  ·have:k=n:=by omega
   subst this
   clear h1 h2
   go_wp2
   go_ret
   exact⟨rfl,q,rfl⟩
def lG.val (x:lG):Value:=.agg #[.int .i64 x.e,.int .i64 x.N,.slice x.ya x.yn x.yc,.slice x.y x.ln x.lc]
theorem aT4 (x z:lG) (d:jJ) (Q R:Nat->Prop) (w:World) (hx:kY Q w x d) (hz:kY R w z d) (h6:d.S.length<=1000):
 Calls Tryz.prog 9 #[x.val,z.val] w fun e w'=>e=.returned (.bool true)/\Below w.heap.size w w':=by
 unfold lG.val
 obtain⟨e1,n1,⟨s1,t1,_⟩⟩:=hx
 obtain⟨e2,n2,⟨s2,t2,_⟩⟩:=hz
 rw[e1,n1,e2,n2]
 generalize d.e=de at *
 generalize d.N=dn at *
 clear e1 n1 e2 n2
 obtain⟨_,_,ya,yn,yc,y,ln,lc⟩:=x
 obtain⟨_,_,za,zn,zc,z,mn,mc⟩:=z
 dsimp only at *
 have l1:=s1.1
 have l2:=s2.1
 obtain rfl:yn=zn:=l1.symm.trans l2
 have hn:Hid (yn<=1000):=hid (by omega)
 have b0:=aW w (.cells #[.int .i64 de,.int .i64 dn,.slice ya yn yc,.slice y ln lc] 41) (.cells #[.int .i64 de,.int .i64 dn,.slice za yn zc,.slice z mn mc] 41)
 replace s1:=hid (s1.below b0)
 replace s2:=hid (s2.below b0)
 replace t1:=hid (t1.below b0)
 replace t2:=hid (t2.below b0)
 clear l1 l2 h6
 go_enter Tryz.func9,Tryz.ntmps9
 go_wp2_with fail
 refine(aW7 ya za yn yc zc Q R d.S _ hn.out s1.out s2.out).mono ?_
 rintro e w1 ⟨rfl,q,rfl⟩
 replace t1:=hid (t1.out.below (below_drewN _ _ q))
 replace t2:=hid (t2.out.below (below_drewN _ _ q))
 replace b0:=hid (b0.trans (below_drewN _ _ q))
 clear s1 s2
 go_wp2_with fail
 refine(kN y z ln lc mn mc Q R d.b _ t1.out t2.out).mono ?_
 rintro e w2 ⟨rfl,rfl⟩
 go_wp2_with fail
 go_ret
 exact⟨rfl,b0.out⟩
theorem cD7 {n:Nat} {B:Nat->Blk} {t:aP} (h:lD n B t) (a:aM):(aH3 t a).length<=6:=by
 unfold aH3
 by_cases hk:a.kind=11\/a.kind=12
 ·rw[if_pos hk]
  cases hs:setOf t a.set.data.toList with
  | none=>simp
  | some x=>
    have hx:=(h.sets x (List.mem_of_find?_eq_some hs)).shape.few
    show (uX x a).length<=6
    unfold uX
    split
    ·rw[List.length_map]; exact hx
    ·simp
 ·rw[if_neg hk]; simp
theorem bX6 {n:Nat} {B D:Nat->Blk} {l m:List aP} {xs:List (Int×aM)} {ys:List jJ} (hP:aR n B l) (h:gN n B l xs D m ys):aR n D m/\∀ y∈ys,y.S.length<=6:=by
 induction h with
 | nil=>exact⟨hP,fun y hy=>by cases hy⟩
 | miss xs D m ys i a h hno ih=>
   refine⟨ih.1,fun y hy=>?_⟩
   rcases List.mem_append.1 hy with hy | hy
   ·exact ih.2 y hy
   ·rw[List.mem_singleton.1 hy]; simp
 | step xs D m ys k a t D' m' e1 N h hk hb hc ih=>
   refine⟨(hc.is ih.1 hk hb).ok,fun y hy=>?_⟩
   rcases List.mem_append.1 hy with hy | hy
   ·exact ih.2 y hy
   ·rw[List.mem_singleton.1 hy]; exact cD7 (ih.1.tens t (List.mem_of_getElem? hk)) a
theorem bK8 (i:Int):∀ (l:List aM),(List.replicate l.length i).zip l=l.map fun a=>(i,a)
 | []=>rfl
 | a::l=>by rw[List.length_cons,List.replicate_succ,List.zip_cons_cons,bK8 i l,List.map_cons]
theorem cJ0 {ys:List jJ} {j:Nat} {y:jJ} (h:ys[j]? =some y):ys.getD j jJ.zero=y:=by rw[List.getD_eq_getElem?_getD,h]; rfl
theorem bP7 (m:Nat) (hm:m<=60) (w:World):Calls Tryz.prog 59 #[.int .u64 1,.int .u64 m] w fun e w'=>e=.returned (.tuple #[.int .u64 0,.int .u64 m])/\w'=w:=by
 have e1:bits .and .u64 (m:Int) 4294967295=(m:Int):=(Mul64.maskN m (by omega)).trans (by omega)
 have e2:bits .and .u64 1 4294967295=1:=by decide +kernel
 have e3:bits .and .u64 0 4294967295=0:=by decide +kernel
 have e4:IntKind.u64.wrap (m:Int)=(m:Int):=Mul64.wrapN m (by omega)
 have e5:(m:Int) / 4294967296=0:=by omega
 go_enter Tryz.func59,Tryz.ntmps59
 go_wp2
 go_ret2
 exact⟨rfl,rfl⟩
theorem mul_one (m:Nat) (hm:m<=60) (w:World):Calls Tryz.prog 28 #[.int .u64 1,.int .u64 m] w fun e w'=>e=.returned (.tuple #[.int .u64 0,.int .u64 m])/\w'=w:=by
 go_enter Tryz.func28,Tryz.ntmps28
 go_wp2_with fail
 refine(bP7 m hm w).mono ?_
 rintro e w1 ⟨rfl,rfl⟩
 go_wp2_with fail
 go_ret2
 exact⟨rfl,rfl⟩
theorem bZ5 (n:Nat) (hn:n<=60) (w:World):∃ w', (Instr.makeSlice 36 (.int .i64 n) (.int .i64 n)).run Tryz.prog w=.ok (.slice (some ⟨w.heap.size,0,none⟩) n n) w'/\aC w' w.heap.size ((List.replicate n (0:Int)).map (Value.int .i64)).toArray 3/\Below w.heap.size w w':=by
 obtain⟨i0,hi,hz0,hz1,hz2⟩:=info_parts Tryz.infoInt
 refine⟨w.alloc (.cells (madeCells (Value.int .i64 0).cells (n*1)) 3),?_,?_,aA _ _⟩
 ·rw[run_makeSlice (P:=Tryz.prog) w 36 3 i0 _ Tryz.underlying36 hi hz0 .i64 .i64 n n (by omega) (by omega) (by rw[hz1]; omega) (by rw[hz2]; omega) (by omega),hz1]
  simp
 ·have e:madeCells (Value.int .i64 0).cells (n*1)=((List.replicate n (0:Int)).map (Value.int .i64)).toArray:=by
   apply Array.toList_inj.1
   rw[xQ]
   rw[List.map_replicate]
   unfold rowOf
   rw[List.eq_replicate_iff]
   simp
  rw[e]
  exact aB w _ _
theorem Tryz.sizeInt1:(Tryz.prog.info? 3).map (·.size)=some 1:=by kernel_rfl
theorem aP3 {w w0:World} {B g off dLen dCap sLen sCap m:Nat} {sp:Option Addr} {t:TypeId} (Y X:List Value) (hY:aC w g Y.toArray t) (hm:X.length=m) (hn:m=Nat.min sLen dLen)
 (hsrc:0<m->∃ ad,sp=some ad/\∀ j v,X[j]? =some v->w.cell? (ad.add j)=some v) (hfit:off+m<=Y.length) (h1:∀ v∈X,v.oneCell'=true) (hb:Below B w0 w) (hBg:B<=g):
 ∃ w', (∀ ty,(Builtin.copy_ #[36,36] ty #[.slice (some ⟨g,off,none⟩) dLen dCap,.slice sp sLen sCap]).run Tryz.prog w=.ok (goInt m) w')/\aC w' g (splice Y off X).toArray t/\Below B w0 w':=by
 by_cases h0:m=0
 ·obtain rfl:X=[]:=List.eq_nil_of_length_eq_zero (by omega)
  subst h0
  exact⟨w,fun ty=>run_copy_none (P:=Tryz.prog) w 36 36 ty 3 _ sp dLen dCap sLen sCap Tryz.underlying36 Tryz.sizeInt1 hn.symm,by simpa [splice] using hY,hb⟩
 ·obtain⟨ad,rfl,hs⟩:=hsrc (by omega)
  refine⟨w.setRow g (Y.take off++(X++Y.drop (off+X.length))).toArray,fun ty=>?_,?_,below_setRow hb hBg _⟩
  ·have:=run_copy_row (P:=Tryz.prog) w 36 36 ty 3 g off dLen dCap ad sLen sCap Y.toArray t X Tryz.underlying36 Tryz.sizeInt1 hY (by omega) hs (by simp; omega) h1
   rw[<-hm]
   rw[List.append_assoc] at this
   exact this
  ·exact setRow_heap w g _ _ t _ hY
def qY (i:Int) (m k:Nat):List Value:=(List.replicate k i++List.replicate (m-k) 0).map (Value.int .i64)
theorem aK8 (i:Int) {m k:Nat} (h:k<=m):(qY i m k).length=m:=by simp[qY]; omega
theorem aA4 (i:Int) {m k d:Nat} (h:k+d<=m):splice (qY i m k) k ((List.replicate d i).map (Value.int .i64))=qY i m (k+d):=by
 unfold splice qY
 rw[List.map_append,List.take_left' (by simp),List.length_map,List.length_replicate]
 have e:m-k=d+(m-(k+d)):=by omega
 rw[e,<-List.replicate_append_replicate (n:=d),<-List.replicate_append_replicate (n:=k),List.map_append,List.map_append,List.map_append,List.append_assoc]
 congr 1
 congr 1
 rw[<-List.drop_drop,List.drop_left' (by simp),List.drop_left' (by simp)]
theorem bN2 {w:World} {g:Nat} {i:Int} {m k d:Nat} {t:TypeId} (h:aC w g (qY i m k).toArray t) (hd:d<=k):∀ j v,((List.replicate d i).map (Value.int .i64))[j]? =some v->w.cell? ((⟨g,0,none⟩:Addr).add j)=some v:=fun j v hj=>by
 have ea:(⟨g,0,none⟩:Addr).add j=⟨g,j,none⟩:=by unfold Addr.add; split<;>simp_all
 rw[ea,h.cell j,List.getElem?_toArray]
 rw[List.getElem?_map,Option.map_eq_some_iff] at hj
 obtain⟨x,hx,rfl⟩:=hj
 obtain⟨hl,rfl⟩:=List.getElem?_eq_some_iff.1 hx
 rw[List.length_replicate] at hl
 unfold qY
 rw[List.getElem?_map,List.getElem?_append_left (by rw[List.length_replicate]; omega),List.getElem?_replicate,if_pos (by omega),List.getElem_replicate]
 rfl
theorem bA0 (i:Int) (d:Nat):∀ v∈(List.replicate d i).map (Value.int .i64),v.oneCell'=true:=by
 intro v hv
 obtain⟨x,_,rfl⟩:=List.mem_map.1 hv
 rfl
theorem bF5 {w:World} {g:Nat} {i:Int} {m:Nat} {t:TypeId} (hi:-9223372036854775808<=i/\i<=9223372036854775807) (h:aC w g (qY i m m).toArray t):aI (fun _=>True) .i64 w (some ⟨g,0,none⟩) m (List.replicate m i):=by
 refine⟨by simp,fun x hx=>?_,fun _=>⟨g,0,rfl,h.lt,trivial,fun j hj=>?_⟩⟩
 ·rw[List.eq_of_mem_replicate hx]
  simp[Lit.wf,IntKind.min,IntKind.max,IntKind.signed,IntKind.bits]
  omega
 ·rw[Nat.zero_add,h.cell j,List.getElem?_toArray]
  unfold qY
  simp[hj,List.getD]
theorem sS (b off c m:Nat) (i:Int) (w:World) (hm:m<=60) (hb:b<w.heap.size) (hc:w.cell? ⟨b,off,none⟩=some (.int .i64 i)) (hi:-9223372036854775808<=i/\i<=9223372036854775807):
 Calls Tryz.prog 15 #[.slice (some ⟨b,off,none⟩) 1 c,.int .i64 m] w fun e w'=>(∃ g,e=.returned (.slice (some ⟨g,0,none⟩) m m)/\aI (fun _=>True) .i64 w' (some ⟨g,0,none⟩) m (List.replicate m i))/\Below w.heap.size w w':=by
 have u1:IntKind.u64.wrap (m:Int)=(m:Int):=Mul64.wrapN m (by omega)
 have d1:decide ((m:Int)<0)=false:=by simp
 have d2:decide ((9223372036854775807:Int)<(m:Int))=false:=by simp; omega
 have i1:IntKind.i64.wrap (m:Int)=(m:Int):=by rw[IntKind.wrap_i64]; omega
 replace hc:=hid hc
 go_enter Tryz.func15,Tryz.ntmps15
 go_wp2_with fail
 refine(mul_one m hm w).mono ?_
 rintro e w1 ⟨rfl,rfl⟩
 obtain⟨w2,hmk,hr2,b2⟩:=bZ5 m hm w1
 have er:((List.replicate m (0:Int)).map (Value.int .i64))=qY i m 0:=by unfold qY; simp
 rw[er] at hr2
 have hd:min 1 m<=m:=Nat.min_le_right _ _
 obtain⟨w3,hrun,hr3,b3⟩:=aP3 (off:=0) (dLen:=m) (dCap:=m) (sLen:=1) (sCap:=c) (m:=min 1 m) (sp:=some ⟨b,off,none⟩) (qY i m 0) ((List.replicate (min 1 m) i).map (Value.int .i64)) hr2 (by simp) rfl (fun h0=>⟨_,rfl,fun j v hj=>by
  rw[List.getElem?_map,Option.map_eq_some_iff] at hj
  obtain⟨x,hx,rfl⟩:=hj
  obtain⟨hl,rfl⟩:=List.getElem?_eq_some_iff.1 hx
  rw[List.length_replicate] at hl
  obtain rfl:j=0:=by omega
  have ea:(⟨b,off,none⟩:Addr).add 0=⟨b,off,none⟩:=by unfold Addr.add; split<;>simp_all
  rw[ea,b2.cell (p:=⟨b,off,none⟩) hb,hc.out]
  simp⟩) (by rw[aK8 i (Nat.zero_le _)]; omega) (bA0 i _) b2 (Nat.le_refl _)
 rw[aA4 i (by omega),Nat.zero_add] at hr3
 replace hr3:=hid hr3
 replace b3:=hid b3
 clear hr2 b2 er
 have hk0:Hid (0<m->0<min 1 m):=hid (by omega)
 have hkm:Hid (min 1 m<=m):=hid hd
 clear hd
 generalize min 1 m=k0 at *
 go_wp2_with fail
 go_loopw [8] (fun v wr=>∃ k:Nat,k<=m/\(0<m->0<k)/\v=.int .i64 k/\Hid (aC wr w1.heap.size (qY i m k).toArray 3)/\Hid (Below w1.heap.size w1 wr)) (fun v _=>m-(intOf v).toNat)
 case atStart=>exact⟨k0,hkm.out,hk0.out,rfl,hr3,b3⟩
 case round=>
  obtain⟨k,hk,hpos,rfl,hr,hbl⟩:=hrel
  clear hr3 b3 hk0 hkm hrun hmk
  by_cases hlt:k<m
  ·have hp:=hpos (by omega)
   replace hr:=hid (hr.out.below (aD _ wr))
   replace hbl:=hid (hbl.out.trans (aD _ wr))
   obtain⟨w4,hrun,hr4,b4⟩:=aP3 (off:=k) (dLen:=m-k) (dCap:=m-k) (sLen:=k) (sCap:=m) (m:=min k (m-k)) (sp:=some ⟨w1.heap.size,0,none⟩) (qY i m k) ((List.replicate (min k (m-k)) i).map (Value.int .i64)) hr.out (by simp) rfl (fun h0=>⟨_,rfl,bN2 hr.out (Nat.min_le_left _ _)⟩) (by rw[aK8 i hk]; omega) (bA0 i _) hbl.out (Nat.le_refl _)
   rw[aA4 i (by omega)] at hr4
   replace hr4:=hid hr4
   replace b4:=hid b4
   have hmp:Hid (0<min k (m-k)/\k+min k (m-k)<=m):=hid (by omega)
   clear hr hbl
   generalize min k (m-k)=d at *
   have hw:Hid (wrap64 ((k:Int)+(d:Int))=((k+d:Nat):Int)):=hid (by have:=hmp.out; unfold wrap64; omega)
   go_wp2_with fail
   go_region
   go_wp2_with fail
   go_roundw
   case rel=>exact⟨k+d,hmp.out.2,fun _=>by omega,by rw[hw.out],hr4,b4⟩
   case measure=>have:=hmp.out; rw[hw.out]; simp[intOf]; omega
  ·obtain rfl:k=m:=by omega
   go_wp2_with fail
   go_ret
   exact⟨⟨_,rfl,bF5 hi hr.out⟩,hbl.out⟩
theorem bS2 (w:World):Bld w.heap.size w.heap.size [] (w.alloc (.cells #[.pointer none,.slice none 0 0] 95)):=Lib.IsBuilderF.of (Lib.fresh_isBuilder _ _ w)
theorem wW (Q:Nat->Prop) (pa:Option Addr) (n c:Nat) (B:Nat->Blk) (ta:Option Addr) (tn tc:Nat) (l:List aP) (i:Int) (w:World) (hP:fU Q w pa n B ta tn l) (htab:Lib.TabIs Tryz.prog w tabN .u64 Lib.pow10Tab):
 Calls Tryz.prog 23 #[.agg #[.slice pa n c,.slice ta tn tc],.int .i64 i] w fun e w'=>cE6 e n B tn l i/\Below w.heap.size w w':=by
 have b0:=hid (aA w (.cells #[.slice pa n c,.slice ta tn tc] 27))
 have k0:Hid (aC _ w.heap.size #[.slice pa n c,.slice ta tn tc] 27):=hid (aB w _ _)
 have hP0:=hid (hP.below b0.out)
 have ht0:=hid (eP htab b0.out)
 clear hP htab
 go_enter Tryz.func23,Tryz.ntmps23
 go_upto_region 1 with fail
 generalize w.alloc (.cells #[.slice pa n c,.slice ta tn tc] 27)=w0 at *
 have p0:=k0.out.cell 0
 have p1:=k0.out.cell 1
 simp at p0 p1
 go_wp2_with fail
 refine(cI3 Q pa n c B ta tn tc l i cK1 none 0 0 w0 hP0.out cK0 (bV3 _)).mono ?_
 rintro e w1 ⟨hret,b1⟩
 clear p0 p1
 replace b0:=hid (Below.tr b0.out b1)
 replace k0:=hid (k0.out.below b1)
 replace hP0:=hid (hP0.out.below b1)
 replace ht0:=hid (eP ht0.out b1)
 clear b1
 unfold cE7 at hret
 rcases hret with⟨e', rfl,hne,hno⟩ | ⟨hok,k,t,rfl,ht,e1,N,ya,yn,yc,y,ln,lc,g,D,l', ua,uc,rfl,hc,hPD⟩
 ·have hbe:(e' == 0)=false:=by simp[hne]
  have b2:=hid (Below.tr (aA w1 (.cells #[.slice none 0 0,.slice none 0 0] 27)) (aA _ (.cells #[.int .i64 0,.int .i64 0,.slice none 0 0,.slice none 0 0] 41)))
  replace hno:=hid hno
  go_wp2_with fail
  go_ret2
  exact⟨.inl ⟨e', rfl,hne,hno.out⟩,Below.tr b0.out b2.out⟩
 obtain⟨rfl,hU⟩:=bJ4 hc
 replace hU:=hid hU
 replace hok:=hid hok
 replace ht:=hid ht
 clear hc hPD
 have b2:=hid (Below.tr (aA w1 (.cells #[.slice (some ⟨g,0,none⟩) n n,.slice ua tn uc] 27)) (aA _ (.cells #[.int .i64 0,.int .i64 N,.slice ya yn yc,.slice y ln lc] 41)))
 have k7:=hid (aF w1 (.cells #[.slice (some ⟨g,0,none⟩) n n,.slice ua tn uc] 27) #[.int .i64 0,.int .i64 N,.slice ya yn yc,.slice y ln lc] 41)
 go_upto_region 4 with fail
 have hz2:Hid (((w1.alloc (.cells #[.slice (some ⟨g,0,none⟩) n n,.slice ua tn uc] 27)).alloc (.cells #[.int .i64 0,.int .i64 N,.slice ya yn yc,.slice y ln lc] 41)).heap.size=w1.heap.size+1+1):=hid (by simp)
 generalize (w1.alloc (.cells #[.slice (some ⟨g,0,none⟩) n n,.slice ua tn uc] 27)).alloc (.cells #[.int .i64 0,.int .i64 N,.slice ya yn yc,.slice y ln lc] 41)=w2 at *
 replace b0:=hid (Below.tr b0.out b2.out)
 replace k0:=hid (k0.out.below b2.out)
 replace hP0:=hid (hP0.out.below b2.out)
 replace ht0:=hid (eP ht0.out b2.out)
 clear b2
 obtain⟨hkl,hkt⟩:=List.getElem?_eq_some_iff.1 ht.out
 have hkn:k<tn:=by rw[<-hP0.out.tens.1]; exact hkl
 obtain⟨xb,xo,hta⟩:∃ b off,ta=some ⟨b,off,none⟩:=by
  obtain⟨b,off,e,_⟩:=hP0.out.tens.2 (by omega)
  exact⟨b,off,e⟩
 subst hta
 obtain⟨sa,sn,sc,hTI⟩:=hP0.out.tens.ten hkn
 have hgd:l.getD k aP.zero=t:=by rw[<-hkt]; simp[List.getD,hkl]
 rw[hgd] at hTI
 have hTo:=hok.out.tens t (List.mem_of_getElem? ht.out)
 have c0:=hTI.c0
 have c1:=hTI.c1
 have c2:=hTI.c2
 have hSe:=hid hTI.ok.sets
 have p1:=k0.out.cell 1
 simp at p1
 have hk0:(0:Int)<=(k:Int):=by omega
 have hk1:(k:Int)<(tn:Int):=by omega
 have hq4:=hid hTo.qb
 replace hTo:=hid hTo
 clear hTI hgd hkt
 have b3:=hid (aA w2 (.cells #[.int .i64 t.key,.int .i64 t.quota,.slice sa sn sc] 64))
 have kO:=hid (aB w2 #[.int .i64 t.key,.int .i64 t.quota,.slice sa sn sc] 64)
 go_upto_region 5 with fail
 clear c0 c1 c2 p1
 have hz3:Hid ((w2.alloc (.cells #[.int .i64 t.key,.int .i64 t.quota,.slice sa sn sc] 64)).heap.size=w2.heap.size+1):=hid (by simp)
 generalize w2.alloc (.cells #[.int .i64 t.key,.int .i64 t.quota,.slice sa sn sc] 64)=W at *
 replace b0:=hid (Below.tr b0.out b3.out)
 replace k0:=hid (k0.out.below b3.out)
 replace k7:=hid (k7.out.below b3.out)
 replace hP0:=hid (hP0.out.below b3.out)
 replace hSe:=hid (hSe.out.below b3.out)
 replace ht0:=hid (eP ht0.out b3.out)
 clear b3
 have hV0:Hid (VE W ((W.alloc (.cells #[.pointer none,.slice none 0 0] 95)).alloc (.cells #[.func (.func 41) #[] #[.pointer (some ⟨W.heap.size,0,none⟩)]] 102)) W.heap.size (W.heap.size+1) []):=hid (by
  have k:=aF W (.cells #[.pointer none,.slice none 0 0] 95) #[.func (.func 41) #[] #[.pointer (some ⟨W.heap.size,0,none⟩)]] 102
  exact⟨Below.tr (aA _ _) (aA _ _),(bS2 W).below (aA _ _),k,by omega⟩)
 have lO:=hid kO.out.lt
 have l7:=hid k7.out.lt
 go_upto_region 8 with fail
 generalize (W.alloc (.cells #[.pointer none,.slice none 0 0] 95)).alloc (.cells #[.func (.func 41) #[] #[.pointer (some ⟨W.heap.size,0,none⟩)]] 102)=w8 at *
 have q2:=(kO.out.below hV0.out.bel).cell 2
 simp at q2
 go_wp2_with fail
 clear q2
 have hsn3:sn<=3:=by rw[<-hSe.out.1]; exact hTo.out.few
 go_loopw [38] (fun v wr=>∃ j:Nat,j<=sn/\v=.int .i64 j/\VE W wr W.heap.size (W.heap.size+1) (sN B t.key (t.sets.take j))) (fun v _=>sn-(Go.RowKit.intOf v).toNat)
 case atStart=>exact⟨0,Nat.zero_le _,rfl,by simpa [sN] using hV0.out⟩
 case round=>
  clear hV0
  obtain⟨j,hj,rfl,hV⟩:=hrel
  replace hV:=hid hV
  by_cases hlt:j<sn
  ·obtain⟨rb,ro,hsa⟩:∃ b off,sa=some ⟨b,off,none⟩:=by
    obtain⟨b,off,e,_⟩:=hSe.out.2 (by omega)
    exact⟨b,off,e⟩
   generalize hsaa:sa=sa' at *
   subst hsa
   obtain⟨v,hI⟩:=hSe.out.set hlt
   have hjl:j<t.sets.length:=by rw[hSe.out.1]; exact hlt
   have hgd:t.sets.getD j aK.zero=t.sets[j]:=by simp[List.getD,hjl]
   rw[hgd] at hI
   have hx:=hid (hTo.out.sets _ (List.getElem_mem hjl))
   have hLl:=hid (aK1 (n:=n) (B:=B) (key:=t.key) (t.sets.take j) (fun x hx=>hTo.out.sets x (List.mem_of_mem_take hx)))
   have hLj:Hid ((t.sets.take j).length<=3):=hid (by rw[List.length_take]; omega)
   have htk:Hid (sN B t.key (t.sets.take (j+1))=sN B t.key (t.sets.take j)++setW B t.key t.sets[j]):=hid (aO1 _ hjl)
   clear hgd
   generalize t.sets[j]=x at *
   generalize sN B t.key (t.sets.take j)=L at *
   have hIr:=hI.below hV.out.bel
   have r0:=hIr.c0
   have r1:=hIr.c1
   have r2:=hIr.c2
   have hnm:=hid hI.ok.name
   have hFi:=hid hI.ok.files
   have hSp:=hid hI.ok.snaps
   clear hI hIr
   have hj0:(0:Int)<=(j:Int):=by omega
   have hj1:(j:Int)<(sn:Int):=by omega
   have bA:=hid (aA wr (.cells #[.string v.name,.slice v.fa v.fn v.fc,.slice v.sa v.sn v.sc] 84))
   have kX:=hid (aB wr #[.string v.name,.slice v.fa v.fn v.fc,.slice v.sa v.sn v.sc] 84)
   have nX:Hid (wr.heap.size≠W.heap.size):=hid (by have:=hV.out.bld.lt; omega)
   go_upto_region 11 with fail
   clear r0 r1 r2
   generalize wr.alloc (.cells #[.string v.name,.slice v.fa v.fn v.fc,.slice v.sa v.sn v.sc] 84)=w5 at *
   have hV5:=hid (hV.out.below bA.out)
   have x0:=kX.out.cell 0
   have l0:=hV5.out.fn.cell 0
   simp at x0 l0
   have hlen1:Hid (L.length+(gV [⟨#[115,101,116]⟩,v.name]).length<=1000000000):=hid (by
    have:=hLl.out
    have:=hLj.out
    have h8:=kH hx.out.shape.name
    have h4:(ByteArray.mk #[115,101,116]).size=3:=rfl
    rw[mG,hnm.out]
    omega)
   go_wp2_with fail
   refine(aM4 W.heap.size W.heap.size L ⟨#[115,101,116]⟩ v.name w5 hV5.out.bld hV5.out.bel.size hlen1.out).mono ?_
   rintro e w6 ⟨rfl,hB6,b6,o6⟩
   have hV6:=hid (hV5.out.wrote hB6 b6 o6)
   replace kX:=hid (eQ o6 kX.out nX.out (by decide))
   clear x0 l0 hB6 b6 o6
   have x1:=kX.out.cell 1
   simp at x1
   have hl6:Hid ((L++gV [⟨#[115,101,116]⟩,v.name]).length<=200000):=hid (by
    have:=hLl.out
    have:=hLj.out
    have h8:=kH hx.out.shape.name
    have h4:(ByteArray.mk #[115,101,116]).size=3:=rfl
    rw[List.length_append,mG,hnm.out]
    omega)
   have hfn:v.fn<=6:=by rw[<-hFi.out.1]; exact hx.out.shape.few
   have hsp3:v.sn<=3:=by rw[<-hSp.out.1]; exact hx.out.shape.fewS
   go_wp2_with fail
   refine(aO4 W Q pa n c B w.heap.size w2.heap.size _ _ _ t.key v.fa v.fn v.fc x.files ⟨#[32]⟩ W.heap.size (W.heap.size+1) _ w6 hP0.out.store k0.out kO.out hFi.out hx.out.fileOk hfn (by decide) ht0.out hV6.out (by have:=hl6.out; omega)).mono ?_
   rintro e w7 ⟨rfl,hV7,o7⟩
   replace hV7:=hid hV7
   replace kX:=hid (eQ o7 kX.out nX.out (by decide))
   have hl7:Hid ((L++gV [⟨#[115,101,116]⟩,v.name]++gZ ⟨#[32]⟩ t.key B x.files).length<=210000):=hid (by
    have h1:=mK (n:=n) (B:=B) (key:=t.key) (ahead:=⟨#[32]⟩) (by decide) x.files hx.out.fileOk
    have h2:=hx.out.shape.few
    have:=hl6.out
    rw[List.length_append]
    omega)
   clear x1 hV6 o7
   have x2:=kX.out.cell 2
   simp at x2
   go_wp2_with fail
   clear x2
   go_loopw [54] (fun u wq=>∃ m:Nat,m<=v.sn/\u=.int .i64 m/\VE W wq W.heap.size (W.heap.size+1) (L++gV [⟨#[115,101,116]⟩,v.name]++gZ ⟨#[32]⟩ t.key B x.files++nG B t.key (x.snaps.take m))) (fun u _=>v.sn-(Go.RowKit.intOf u).toNat)
   case atStart=>exact⟨0,Nat.zero_le _,rfl,by simpa [nG] using hV7.out⟩
   case round=>
    clear hV7 hV hV5 kX bA
    obtain⟨m,hm,rfl,hV⟩:=hrel
    replace hV:=hid hV
    by_cases hmt:m<v.sn
    ·obtain⟨pb,po,hpa⟩:∃ b off,v.sa=some ⟨b,off,none⟩:=by
      obtain⟨b,off,e,_⟩:=hSp.out.2 (by omega)
      exact⟨b,off,e⟩
     generalize hvs:v.sa=vsa at *
     subst hpa
     obtain⟨fa,fn,fc,hN⟩:=hSp.out.snap hmt
     have hml:m<x.snaps.length:=by rw[hSp.out.1]; exact hmt
     have hgd:x.snaps.getD m bQ.zero=x.snaps[m]:=by simp[List.getD,hml]
     rw[hgd] at hN
     have hsm:=hid (List.getElem_mem hml)
     have htm:Hid (nG B t.key (x.snaps.take (m+1))=nG B t.key (x.snaps.take m)++bM3 B t.key x.snaps[m]):=hid (aO1 _ hml)
     have hLm:=hid (zV hx.out (x.snaps.take m) (fun s hs=>List.mem_of_mem_take hs))
     have hLk:Hid ((x.snaps.take m).length<=3):=hid (by rw[List.length_take]; omega)
     clear hgd
     generalize x.snaps[m]=z at *
     have hNr:=hN.below hV.out.bel
     have r0:=hNr.c0
     have r1:=hNr.c1
     have hFz:=hid hN.files
     clear hN hNr
     have hm0:(0:Int)<=(m:Int):=by omega
     have hm1:(m:Int)<(v.sn:Int):=by omega
     have bZ:=hid (aA wr (.cells #[.string z.name,.slice fa fn fc] 113))
     have kZ:=hid (aB wr #[.string z.name,.slice fa fn fc] 113)
     have nZ:Hid (wr.heap.size≠W.heap.size):=hid (by have:=hV.out.bld.lt; omega)
     go_upto_region 16 with fail
     clear r0 r1
     generalize wr.alloc (.cells #[.string z.name,.slice fa fn fc] 113)=w10 at *
     have hV10:=hid (hV.out.below bZ.out)
     have x0:=kZ.out.cell 0
     have l0:=hV10.out.fn.cell 0
     simp at x0 l0
     obtain⟨L8,hL8⟩:∃ L8,L8=L++gV [⟨#[115,101,116]⟩,v.name]++gZ ⟨#[32]⟩ t.key B x.files++nG B t.key (x.snaps.take m):=⟨_,rfl⟩
     have hl8:Hid (L8.length<=300000):=hid (by
      have:=hl7.out
      have:=hLm.out
      have:=hLk.out
      rw[hL8,List.length_append]
      omega)
     rw[<-hL8] at hV10
     replace hL8:=hid hL8
     have hl9:Hid ((L8++gV [⟨#[32,97,116]⟩,z.name]).length<=400000):=hid (by
      have:=hl8.out
      have h8:=kH (hx.out.shape.namesS z hsm.out)
      have h4:(ByteArray.mk #[32,97,116]).size=3:=rfl
      rw[List.length_append,mG]
      omega)
     go_wp2_with fail
     refine(aM4 W.heap.size W.heap.size L8 ⟨#[32,97,116]⟩ z.name w10 hV10.out.bld hV10.out.bel.size (by have:=hl9.out; rw[List.length_append] at this; omega)).mono ?_
     rintro e w11 ⟨rfl,hB11,b11,o11⟩
     have hV11:=hid (hV10.out.wrote hB11 b11 o11)
     replace kZ:=hid (eQ o11 kZ.out nZ.out (by decide))
     clear x0 l0 hB11 b11 o11
     have x1:=kZ.out.cell 1
     simp at x1
     have hfz:=hx.out.filesS z hsm.out
     have hfn6:fn<=6:=by rw[<-hFz.out.1]; exact hfz.few
     replace hfz:=hid hfz
     go_wp2_with fail
     refine(aO4 W Q pa n c B w.heap.size w2.heap.size _ _ _ t.key fa fn fc z.files ⟨#[32,32]⟩ W.heap.size (W.heap.size+1) _ w11 hP0.out.store k0.out kO.out hFz.out (hx.out.snapFileOk hsm.out) hfn6 (by decide) ht0.out hV11.out (by have:=hl9.out; omega)).mono ?_
     rintro e w12 ⟨rfl,hV12,o12⟩
     replace hV12:=hid hV12
     clear x1 o12 kZ hV11 hV10
     go_wp2_with fail
     go_roundw
     case rel=>exact⟨m+1,by omega,by go_num,by
      have:=hV12.out
      rw[hL8.out] at this
      rw[htm.out]
      unfold bM3
      simpa only[List.append_assoc] using this⟩
     case measure=>simp[Go.RowKit.intOf]; omega
    ·obtain rfl:m=v.sn:=by omega
     have hta:x.snaps.take v.sn=x.snaps:=List.take_of_length_le (by rw[hSp.out.1]; omega)
     rw[hta] at hV
     go_wp2_with fail
     go_roundw
     case rel=>exact⟨j+1,by omega,by go_num,by
      have:=hV.out
      rw[htk.out]
      unfold setW
      rw[hnm.out] at this
      simpa only[List.append_assoc] using this⟩
     case measure=>simp[Go.RowKit.intOf]; omega
  ·obtain rfl:j=sn:=by omega
   have hta:t.sets.take j=t.sets:=List.take_of_length_le (by rw[hSe.out.1]; omega)
   rw[hta] at hV
   have hLl:=hid (aK1 (n:=n) (B:=B) (key:=t.key) t.sets hTo.out.sets)
   have hN4:=bW6 hok.out (List.mem_of_getElem? ht.out) hU.out
   have hlen:Hid ((sN B t.key t.sets).length+(gV [⟨#[117,115,101,115]⟩,rT N,⟨#[111,102]⟩,rT t.quota]).length<=1000000000):=hid (by
    have:=hLl.out
    have:=hTo.out.few
    have h1:=aF4 N hN4.1 (by omega)
    have h2:=aF4 t.quota hq4.out.1 (by have:=hq4.out.2; omega)
    have h4:(ByteArray.mk #[117,115,101,115]).size=4:=rfl
    have h5:(ByteArray.mk #[111,102]).size=2:=rfl
    rw[bH1]
    omega)
   have q1:=(kO.out.below hV.out.bel).cell 1
   have u1:=(k7.out.below hV.out.bel).cell 1
   have l0:=hV.out.fn.cell 0
   simp at q1 u1 l0
   have hTd:Hid (∀ w', Below wr.heap.size wr w'->Lib.TabIs Tryz.prog w' tabN .u64 Lib.pow10Tab):=hid (fun w' b=>eP ht0.out (hV.out.bel.trans (b.mono hV.out.bel.size)))
   have hTd1:=hid (hTd.out _ (aD _ _))
   have lO2:=hid (Nat.lt_of_lt_of_le lO.out hV.out.bel.size)
   have l72:=hid (Nat.lt_of_lt_of_le l7.out hV.out.bel.size)
   have lF:=hid hV.out.fn.lt
   have hq0:=hq4.out.1
   have hq1:t.quota<=1000000:=by have:=hq4.out.2; omega
   have hN0:=hN4.1
   have hN1:N<=1000000:=by omega
   have neO:Hid (w2.heap.size≠W.heap.size/\64≠5):=hid ⟨by have:=lO.out; omega,by decide⟩
   have ne7:Hid (w1.heap.size+1≠W.heap.size/\41≠5):=hid ⟨by have:=l7.out; omega,by decide⟩
   have neF:Hid (102≠5):=hid (by decide)
   clear hN4
   go_upto_region 20 with fail
   go_region_held3 (fun w'=>w'.cell? ⟨W.heap.size+1,0,none⟩=some (.func (.func 41) #[] #[.pointer (some ⟨W.heap.size,0,none⟩)])/\w'.cell? ⟨w1.heap.size+1,1,none⟩=some (.int .i64 N)/\w'.cell? ⟨w2.heap.size,1,none⟩=some (.int .i64 t.quota)) (first | go_keep | assumption) (first | (go_at_call 47; refine Calls.mono (aF5 N hN0 hN1 wr.drew hTd1.out) ?_; rintro e w7 ⟨rfl,b7⟩; replace b7:Below wr.heap.size wr w7:=(aD _ _).trans b7; have s0:=(b7.cell (p:=⟨W.heap.size+1,0,none⟩) lF.out).trans l0; have s1:=(b7.cell (p:=⟨w1.heap.size+1,1,none⟩) l72.out).trans u1; have s2:=(b7.cell (p:=⟨w2.heap.size,1,none⟩) lO2.out).trans q1; have hTd2:=hid (hTd.out _ b7); replace b7:=hid b7) | (go_at_call 47; refine Calls.mono (aF5 t.quota hq0 hq1 w7 hTd2.out) ?_; rintro e w8 ⟨rfl,b8⟩; replace b8:Below wr.heap.size wr w8:=Below.tr b7.out b8; have s0':=(b8.cell (p:=⟨W.heap.size+1,0,none⟩) lF.out).trans l0; have s1':=(b8.cell (p:=⟨w1.heap.size+1,1,none⟩) l72.out).trans u1; have s2':=(b8.cell (p:=⟨w2.heap.size,1,none⟩) lO2.out).trans q1; have n1:W.heap.size+1≠w8.heap.size:=(by have:=b8.size; have:=lF.out; omega); have n1':=n1.symm; have n2:w1.heap.size+1≠w8.heap.size:=(by have:=b8.size; have:=l72.out; omega); have n2':=n2.symm; have n3:w2.heap.size≠w8.heap.size:=(by have:=b8.size; have:=lO2.out; omega); have n3':=n3.symm; have hB8:=hid (hV.out.bld.below b8); have hz8:=hid b8.size; replace b8:=hid b8) | (go_at_call 41; with_reducible refine Calls.mono (bR1 W.heap.size W.heap.size _ _ _ _ _ w8 hB8.out ?_ hlen.out) ?_; exact Nat.le_trans hV.out.bel.size hz8.out; rintro e w9 ⟨rfl,hB9,b9,o9⟩; have K1:=eQ o9 ((hV.out.below b8.out).fn) hV.out.ne neF.out; have K2:=eQ o9 ((k7.out.below hV.out.bel).below b8.out) ne7.out.1 ne7.out.2; have K3:=eQ o9 ((kO.out.below hV.out.bel).below b8.out) neO.out.1 neO.out.2; have s0q:=K1.cell 0; have s1q:=K2.cell 1; have s2q:=K3.cell 1; simp only[List.getElem?_toArray,List.getElem?_cons_zero,List.getElem?_cons_succ] at s0q s1q s2q; clear K1 K2 K3; replace hB9:=hid hB9; replace b9:=hid b9; replace o9:=hid o9))
   all_goals (
    go_wp2_with fail
    refine(Tryz.Builder_String_any_k W.heap.size W.heap.size _ w9 hB9.out (by have:=hV.out.bel.size; have:=b8.out.size; have:=b9.out.size; omega)).mono ?_
    rintro e w10 ⟨rfl,_,b10,_⟩
    go_wp2_with fail
    go_ret2
    refine⟨.inr ⟨k,t,N,rfl,ht.out,hok.out,hU.out,rfl⟩,?_⟩
    have hWs:=b0.out.size
    exact(b0.out.trans (hV.out.bel.mono hWs)).trans ((b8.out.mono (by have:=hV.out.bel.size; omega)).trans ((b9.out.mono hWs).trans (b10.mono hWs))))
theorem bX2 (a b:List UInt8):((ByteArray.mk a.toArray).toList == (ByteArray.mk b.toArray).toList)=decide (a=b):=by
 rw[ByteArray.toList_eq,ByteArray.toList_eq]
 show (a.toArray.toList == b.toArray.toList)=_
 rw[List.toList_toArray,List.toList_toArray]
 by_cases h:a=b
 ·subst h; simp
 ·simp[h]
def cQ1 (n:Nat) (B:Nat->Blk) (tn:Nat) (l:List aP) (i:Int):Prop:=aR n B l/\0<=i/\i<(tn:Int)
def cE8 (e:Ending) (n:Nat) (B:Nat->Blk) (tn:Nat) (l:List aP) (n':Nat) (D:Nat->Blk) (un:Nat) (m:List aP) (i:Int):Prop:=
 (∃ e':Int,e=.returned (.tuple #[.bool false,.int .i64 e'])/\e'≠0/\¬(cQ1 n B tn l i/\cQ1 n' D un m i))\/
 (∃ (k:Nat) (t u:aP) (N M:Int),i=(k:Int)/\l[k]? =some t/\m[k]? =some u/\cQ1 n B tn l i/\cQ1 n' D un m i/\sI B (aL t) N/\sI D (aL u) M/\e=.returned (.tuple #[.bool (decide (jK B t N=jK D u M)),.int .i64 0]))
theorem aG2 {Q:Nat->Prop} {w:World} {pa:Option Addr} {n:Nat} {B:Nat->Blk} {ta:Option Addr} {tn:Nat} {l:List aP} {k:Nat} {t:aP} (hP:fU Q w pa n B ta tn l) (hok:aR n B l) (ht:l[k]? =some t):cQ1 n B tn l (k:Int):=by
 obtain⟨h,_⟩:=List.getElem?_eq_some_iff.1 ht
 have:=hP.tens.1
 exact⟨hok,by omega,by omega⟩
theorem yZ (Q R:Nat->Prop) (pa:Option Addr) (n c:Nat) (B:Nat->Blk) (ta:Option Addr) (tn tc:Nat) (l:List aP) (qa:Option Addr) (n' c':Nat) (D:Nat->Blk) (ua:Option Addr) (un uc:Nat) (m:List aP) (i:Int) (w:World) (hP:fU Q w pa n B ta tn l) (hD:fU R w qa n' D ua un m) (htab:Lib.TabIs Tryz.prog w tabN .u64 Lib.pow10Tab):
 Calls Tryz.prog 10 #[.agg #[.slice pa n c,.slice ta tn tc],.agg #[.slice qa n' c', .slice ua un uc],.int .i64 i] w fun e w'=>cE8 e n B tn l n' D un m i/\Below w.heap.size w w':=by
 have b0:=hid (aW w (.cells #[.slice pa n c,.slice ta tn tc] 27) (.cells #[.slice qa n' c', .slice ua un uc] 27))
 have k0:Hid (aC _ w.heap.size #[.slice pa n c,.slice ta tn tc] 27):=hid ((aB w _ _).below (aA _ (.cells #[.slice qa n' c', .slice ua un uc] 27)))
 have k1:=hid (aF w (.cells #[.slice pa n c,.slice ta tn tc] 27) #[.slice qa n' c', .slice ua un uc] 27)
 have hP0:=hid (hP.below b0.out)
 have hD0:=hid (hD.below b0.out)
 have ht0:=hid (eP htab b0.out)
 clear hP hD htab
 go_enter Tryz.func10,Tryz.ntmps10
 go_upto_region 1 with fail
 generalize (w.alloc (.cells #[.slice pa n c,.slice ta tn tc] 27)).alloc (.cells #[.slice qa n' c', .slice ua un uc] 27)=w0 at *
 have p0:=k0.out.cell 0
 have p1:=k0.out.cell 1
 simp at p0 p1
 go_wp2_with fail
 refine(wW Q pa n c B ta tn tc l i w0 hP0.out ht0.out).mono ?_
 rintro e w1 ⟨hr,b1⟩
 clear p0 p1
 replace k1:=hid (k1.out.below b1)
 replace hP0:=hid (hP0.out.below b1)
 replace hD0:=hid (hD0.out.below b1)
 replace ht0:=hid (eP ht0.out b1)
 replace b0:=hid (Below.tr b0.out b1)
 clear b1
 unfold cE6 at hr
 rcases hr with⟨e', rfl,hne,hno⟩ | ⟨k,t,N,rfl,ht,hok,hU,rfl⟩
 ·have hbe:(e' == 0)=false:=by simp[hne]
  replace hno:=hid hno
  go_wp2_with fail
  go_ret2
  exact⟨.inl ⟨e', rfl,hne,fun f=>hno.out f.1⟩,b0.out⟩
 have hH:=hid (aG2 hP0.out hok ht)
 replace ht:=hid ht
 replace hok:=hid hok
 replace hU:=hid hU
 have p0:=k1.out.cell 0
 have p1:=k1.out.cell 1
 simp at p0 p1
 generalize hs1:(ByteArray.mk (jK B t N).toArray)=s1 at *
 replace hs1:=hid hs1
 go_wp2_with fail
 refine(wW R qa n' c' D ua un uc m k w1 hD0.out ht0.out).mono ?_
 rintro e w2 ⟨hr,b2⟩
 clear p0 p1
 replace b0:=hid (Below.tr b0.out b2)
 clear b2
 unfold cE6 at hr
 rcases hr with⟨e', rfl,hne,hno⟩ | ⟨k', u,M,hk', hu,hok', hU', rfl⟩
 ·have hbe:(e' == 0)=false:=by simp[hne]
  replace hno:=hid hno
  go_wp2_with fail
  go_ret2
  exact⟨.inl ⟨e', rfl,hne,fun f=>hno.out f.2⟩,b0.out⟩
 obtain rfl:k=k':=by omega
 have hH':=hid (aG2 hD0.out hok' hu)
 replace hu:=hid hu
 replace hU':=hid hU'
 clear hk'
 generalize hs2:(ByteArray.mk (jK D u M).toArray)=s2 at *
 replace hs2:=hid hs2
 go_wp2_with fail
 go_ret2
 refine⟨.inr ⟨k,t,u,N,M,rfl,ht.out,hu.out,hH.out,hH'.out,hU.out,hU'.out,?_⟩,b0.out⟩
 rw[<-bX2,hs1.out,hs2.out]
 rfl
def N1:List Int:=gU ((zeros 256).take 0) 2 [97,98,99]
def N2:List Int:=gU ((dE N1).take 5) 4 [120,121]
theorem aI.out {Q:Nat->Prop} {k:IntKind} {w w':World} {a:Option Addr} {n q:Nat} {l:List Int} (h:aI Q k w a n l) (hq:∀ b,Q b->b≠q) (ho:Out q w w'):aI Q k w' a n l:=by
 refine⟨h.1,h.2.1,fun hn=>?_⟩
 obtain⟨b,off,rfl,hlt,qb,hc⟩:=h.2.2 hn
 exact⟨b,off,rfl,Nat.lt_of_lt_of_le hlt ho.size,qb,fun i hi=>(ho.cell (p:=⟨b,off+i,none⟩) hlt (hq b qb)).trans (hc i hi)⟩
theorem Own.out {w w':World} {g n q:Nat} {B:Nat->Blk} (h:Own w g n B) (hq:q<g) (ho:Out q w w'):Own w' g n B:=by
 have hlt:=h.lt
 refine⟨Nat.lt_of_lt_of_le h.lt ho.size,fun i hi=>?_,fun i hi=>?_⟩
 ·obtain⟨ka,kn,kc,ba,bn,bc,b⟩:=h.blocks i hi
  exact⟨ka,kn,kc,ba,bn,bc,(ho.cell (p:=⟨g,_,none⟩) hlt (by show g≠q; omega)).trans b.c0,(ho.cell (p:=⟨g,_,none⟩) hlt (by show g≠q; omega)).trans b.c1,(ho.cell (p:=⟨g,_,none⟩) hlt (by show g≠q; omega)).trans b.c2,(ho.cell (p:=⟨g,_,none⟩) hlt (by show g≠q; omega)).trans b.c3,b.kids.out (fun _ h=>by omega) ho,b.bytes.out (fun _ h=>by omega) ho,b.refs,b.level,b.caps⟩
 ·have e:w'.frozen? ⟨g,i,none⟩=w.frozen? ⟨g,i,none⟩:=World.frozen?_of_block (w:=w) (ho.block g hlt (by omega))
  exact e.trans (h.free i hi)
theorem aC.out {w w':World} {g q:Nat} {cs:Array Value} {t:TypeId} (h:aC w g cs t) (hq:g≠q) (ho:Out q w w'):aC w' g cs t:=by
 unfold aC
 rw[ho.block g h.lt hq]
 exact h
theorem bZ9 (w:World) (xs:List Int) (t:TypeId) (fr:Nat×Nat) (hw:∀ x∈xs,(Lit.int .u8 x).wf=true):aI (fun _=>True) .u8 (w.alloc (.cells (xs.map (Value.int .u8)).toArray t fr)) (some ⟨w.heap.size,0,none⟩) xs.length xs:=by
 refine⟨rfl,hw,fun _=>⟨w.heap.size,0,rfl,by simp,trivial,fun i hi=>?_⟩⟩
 rw[Nat.zero_add,World.cell?_alloc_mark]
 simp[List.getD,hi]
theorem kW.take {w:World} {a:Option Addr} {n m:Nat} {l:List aM} (h:kW w a n l) (hm:m<=n):kW w a m (l.take m):=by
 refine⟨by rw[List.length_take,h.1]; omega,fun h0=>?_⟩
 obtain⟨b,off,rfl,hlt,hc⟩:=h.2 (by omega)
 refine⟨b,off,rfl,hlt,fun i hi=>?_⟩
 obtain⟨ba,bn,bc,hk⟩:=hc i (by omega)
 have e:(l.take m).getD i aM.zero=l.getD i aM.zero:=by rw[List.getD_eq_getElem?_getD,List.getD_eq_getElem?_getD,List.getElem?_take,if_pos hi]
 rw[e]
 exact⟨ba,bn,bc,hk⟩
theorem cU6 {by':List Int} {ms:List vB} (h:ms.length=by'.length) (x:Int) (m:vB):(by'++[x]).zip ((ms++[m]).map (·.a))=by'.zip (ms.map (·.a))++[(x,m.a)]:=by
 rw[List.map_append,List.zip_append (by rw[List.length_map]; exact h.symm)]
 rfl
structure ScI (base:Nat) (W w:World) (i:Int) (ql:List aM) (j k:Nat) (v u:Value) (ms:List vB) (by':List Int):Prop where
 bel:Below base W w
 rows:Rws base w v u ms by'
 len:ms.length=by'.length
 mine:jG i (by'.zip (ms.map (·.a)))=ql.take j
 few:ms.length<=j+k
theorem ScI.below {base:Nat} {W w w':World} {i:Int} {ql:List aM} {j k:Nat} {v u:Value} {ms:List vB} {by':List Int} (h:ScI base W w i ql j k v u ms by') (b:Below w.heap.size w w') (hb:base<=w.heap.size):ScI base W w' i ql j k v u ms by':=⟨h.bel.trans (b.mono hb),h.rows.below b,h.len,h.mine,h.few⟩
theorem ScI.later {base:Nat} {W w:World} {i:Int} {ql:List aM} {j k k':Nat} {v u:Value} {ms:List vB} {by':List Int} (h:ScI base W w i ql j k v u ms by') (hk:k<=k'):ScI base W w i ql j k' v u ms by':=⟨h.bel,h.rows,h.len,h.mine,by have:=h.few; omega⟩
theorem ScI.other {base:Nat} {W w w':World} {i:Int} {ql:List aM} {j k:Nat} {v u v' u':Value} {ms:List vB} {by':List Int} {m:vB} {x:Int} (h:ScI base W w i ql j k v u ms by') (hx:x≠i) (hR:Rws base w' v' u' (ms++[m]) (by'++[x])) (b:Below base w w'):ScI base W w' i ql j (k+1) v' u' (ms++[m]) (by'++[x]):=by
 refine⟨h.bel.trans b,hR,by rw[List.length_append,List.length_append,h.len]; rfl,?_,by have:=h.few; rw[List.length_append,List.length_singleton]; omega⟩
 rw[cU6 h.len,gL,if_neg hx,List.append_nil]
 exact h.mine
theorem ScI.own {base:Nat} {W w w':World} {i:Int} {ql:List aM} {j k:Nat} {v u v' u':Value} {ms:List vB} {by':List Int} {m:vB} (h:ScI base W w i ql j k v u ms by') (hj:j<ql.length) (hm:m.a=ql.getD j aM.zero) (hR:Rws base w' v' u' (ms++[m]) (by'++[i])) (b:Below base w w'):ScI base W w' i ql (j+1) k v' u' (ms++[m]) (by'++[i]):=by
 refine⟨h.bel.trans b,hR,by rw[List.length_append,List.length_append,h.len]; rfl,?_,by have:=h.few; rw[List.length_append,List.length_singleton]; omega⟩
 rw[cU6 h.len,gL,if_pos rfl,h.mine,List.take_succ_eq_append_getElem hj,hm]
 simp[List.getD,hj]
theorem cU9 {n:Nat} {B D E:Nat->Blk} {l m k:List aP} {i:Nat} {who:List Int} {ql AS:List aM} {ys us:List jJ} {q M:Nat} (hP:aR n B l) (hi:i<l.length) (hw:who.length=q) (hq:ql.length=q) (hA:jG i (who.zip ql)=AS) (hM:AS.length=M) (h:gN n B l (who.zip ql) D m ys) (g:gN n B l ((List.replicate M (i:Int)).zip AS) E k us):
 AtI i D E m k/\∀ j,j<q->who.getD j 0=(i:Int)->(jG i ((who.zip ql).take j)).length<M/\us.getD (jG i ((who.zip ql).take j)).length jJ.zero=ys.getD j jJ.zero/\(ys.getD j jJ.zero).S.length<=1000:=by
 have hz:(List.replicate M (i:Int)).zip AS=AS.map fun a=>((i:Int),a):=by rw[<-hM]; exact bK8 i _
 rw[hz] at g
 have hl:(who.zip ql).length=q:=by rw[List.length_zip]; omega
 have hys:=(qE hP h).2.2
 have hus:=(qE hP g).2.2
 rw[List.length_map] at hus
 obtain⟨hAt,hY⟩:=bX5 hP hi h g (by rw[bP9,hA])
 rw[aL3 i _ us hus] at hY
 refine⟨hAt,fun j hj hji=>?_⟩
 have hx:(who.zip ql)[j]? =some ((i:Int),ql.getD j aM.zero):=by
  have e1:(who.zip ql)[j]'(by omega)=(who.getD j 0,ql.getD j aM.zero):=by
   rw[List.getElem_zip]
   simp[List.getD,show j<who.length by omega,show j<ql.length by omega]
  rw[List.getElem?_eq_getElem (by omega),e1,hji]
 have hg:=bA3 (i:Int) (who.zip ql) ys j _ hys hx
 rw[hY] at hg
 have hjy:j<ys.length:=by omega
 rw[List.getElem?_eq_getElem hjy] at hg
 obtain⟨hlt,_⟩:=List.getElem?_eq_some_iff.1 hg
 refine⟨by omega,?_,?_⟩
 ·rw[cJ0 hg,cJ0 (List.getElem?_eq_getElem hjy)]
 ·rw[cJ0 (List.getElem?_eq_getElem hjy)]
  exact Nat.le_trans ((bX6 hP h).2 _ (List.getElem_mem hjy)) (by omega)
theorem cV0 {i:Int} {who:List Int} {ql:List aM} {j:Nat} (h1:j<who.length) (h2:j<ql.length):(jG i ((who.zip ql).take (j+1))).length=(jG i ((who.zip ql).take j)).length+if who.getD j 0=i then 1 else 0:=by
 rw[aY2 h1 h2,gL,List.length_append]
 by_cases h:who.getD j 0=i
 ·rw[if_pos h,if_pos h]; rfl
 ·rw[if_neg h,if_neg h]; rfl
def cU7:aM:=⟨3,nA,nF,⟨#[]⟩,9,0,[120]⟩
def cU4:aM:=⟨11,nA,nF,⟨#[]⟩,0,9,[]⟩
def hey:List Int:=[104,101,121]
theorem cV8:Small hey:=by
 have ho:sW 1 B0 (yT hey) 0 0=hey:=by
  unfold sW
  rw[aB7]
  decide +kernel
 refine⟨fun x hx=>?_,by decide,ho,?_⟩
 ·simp only[hey,List.mem_cons,List.not_mem_nil,or_false] at hx
  omega
 ·rw[aB7]
  decide +kernel
def cV1:List Int:=[104,101,121,0,0,0,0,0,0,120]
theorem cV2 {D:Nat->Blk} {r:Int} (h:aT 1 (aH D 3 r)=dE hey):sW 1 D cU7 r 3=cV1:=by
 unfold sW
 rw[h]
 decide +kernel
theorem cV6 {D:Nat->Blk} {r:Int} (h:aT 1 (aH D 3 r)=dE hey):chg (aT 1 (aH D 3 r)) (dE (sW 1 D cU7 r 3)) 64=1:=by
 rw[cV2 h,h]
 decide +kernel
theorem differ {s:List Int} (h0:plain 1 0 s=[104,101,121,0]) (h2:plain 1 2 s=[0,120,0,0]):False:=by
 unfold plain at h0 h2
 by_cases e:s=[]
 ·rw[if_pos e] at h0
  exact absurd h0 (by decide)
 rw[if_neg e] at h0 h2
 have hl:s.length=4:=by
  have:=congrArg List.length h0
  rw[jB] at this
  exact this
 have g0:=congrArg (fun l=>l.getD 0 0) h0
 have g2:=congrArg (fun l=>l.getD 0 0) h2
 unfold uV at g0 g2
 rw[aA9 _ _ _ _ _ (by omega)] at g0 g2
 unfold bG8 bE0 at g0 g2
 have k0:bY4 (xk (start 1 (fZ 0)) (0+1))=89:=by decide +kernel
 have k2:bY4 (xk (start 1 (fZ 2)) (0+1))=88:=by decide +kernel
 rw[k0] at g0
 rw[k2] at g2
 have r0:([104,101,121,0]:List Int).getD 0 0=104:=rfl
 have r2:([0,120,0,0]:List Int).getD 0 0=0:=rfl
 rw[r0] at g0
 rw[r2] at g2
 omega
theorem cV5:Bytes cU7.bytes:=fun x hx=>by
 simp only[cU7,List.mem_cons,List.not_mem_nil,or_false] at hx
 omega
theorem st3 {D D':Nat->Blk} {m:List aP} {e N r:Int} (hok:aR 110 D (l2 4 r 3)) (hr:aT 1 (aH D 3 r)=dE hey) (hu4:cO D 110<=4) (h:dU 110 D (l2 4 r 3) 0 ⟨1,4,[x1 r 3]⟩ cU7 D' m e N):e=8/\D'=D/\m=l2 4 r 3:=by
 have hk:cU7.kind=3:=rfl
 cases h with
 | noadd _ h1=>rw[hk] at h1; omega
 | add _ h1=>rw[hk] at h1; omega
 | uses _ h1=>rw[hk] at h1; omega
 | missing _ _ h1=>exact absurd ⟨x1 r 3,by simp,rfl⟩ h1
 | look _ _ _ _ _ _ h1=>rw[hk] at h1; omega
 | destroy _ _ _ _ _ h1=>rw[hk] at h1; omega
 | noclone _ _ _ _ _ h1=>rw[hk] at h1; omega
 | clone _ _ _ _ _ _ _ h1=>rw[hk] at h1; omega
 | nochange k x e1 h1 h2 h3 h4 h5=>
   obtain⟨rfl,rfl⟩:=bO7 h1
   rcases h5 with⟨f,_⟩ | ⟨f,_⟩
   ·exfalso
    obtain⟨root,size,hn,hlt,_⟩:=f.1 rfl cA7 ⟨by decide,by decide⟩ (.inr (by simp))
    rcases hn with⟨f,hf,_,rfl,rfl⟩ | ⟨f,_⟩
    ·obtain rfl:f=⟨nF,r,3⟩:=by simpa using hf
     rw[cV6 hr] at hlt
     omega
    ·exact f ⟨⟨nF,r,3⟩,by simp,rfl⟩
   ·exact⟨f,rfl,rfl⟩
 | change k x D' y q h1 h2 h3 h4 h5 h6=>
   exfalso
   obtain⟨rfl,rfl⟩:=bO7 h1
   obtain⟨hx,hh,_⟩:=hok.heldX (i:=0) (t:=⟨1,4,[x1 r 3]⟩) (x:=x1 r 3) rfl (by simp)
   obtain⟨root,size,made,C,⟨p,ht⟩,hT,hD,hu,hf,hy,hm⟩:=bT9 hx hh cV5 hok.refs (tC cU7) h4 rfl
   rcases ht with⟨hp,_,rfl,rfl,ey⟩ | ⟨f,_⟩
   ·obtain rfl:p=0:=by simpa using hp
    have hm':aT 1 (aH C 3 made)=dE cV1:=by rw[hm]; exact congrArg dE (cV2 hr)
    have ey':∃ z,y=⟨nA,[⟨nF,made,z⟩],[]⟩:=⟨_,ey⟩
    obtain⟨z,rfl⟩:=ey'
    have hfD:=hf ⟨nF,made,z⟩ (by simp[lC])
    have hfo:=hy.files.files ⟨nF,made,z⟩ (by simp)
    rw[hm'] at hfD
    have c0:=yL 1 (aH D' 3 made) (i:=0) (by omega) (hfo.leaf04 0 (by omega))
    have c2:=yL 1 (aH D' 3 made) (i:=2) (by omega) (hfo.leaf04 2 (by omega))
    have hfD':aT 1 (aH D' 3 made)=dE cV1:=hfD
    rw[hfD'] at c0 c2
    have d0:chunk (dE cV1) 0=[104,101,121,0]:=by decide +kernel
    have d2:chunk (dE cV1) 2=[0,120,0,0]:=by decide +kernel
    rw[d0] at c0
    rw[d2] at c2
    have g5:=cV3 hD h5 (r:=made) (by simp[cK,aG,aS]) hfo.rooted (fun f=>by rw[f,xB] at c0; exact absurd c0 (by decide)) (fun f=>by rw[f,xB] at c2; exact absurd c2 (by decide)) (fun f=>by rw[<-f] at c2; exact differ c0.symm c2.symm)
    have h6':q<=4:=h6
    omega
   ·exact f ⟨⟨nF,r,3⟩,by simp,rfl⟩
theorem st4 {D D':Nat->Blk} {m:List aP} {e N r:Int} (h:dU 110 D (l2 4 r 3) 1 ⟨2,10,[]⟩ cU4 D' m e N):e=5/\D'=D/\m=l2 4 r 3:=by
 have hk:cU4.kind=11:=rfl
 cases h with
 | noadd _ h1=>rw[hk] at h1; omega
 | add _ h1=>rw[hk] at h1; omega
 | uses _ h1=>rw[hk] at h1; omega
 | missing _ _ h1=>exact⟨rfl,rfl,rfl⟩
 | look _ _ _ _ h1=>simp at h1
 | destroy _ _ _ _ _ h1=>rw[hk] at h1; omega
 | noclone _ _ _ _ _ h1=>rw[hk] at h1; omega
 | clone _ _ _ _ _ _ _ h1=>rw[hk] at h1; omega
 | nochange _ _ _ _ _ h1=>exact absurd hk h1.2.2.1
 | change _ _ _ _ _ _ _ h1=>exact absurd hk h1.2.2.1
theorem cV9 {D:Nat->Blk} {r:Int} (hr:aT 1 (aH D 3 r)=dE hey):aQ3 D ⟨1,4,[x1 r 3]⟩ cU4=hey:=by
 have e1:setOf ⟨1,4,[x1 r 3]⟩ cU4.set.data.toList=some (x1 r 3):=by simp[setOf,cU4,aK.nm]
 have e2:fileOf (x1 r 3) cU4.file.data.toList=some ⟨nF,r,3⟩:=by simp[fileOf,cU4,Ent.nm]
 unfold aQ3
 rw[if_pos (.inl rfl),e1]
 show zL D 1 (x1 r 3) cU4=hey
 unfold zL
 rw[if_neg (by decide),e2]
 show (if bW0 cU4 then nP (aT 1 (aH D 3 r)) 3 0 9 else [])=hey
 rw[if_pos ⟨⟨by decide,by decide⟩,⟨by decide,by decide⟩⟩,hr]
 decide +kernel
theorem cU8 {D:Nat->Blk} {m:List aP} {ys:List jJ} (hok0:aR 110 B0 (l0 4)) (h:gN 110 B0 (l0 4) [(0,bW2),(0,yT hey),(0,cU7),(1,cU4),(0,cU4)] D m ys):
 (ys.getD 1 jJ.zero).e=0/\(ys.getD 2 jJ.zero).e=8/\(ys.getD 3 jJ.zero).e=5/\(ys.getD 4 jJ.zero).b=hey:=by
 have r2:∀ D m ys,gN 110 B0 (l0 4) [((0:Nat),bW2),((0:Nat),yT hey)] D m ys->aR 110 D m/\cO D 110<=4/\∃ r N1 N2,m=l2 4 r 3/\aT 1 (aH D 3 r)=dE hey/\ys=[⟨0,N1,[],[]⟩,⟨0,N2,[],[]⟩]:=cT4 cV8 (by decide) hok0
 have r3:∀ D m ys,gN 110 B0 (l0 4) [((0:Nat),bW2),((0:Nat),yT hey),((0:Nat),cU7)] D m ys->∃ r y1 y2 y3,m=l2 4 r 3/\aT 1 (aH D 3 r)=dE hey/\ys=[y1,y2,y3]/\y2.e=0/\y3.e=8:=fun D m ys h=>by
  obtain⟨D1,m1,ys1,t,e,N,rfl,h1,h2,h3⟩:=aK5 (xs:=[((0:Nat),bW2),((0:Nat),yT hey)]) (k:=0) h (by simp) (fun D m ys h=>by obtain⟨_,_,r,_,_,e,_⟩:=r2 D m ys h; rw[e]; rfl)
  obtain⟨hok,h4,r,N1,N2,rfl,hr,rfl⟩:=r2 _ _ _ h1
  obtain rfl:t=⟨1,4,[x1 r 3]⟩:=by simpa using h2.symm
  obtain⟨rfl,rfl,rfl⟩:=st3 hok hr h4 h3
  exact⟨r,_,_,_,rfl,hr,rfl,rfl,rfl⟩
 have r4:∀ D m ys,gN 110 B0 (l0 4) [((0:Nat),bW2),((0:Nat),yT hey),((0:Nat),cU7),((1:Nat),cU4)] D m ys->∃ r y1 y2 y3 y4,m=l2 4 r 3/\aT 1 (aH D 3 r)=dE hey/\ys=[y1,y2,y3,y4]/\y2.e=0/\y3.e=8/\y4.e=5:=fun D m ys h=>by
  obtain⟨D1,m1,ys1,t,e,N,rfl,h1,h2,h3⟩:=aK5 (xs:=[((0:Nat),bW2),((0:Nat),yT hey),((0:Nat),cU7)]) (k:=1) h (by simp) (fun D m ys h=>by obtain⟨r,_,_,_,e,_⟩:=r3 D m ys h; rw[e]; rfl)
  obtain⟨r,y1,y2,y3,rfl,hr,rfl,q2,q3⟩:=r3 _ _ _ h1
  obtain rfl:t=⟨2,10,[]⟩:=by simpa using h2.symm
  obtain⟨rfl,rfl,rfl⟩:=st4 h3
  exact⟨r,y1,y2,y3,_,rfl,hr,rfl,q2,q3,rfl⟩
 obtain⟨D1,m1,ys1,t,e,N,rfl,h1,h2,h3⟩:=aK5 (xs:=[((0:Nat),bW2),((0:Nat),yT hey),((0:Nat),cU7),((1:Nat),cU4)]) (k:=0) h (by simp) (fun D m ys h=>by obtain⟨r,_,_,_,_,e,_⟩:=r4 D m ys h; rw[e]; rfl)
 obtain⟨r,y1,y2,y3,y4,rfl,hr,rfl,q2,q3,q4⟩:=r4 _ _ _ h1
 obtain rfl:t=⟨1,4,[x1 r 3]⟩:=by simpa using h2.symm
 exact⟨q2,q3,q4,cV9 hr⟩
abbrev cV4 (h:Nat):Array Value:=#[.int .i64 1,.string ⟨#[97]⟩,.string ⟨#[]⟩,.string ⟨#[]⟩,.int .i64 0,.int .i64 0,.slice none 0 0,.int .i64 3,.string ⟨#[97]⟩,.string ⟨#[102]⟩,.string ⟨#[]⟩,.int .i64 0,.int .i64 0,.slice (some ⟨h+1,0,none⟩) 3 3,.int .i64 3,.string ⟨#[97]⟩,.string ⟨#[102]⟩,.string ⟨#[]⟩,.int .i64 9,.int .i64 0,.slice (some ⟨h+1+1,0,none⟩) 1 1,.int .i64 11,.string ⟨#[97]⟩,.string ⟨#[102]⟩,.string ⟨#[]⟩,.int .i64 0,.int .i64 9,.slice none 0 0,.int .i64 11,.string ⟨#[97]⟩,.string ⟨#[102]⟩,.string ⟨#[]⟩,.int .i64 0,.int .i64 9,.slice none 0 0]
abbrev five (w:World):World:=(((w.alloc (.cells #[.int .i64 0,.int .i64 0,.int .i64 0,.int .i64 1,.int .i64 0] 3)).alloc (.cells #[.int .u8 104,.int .u8 101,.int .u8 121] 5 (3,4))).alloc (.cells #[.int .u8 120] 5 (1,2))).alloc (.cells (cV4 w.heap.size) 30)
theorem cV7 (w:World):aI (fun _=>True) .i64 (five w) (some ⟨w.heap.size,0,none⟩) 5 [0,0,0,1,0]/\kW (five w) (some ⟨w.heap.size+1+1+1,0,none⟩) 5 [bW2,yT hey,cU7,cU4,cU4]/\Below w.heap.size w (five w):=by
 have ba:=aA w (.cells #[.int .i64 0,.int .i64 0,.int .i64 0,.int .i64 1,.int .i64 0] 3)
 have bb:=aA (w.alloc (.cells #[.int .i64 0,.int .i64 0,.int .i64 0,.int .i64 1,.int .i64 0] 3)) (.cells #[.int .u8 104,.int .u8 101,.int .u8 121] 5 (3,4))
 have bc:=aA ((w.alloc (.cells #[.int .i64 0,.int .i64 0,.int .i64 0,.int .i64 1,.int .i64 0] 3)).alloc (.cells #[.int .u8 104,.int .u8 101,.int .u8 121] 5 (3,4))) (.cells #[.int .u8 120] 5 (1,2))
 have bd:=aA (((w.alloc (.cells #[.int .i64 0,.int .i64 0,.int .i64 0,.int .i64 1,.int .i64 0] 3)).alloc (.cells #[.int .u8 104,.int .u8 101,.int .u8 121] 5 (3,4))).alloc (.cells #[.int .u8 120] 5 (1,2))) (.cells (cV4 w.heap.size) 30)
 have k0:=(((aB w #[.int .i64 0,.int .i64 0,.int .i64 0,.int .i64 1,.int .i64 0] 3).below bb).below bc).below bd
 have n1:=((bZ9 (w.alloc (.cells #[.int .i64 0,.int .i64 0,.int .i64 0,.int .i64 1,.int .i64 0] 3)) [104,101,121] 5 (3,4) (by decide)).below bc).below bd
 have n2:=(bZ9 ((w.alloc (.cells #[.int .i64 0,.int .i64 0,.int .i64 0,.int .i64 1,.int .i64 0] 3)).alloc (.cells #[.int .u8 104,.int .u8 101,.int .u8 121] 5 (3,4))) [120] 5 (1,2) (by decide)).below bd
 have k3:=aB (((w.alloc (.cells #[.int .i64 0,.int .i64 0,.int .i64 0,.int .i64 1,.int .i64 0] 3)).alloc (.cells #[.int .u8 104,.int .u8 101,.int .u8 121] 5 (3,4))).alloc (.cells #[.int .u8 120] 5 (1,2))) (cV4 w.heap.size) 30
 simp only[szB,List.length_cons,List.length_nil] at n1 n2 k3
 have nz:aI (fun _=>True) .u8 (five w) none 0 []:=⟨rfl,fun x hx=>(by cases hx),fun h=>absurd h (by omega)⟩
 refine⟨⟨rfl,fun x hx=>?_,fun _=>⟨w.heap.size,0,rfl,k0.lt,trivial,fun i hi=>?_⟩⟩,⟨rfl,fun _=>⟨w.heap.size+1+1+1,0,rfl,k3.lt,fun i hi=>?_⟩⟩,Below.tr (Below.tr (Below.tr ba bb) bc) bd⟩
 ·simp only[List.mem_cons,List.not_mem_nil,or_false] at hx
  rcases hx with rfl | rfl | rfl | rfl | rfl<;>decide
 ·match i,hi with
  | 0,_=>exact k0.cell 0
  | 1,_=>exact k0.cell 1
  | 2,_=>exact k0.cell 2
  | 3,_=>exact k0.cell 3
  | 4,_=>exact k0.cell 4
 ·match i,hi with
  | 0,_=>exact⟨none,0,0,k3.cell 0,k3.cell 1,k3.cell 2,k3.cell 3,k3.cell 4,k3.cell 5,k3.cell 6,nz,okA _ _ _ _ (by decide) (by decide) (by decide) (by decide) (by decide),Nat.le_refl _⟩
  | 1,_=>exact⟨_,3,3,k3.cell 7,k3.cell 8,k3.cell 9,k3.cell 10,k3.cell 11,k3.cell 12,k3.cell 13,n1,okA _ _ _ _ (by decide) (by decide) (by decide) (by decide) (by decide),Nat.le_refl _⟩
  | 2,_=>exact⟨_,1,1,k3.cell 14,k3.cell 15,k3.cell 16,k3.cell 17,k3.cell 18,k3.cell 19,k3.cell 20,n2,okA _ _ _ _ (by decide) (by decide) (by decide) (by decide) (by decide),Nat.le_refl _⟩
  | 3,_=>exact⟨none,0,0,k3.cell 21,k3.cell 22,k3.cell 23,k3.cell 24,k3.cell 25,k3.cell 26,k3.cell 27,nz,okA _ _ _ _ (by decide) (by decide) (by decide) (by decide) (by decide),Nat.le_refl _⟩
  | 4,_=>exact⟨none,0,0,k3.cell 28,k3.cell 29,k3.cell 30,k3.cell 31,k3.cell 32,k3.cell 33,k3.cell 34,nz,okA _ _ _ _ (by decide) (by decide) (by decide) (by decide) (by decide),Nat.le_refl _⟩
theorem cU3 (w:World):Calls Tryz.prog 7 #[] w fun e w'=>e=.returned (.bool true)/\Below w.heap.size w w':=by
 go_enter Tryz.func7,Tryz.ntmps7
 go_wp2_with fail
 refine(bL2 4 (by decide) (by decide) w).mono ?_
 rintro e w1 ⟨⟨a,c,ta,tc,rfl,hP⟩,b1⟩
 have bA:=hid (aA w1 (.cells #[.slice a 110 c,.slice ta 2 tc] 27))
 have kA:Hid (aC _ w1.heap.size #[.slice a 110 c,.slice ta 2 tc] 27):=hid (aB w1 _ _)
 replace hP:=hid (hP.below bA.out)
 replace b1:=hid (Below.tr b1 bA.out)
 go_upto_region 4 with fail
 generalize w1.alloc (.cells #[.slice a 110 c,.slice ta 2 tc] 27)=w2 at *
 have p0:=kA.out.cell 0
 have p1:=kA.out.cell 1
 simp only[List.getElem?_toArray,List.getElem?_cons_zero,List.getElem?_cons_succ] at p0 p1
 have kc:=Joins.run_convert_bytes_const_at (P:=Tryz.prog) (w2.alloc (.cells #[.int .i64 0,.int .i64 0,.int .i64 0,.int .i64 1,.int .i64 0] 3)) 28 5 #[.int .u8 104,.int .u8 101,.int .u8 121] 3 3 (w2.heap.size+1) (by simp) Tryz.underlying28 Tryz.underlying5
 have kd:=Joins.run_convert_bytes_const_at (P:=Tryz.prog) ((w2.alloc (.cells #[.int .i64 0,.int .i64 0,.int .i64 0,.int .i64 1,.int .i64 0] 3)).alloc (.cells #[.int .u8 104,.int .u8 101,.int .u8 121] 5 (3,4))) 28 5 #[.int .u8 120] 1 1 (w2.heap.size+1+1) (by simp) Tryz.underlying28 Tryz.underlying5
 go_wp2_with fail
 obtain⟨hW,hA,b5⟩:=cV7 w2
 have hok0:aR 110 B0 (l0 4):=cM4 (by decide) (by decide)
 refine(qZ (fun _=>True) a 110 c B0 ta 2 tc (l0 4) _ 5 [0,0,0,1,0] _ 5 5 [bW2,yT hey,cU7,cU4,cU4] (five w2) (hP.out.below b5) hok0 hW hA (by omega)).mono ?_
 rintro e w6 ⟨hret,b6⟩
 unfold aQ7 at hret
 obtain⟨g,ta', tc', rb,D,l', v,ys,rfl,hPR,hAns,hokR,hruns,hlen,htold⟩:=hret
 obtain⟨y1,y2,y3,y4⟩:=cU8 hok0 hruns
 have hv:(v 1).e=0/\(v 2).e=8/\(v 3).e=5:=⟨(htold 1 (by omega)).e.trans y1,(htold 2 (by omega)).e.trans y2,(htold 3 (by omega)).e.trans y3⟩
 have hNy':aI (fun _=>True) .u8 w6 (v 4).y (v 4).ln hey:=by rw[<-y4]; exact(htold 4 (by omega)).lists.bytes
 have bB:=hid (aA w6 (.cells #[.slice (some ⟨g,0,none⟩) 110 110,.slice ta' 2 tc'] 27))
 have kB:Hid (aC _ w6.heap.size #[.slice (some ⟨g,0,none⟩) 110 110,.slice ta' 2 tc'] 27):=hid (aB w6 _ _)
 replace hPR:=hid (hPR.below bB.out)
 replace hAns:=hAns.below bB.out
 replace hNy':=hNy'.below bB.out
 have hbel:Hid (Below w.heap.size w _):=hid (Below.tr (Below.tr (Below.tr b1.out b5) b6) bB.out)
 replace hokR:=hid hokR
 clear hruns htold hlen y1 y2 y3 y4 hW hA b5 b6 kc kd p0 p1 hP kA bA b1
 go_upto_region 5 with fail
 generalize w6.alloc (.cells #[.slice (some ⟨g,0,none⟩) 110 110,.slice ta' 2 tc'] 27)=w7 at *
 have c1:=(hAns.cells (i:=1) (by omega)).1
 have c2:=(hAns.cells (i:=2) (by omega)).1
 have c3:=(hAns.cells (i:=3) (by omega)).1
 have c4:=(hAns.cells (i:=4) (by omega)).2.2.2
 rw[hv.1] at c1
 rw[hv.2.1] at c2
 rw[hv.2.2] at c3
 simp only[Nat.reduceMul,Nat.reduceAdd] at c1 c2 c3 c4
 have hcv:=jM w7 (v 4).lc hNy'
 have hst:strOfNums hey=⟨#[104,101,121]⟩:=by decide +kernel
 rw[hst] at hcv
 have q0:=kB.out.cell 0
 have q1:=kB.out.cell 1
 simp only[List.getElem?_toArray,List.getElem?_cons_zero,List.getElem?_cons_succ] at q0 q1
 generalize (v 4).y=ya at *
 generalize (v 4).ln=yn at *
 generalize (v 4).lc=yc at *
 replace hAns:=hid hAns
 replace hNy':=hid hNy'
 replace hv:=hid hv
 go_wp2_with fail
 refine(jN (fun _=>True) (some ⟨g,0,none⟩) 110 110 D ta' 2 tc' l' w7 hPR.out).mono ?_
 rintro e w8 ⟨⟨e8,rfl,he8⟩,b8⟩
 obtain rfl:e8=0:=he8.2 hokR.out
 clear he8 hcv c1 c2 c3 c4 q0 q1
 go_wp2_with fail
 go_ret
 exact⟨rfl,Below.tr hbel.out b8⟩
theorem cU5 (k n:Int) (w:World) (h0:1<=n) (h1:n<=1000000):
 Calls Tryz.prog 12 #[.int .i64 k,.int .i64 n] w fun e w'=>(∃ r:Nat,e=.returned (.int .i64 r)/\(r:Int)<n)/\w'=w:=by
 have t1:=Int.tmod_lt_of_pos k (show 0<n by omega)
 have t2:-n<k.tmod n:=by have:=Int.tmod_lt_of_pos (-k) (show 0<n by omega); rw[Int.neg_tmod] at this; omega
 have hnz:(n == 0)=false:=by simp; omega
 generalize ht:k.tmod n=t at t1 t2
 by_cases hneg:t<0
 ·go_enter Tryz.func12,Tryz.ntmps12
  go_wp2
  go_ret
  exact⟨⟨(t+n).toNat,congrArg (fun z=>Ending.returned (.int .i64 z)) (show t+n=((t+n).toNat:Int) by omega),by omega⟩,rfl⟩
 ·go_enter Tryz.func12,Tryz.ntmps12
  go_wp2
  go_ret
  exact⟨⟨t.toNat,congrArg (fun z=>Ending.returned (.int .i64 z)) (show t=(t.toNat:Int) by omega),by omega⟩,rfl⟩
end Go.Proofs.YtjafgnohlkkopaaGreatDoor
