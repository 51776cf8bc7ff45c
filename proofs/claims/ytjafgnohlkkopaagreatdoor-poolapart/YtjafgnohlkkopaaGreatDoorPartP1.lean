import Derived.Test.YtjafgnohlkkopaaGreatDoorPart30
import Derived.Test.YtjafgnohlkkopaaGreatDoorPart32
import Derived.Test.YtjafgnohlkkopaaGreatDoorPart13
set_option linter.unusedVariables false
set_option maxHeartbeats 8000000
set_option maxRecDepth 100000
namespace Go.Proofs.YtjafgnohlkkopaaGreatDoor
open Go.RowKit
theorem Rws.pushK {base:Nat} {w:World} {v u:Value} {ms:List vB} {l:List Int} (h:Rws base w v u ms l) (hb:base<=w.heap.size) (m:vB) (hm:m.At (fun b=>v.ownBlock≠some b/\u.ownBlock≠some b) w) (x:Int) (hx:(Lit.int .i64 x).wf=true) (h1:ms.length<=100) (h2:l.length<=100):
 ∃ v' w2 u' w4,(∀ ty,(Builtin.append_ #[37,37] ty #[v,.slice (some ⟨w.heap.size,0,none⟩) 1 1]).run Tryz.prog (w.alloc (.cells m.cells.toArray 30))=.ok v' w2)/\
  (∀ ty,(Builtin.append_ #[36,36] ty #[u,.slice (some ⟨w2.heap.size,0,none⟩) 1 1]).run Tryz.prog (w2.alloc (.cells #[.int .i64 x] 3))=.ok u' w4)/\Rws base w4 v' u' (ms++[m]) (l++[x])/\Below base w w4/\∀ b,b<w.heap.size->v.ownBlock≠some b->u.ownBlock≠some b->w4.heap[b]? =w.heap[b]? /\v'.ownBlock≠some b/\u'.ownBlock≠some b:=by
 have b1:=aA w (.cells m.cells.toArray 30)
 have k1:=aB w m.cells.toArray 30
 have sz1:(w.alloc (.cells m.cells.toArray 30)).heap.size=w.heap.size+1:=by simp
 have hR1:=h.below b1
 have hm1:=hm.below b1
 generalize w.alloc (.cells m.cells.toArray 30)=w1 at *
 obtain⟨i0,hi,hz0,hz1,hz2⟩:=info_parts Tryz.infoAsk
 have A:=fun ty=>run_append_own_at (P:=Tryz.prog) w1 base 37 ty 30 i0 _ 7 96 Tryz.underlying37 hi hz0 hz1 hz2 rfl (by decide) v ms.length _ hR1.arow ⟨w.heap.size,0,none⟩ 1 1 m.cells rfl (fun j q hj=>by
  have hadd:(⟨w.heap.size,0,none⟩:Addr).add j=⟨w.heap.size,j,none⟩:=by unfold Addr.add; split<;>simp_all
  rw[hadd,k1.cell j]
  simpa using hj) (aQ1 m) (by unfold maxLen; omega) (by omega) (by omega)
 obtain⟨v', w2,hr,ho,hg,_,hat⟩:=A 0
 have hr':∀ ty,(Builtin.append_ #[37,37] ty #[v,.slice (some ⟨w.heap.size,0,none⟩) 1 1]).run Tryz.prog w1=.ok v' w2:=fun ty=>by
  have:(Builtin.append_ #[37,37] ty #[v,.slice (some ⟨w.heap.size,0,none⟩) 1 1])=(Builtin.append_ #[37,37] 0 #[v,.slice (some ⟨w.heap.size,0,none⟩) 1 1]):=rfl
  rw[this]; exact hr
 have on1:Only (fun b=>v.ownBlock=some b) w1 w2:=mE hg (fun k hk=>hk)
 have bB1:Below base w w2:=(b1.mono hb).trans (on1.below (fun k hk=>(h.arow.lt k hk).1) (by omega))
 have irow2:w2.ownsRow base 3 1 u l.length (l.map (Value.int .i64)):=on1.row hR1.irow (fun k hk f=>h.apart k f hk)
 have hnew1:∀ b,b<w1.heap.size->v.ownBlock≠some b->v'.ownBlock≠some b:=fun b hb hn e=>by
  rcases hat with h1 | h1
  ·exact hn (by rw[<-h1]; exact e)
  ·rw[h1] at e; cases e; omega
 have lift1:∀ y:vB,y.At (fun b=>v.ownBlock≠some b/\u.ownBlock≠some b) w1->y.At (fun b=>v'.ownBlock≠some b/\u.ownBlock≠some b) w2:=fun y h5=>by
  have h7:=h5.weaken (R:=fun b=>(v.ownBlock≠some b/\u.ownBlock≠some b)/\b<w1.heap.size) (fun b hb q=>⟨q,hb⟩)
  exact(h7.only on1 (fun b q e=>q.1.1 e)).weaken (fun b _ q=>⟨hnew1 b q.2 q.1.1,q.1.2⟩)
 have hu1:∀ b,u.ownBlock=some b->b<w1.heap.size:=fun b hb=>(hR1.irow.lt b hb).2
 have apart1:∀ b,v'.ownBlock=some b->u.ownBlock≠some b:=fun b e f=>hnew1 b (hu1 b f) (fun e2=>h.apart b e2 f) e
 have els1:∀ y∈ms++[m],y.At (fun b=>v'.ownBlock≠some b/\u.ownBlock≠some b) w2:=fun y hy=>by
  rcases List.mem_append.1 hy with hy | hy
  ·exact lift1 y (hR1.els y hy)
  ·rw[List.mem_singleton.1 hy]; exact lift1 m hm1
 have row1:w2.ownsRow base 30 7 v' (ms++[m]).length (pF (ms++[m])):=by
  rw[List.length_append]
  unfold pF
  rw[List.flatMap_append]
  simpa [pF] using ho
 have hb2:base<=w2.heap.size:=Nat.le_trans hb bB1.size
 have b3:=aA w2 (.cells #[.int .i64 x] 3)
 have k3:=aB w2 #[.int .i64 x] 3
 have sz3:(w2.alloc (.cells #[.int .i64 x] 3)).heap.size=w2.heap.size+1:=by simp
 have irow3:=bI irow2 b3
 have arow3:=bI row1 b3
 have els3:=fun y hy=>(els1 y hy).below b3
 refine⟨v', w2,?_⟩
 generalize w2.alloc (.cells #[.int .i64 x] 3)=w3 at *
 obtain⟨i1,gi,gz0,gz1,gz2⟩:=info_parts Tryz.infoInt
 have C:=fun ty=>run_append_own_at (P:=Tryz.prog) w3 base 36 ty 3 i1 _ 1 8 Tryz.underlying36 gi gz0 gz1 gz2 rfl (by decide) u l.length _ irow3 ⟨w2.heap.size,0,none⟩ 1 1 [.int .i64 x] rfl (fun j q hj=>by
  have hadd:(⟨w2.heap.size,0,none⟩:Addr).add j=⟨w2.heap.size,j,none⟩:=by unfold Addr.add; split<;>simp_all
  rw[hadd,k3.cell j]
  simpa using hj) (fun q hq=>by rw[List.mem_singleton.1 hq]; rfl) (by unfold maxLen; omega) (by omega) (by omega)
 obtain⟨u', w4,gr,go,gg,_,gat⟩:=C 0
 have on2:Only (fun b=>u.ownBlock=some b) w3 w4:=mE gg (fun k hk=>hk)
 have hnew2:∀ b,b<w3.heap.size->u.ownBlock≠some b->u'.ownBlock≠some b:=fun b hb hn e=>by
  rcases gat with h1 | h1
  ·exact hn (by rw[<-h1]; exact e)
  ·rw[h1] at e; cases e; omega
 refine⟨u', w4,hr', fun ty=>?_,⟨on2.row arow3 (fun k hk f=>apart1 k hk f),?_,fun b e f=>?_,fun y hy=>?_,fun y hy=>?_⟩,?_,fun b hb hv hu=>?_⟩
 ·have:(Builtin.append_ #[36,36] ty #[u,.slice (some ⟨w2.heap.size,0,none⟩) 1 1])=(Builtin.append_ #[36,36] 0 #[u,.slice (some ⟨w2.heap.size,0,none⟩) 1 1]):=rfl
  rw[this]; exact gr
 ·rw[List.length_append,List.map_append]
  exact go
 ·exact hnew2 b (arow3.lt b e).2 (fun f2=>apart1 b e f2) f
 ·have h7:=(els3 y hy).weaken (R:=fun b=>(v'.ownBlock≠some b/\u.ownBlock≠some b)/\b<w3.heap.size) (fun b hb q=>⟨q,hb⟩)
  exact(h7.only on2 (fun b q e=>q.1.2 e)).weaken (fun b _ q=>⟨q.1.1,hnew2 b q.2 q.1.2⟩)
 ·rcases List.mem_append.1 hy with hy | hy
  ·exact h.wf y hy
  ·rw[List.mem_singleton.1 hy]; exact hx
 ·exact bB1.trans ((b3.mono hb2).trans (on2.below (fun k hk=>(irow3.lt k hk).1) (by omega)))
 ·have s1:=on1.size
  exact⟨(on2.block b (by omega) hu).trans ((b3.block b (by omega)).trans ((on1.block b (by omega) hv).trans (b1.block b hb))),hnew1 b (by omega) hv,hnew2 b (by omega) hu⟩
theorem qE {n:Nat} {B D:Nat->Blk} {l m:List aP} {xs:List (Int×aM)} {ys:List jJ} (hP:aR n B l) (h:gN n B l xs D m ys):aR n D m/\m.length=l.length/\ys.length=xs.length:=by
 induction h with
 | nil=>exact⟨hP,rfl,rfl⟩
 | miss xs D m ys i a h hno ih=>exact⟨ih.1,ih.2.1,by rw[List.length_append,List.length_append,ih.2.2]; rfl⟩
 | step xs D m ys k a t D' m' e1 N h hk hb hc ih=>
   have is:=hc.is ih.1 hk hb
   obtain⟨t', e,_⟩:=is.set
   exact⟨is.ok,by rw[e,List.length_set]; exact ih.2.1,by rw[List.length_append,List.length_append,ih.2.2]; rfl⟩
def jG (i:Int) (xs:List (Int×aM)):List aM:=xs.filterMap fun p=>if p.1=i then some p.2 else none
def uW (i:Int) (xs:List (Int×aM)) (ys:List jJ):List jJ:=(xs.zip ys).filterMap fun p=>if p.1.1=i then some p.2 else none
theorem gL (i:Int) (xs:List (Int×aM)) (j:Int) (a:aM):jG i (xs++[(j,a)])=jG i xs++if j=i then [a] else []:=by
 unfold jG
 rw[List.filterMap_append]
 by_cases h:j=i
 ·rw[if_pos h]; simp[h]
 ·rw[if_neg h]; simp[h]
theorem jU (i:Int) {xs:List (Int×aM)} {ys:List jJ} (j:Int) (a:aM) (y:jJ) (h:ys.length=xs.length):uW i (xs++[(j,a)]) (ys++[y])=uW i xs ys++if j=i then [y] else []:=by
 unfold uW
 rw[List.zip_append h.symm,List.filterMap_append]
 by_cases h:j=i
 ·rw[if_pos h]; simp[h]
 ·rw[if_neg h]; simp[h]
theorem bA3 (i:Int):∀ (xs:List (Int×aM)) (ys:List jJ) (j:Nat) (a:aM),ys.length=xs.length->xs[j]? =some (i,a)->(uW i xs ys)[(jG i (xs.take j)).length]? =ys[j]?
 | [],_,j,a,_,h=>by simp at h
 | _::_,[],_,_,h,_=>by simp at h
 | (k,b)::xs,y::ys,0,a,_,h=>by
   simp only[List.getElem?_cons_zero,Option.some.injEq,Prod.mk.injEq] at h
   obtain⟨rfl,rfl⟩:=h
   simp[uW,jG]
 | (k,b)::xs,y::ys,j+1,a,hl,h=>by
   have ih:=bA3 i xs ys j a (by simpa using hl) (by simpa using h)
   unfold uW jG at ih ⊢
   by_cases e:k=i
   ·simp[e,ih]
   ·simp[e,ih]
theorem bP9 (i:Int) (l:List aM):jG i (l.map fun a=>(i,a))=l:=by
 unfold jG
 induction l with
 | nil=>rfl
 | cons a l ih=>rw[List.map_cons,List.filterMap_cons]; simp[ih]
theorem aL3 (i:Int):∀ (l:List aM) (ys:List jJ),ys.length=l.length->uW i (l.map fun a=>(i,a)) ys=ys
 | [],[],_=>rfl
 | [],_::_,h=>by simp at h
 | _::_,[],h=>by simp at h
 | a::l,y::ys,h=>by
   have ih:=aL3 i l ys (by simpa using h)
   unfold uW at ih ⊢
   simp[ih]
theorem kQ.left {B B' D:Nat->Blk} {t u:aP} (h:kQ B D t u) (hs:eH B B' (aL t)):kQ B' D t u:=by
 obtain⟨f,e,hI⟩:=h
 exact⟨f,e,hI.keep hs (eH.refl _ _)⟩
theorem kQ.right {B D D':Nat->Blk} {t u:aP} (h:kQ B D t u) (hs:eH D D' (aL u)):kQ B D' t u:=by
 obtain⟨f,rfl,hI⟩:=h
 rw[jT] at hs
 exact⟨f,rfl,hI.keep (eH.refl _ _) hs⟩
theorem aK2 {l:List aP} {i k:Nat} {t:aP} (t':aP) (h:l[i]? =some t) (hk:k≠i):(l.set k t')[i]? =some t:=by
 rw[List.getElem?_set_ne hk]; exact h
theorem cI7 (t:aP):aM0 id t=t:=by
 have e:∀ l:List Ent,jH id l=l:=fun l=>by
  unfold jH
  exact(List.map_congr_left (g:=id) fun e _=>rfl).trans (List.map_id _)
 have n:∀ s:bQ,nU id s=s:=fun s=>by unfold nU; rw[e]
 have x:∀ s:aK,fB id s=s:=fun s=>by
  unfold fB
  rw[e,List.map_congr_left (g:=id) fun s _=>n s,List.map_id]
 unfold aM0
 rw[List.map_congr_left (g:=id) fun s _=>x s,List.map_id]
theorem kQ.refl (B:Nat->Blk) (t:aP):kQ B B t t:=⟨id,(cI7 t).symm,Iso.refl _ _⟩
def AtI (i:Nat) (D E:Nat->Blk) (m k:List aP):Prop:=∃ t u,m[i]? =some t/\k[i]? =some u/\kQ D E t u
theorem bJ7 {α:Type} {l m:List α} {a b:α} (h:l++[a]=m++[b]):l=m/\a=b:=by
 have:=List.append_inj' h rfl
 exact⟨this.1,by simpa using this.2⟩
theorem zW {n:Nat} {B D:Nat->Blk} {l m:List aP} {i:Nat} {A:List aM} {Y:List jJ} (hP:aR n B l) (hi:i<l.length)
 (main:∀ zs E k us a D' m' e1 N,gN n B l zs E k us->jG i zs++[a]=A->∀ u,k[i]? =some u->Bytes a.bytes->dU n E k i u a D' m' e1 N->AtI i D D' m m'/\Y=uW i zs us++[⟨e1,N,aH3 u a,aQ3 E u a⟩])
 (base:A=[]->AtI i D B m l/\Y=[]) {zs:List (Int×aM)} {E:Nat->Blk} {k:List aP} {us:List jJ} (h:gN n B l zs E k us) (hA:jG i zs=A):AtI i D E m k/\Y=uW i zs us:=by
 induction h with
 | nil=>exact base hA.symm
 | miss xs E k us j a h hno ih=>
   obtain⟨_,hl,hlen⟩:=qE hP h
   have hj:j≠(i:Int):=fun e=>hno (by omega)
   rw[gL,if_neg hj,List.append_nil] at hA
   rw[jU _ _ _ _ hlen,if_neg hj,List.append_nil]
   exact ih hA
 | step xs E k us j a u E' k' e1 N h hk hb hc ih=>
   obtain⟨hok,hl,hlen⟩:=qE hP h
   by_cases hj:(j:Int)=(i:Int)
   ·obtain rfl:j=i:=by omega
    rw[gL,if_pos rfl] at hA
    rw[jU _ _ _ _ hlen,if_pos rfl]
    exact main xs E k us a E' k' e1 N h hA u hk hb hc
   ·rw[gL,if_neg hj,List.append_nil] at hA
    rw[jU _ _ _ _ hlen,if_neg hj,List.append_nil]
    obtain⟨⟨t,v,h1,h2,h3⟩,h4⟩:=ih hA
    have is:=hc.is hok hk hb
    obtain⟨t', e,_⟩:=is.set
    have hne:i≠j:=fun f=>hj (by rw[f])
    refine⟨⟨t,v,h1,?_,h3.right (is.oth i v h2 hne).sameOn⟩,h4⟩
    rw[e]
    exact aK2 t' h2 (fun f=>hne f.symm)
theorem bX5 {n:Nat} {B D E:Nat->Blk} {l m k:List aP} {i:Nat} {xs zs:List (Int×aM)} {ys us:List jJ} (hP:aR n B l) (hi:i<l.length) (h:gN n B l xs D m ys) (g:gN n B l zs E k us) (hA:jG i zs=jG i xs):AtI i D E m k/\uW i xs ys=uW i zs us:=by
 induction h generalizing zs E k us with
 | nil=>
   refine zW (A:=[]) hP hi (fun zs E k us a D' m' e1 N _ e=>absurd e (by simp)) (fun _=>⟨⟨l[i],l[i],List.getElem?_eq_getElem hi,List.getElem?_eq_getElem hi,kQ.refl _ _⟩,rfl⟩) g hA
 | miss xs D m ys j a h hno ih=>
   obtain⟨_,hl,hlen⟩:=qE hP h
   have hj:j≠(i:Int):=fun e=>hno (by omega)
   rw[gL,if_neg hj,List.append_nil] at hA
   rw[jU _ _ _ _ hlen,if_neg hj,List.append_nil]
   exact ih g hA
 | step xs D m ys j a t D' m' e1 N h hk hb hc ih=>
   obtain⟨hok,hl,hlen⟩:=qE hP h
   have is:=hc.is hok hk hb
   by_cases hj:(j:Int)=(i:Int)
   ·obtain rfl:j=i:=by omega
    rw[gL,if_pos rfl] at hA
    rw[jU _ _ _ _ hlen,if_pos rfl]
    refine zW (A:=jG j xs++[a]) hP hi (fun zs E k us b E' k' e2 M hz e u hu hb2 hc2=>?_) (fun e=>absurd e (by simp)) g hA
    obtain⟨e3,rfl⟩:=bJ7 e
    obtain⟨⟨t2,u2,q1,q2,q3⟩,q4⟩:=ih hz e3
    rw[hk] at q1
    rw[hu] at q2
    cases q1
    cases q2
    obtain⟨okE,_,_⟩:=qE hP hz
    obtain⟨rfl,rfl,t3,u3,r1,r2,r3⟩:=cO2 hok okE hk hu q3 hb hc hc2
    obtain⟨s1,s2⟩:=cK2 q3 b
    refine⟨⟨t3,u3,r1,r2,r3⟩,?_⟩
    rw[q4,s1,s2]
   ·rw[gL,if_neg hj,List.append_nil] at hA
    rw[jU _ _ _ _ hlen,if_neg hj,List.append_nil]
    obtain⟨⟨v,u,h1,h2,h3⟩,h4⟩:=ih g hA
    obtain⟨t', e,_⟩:=is.set
    have hne:i≠j:=fun f=>hj (by rw[f])
    refine⟨⟨v,u,?_,h2,h3.left (is.oth i v h1 hne).sameOn⟩,h4⟩
    rw[e]
    exact aK2 t' h1 (fun f=>hne f.symm)
theorem oU {α β:Type}:∀ {l:List α} {f g:α->List β},(∀ a∈l,f a=g a)->l.flatMap f=l.flatMap g
 | [],_,_,_=>rfl
 | a::l,f,g,h=>by
   rw[List.flatMap_cons,List.flatMap_cons,h a List.mem_cons_self,oU fun b hb=>h b (List.mem_cons_of_mem _ hb)]
theorem aO3 {f:Int->Int} {B D:Nat->Blk} {R:List Int} (hI:Iso f B R D) (ahead:ByteArray) (key:Int) {l:List Ent} (hR:∀ e∈l,e.root∈R):gZ ahead key D (jH f l)=gZ ahead key B l:=by
 unfold gZ jH
 rw[List.flatMap_map]
 refine oU fun e he=>?_
 have hl:aH D 3 (f e.root)=aH B 3 e.root:=funext fun i=>hI.leaf 3 e.root (bA4 (hR e he)) i
 show aO6 ahead key D (bQ4 f e)=_
 unfold aO6
 show gV [ahead++e.name,rT e.size,⟨(aI2 (nP (aT key (aH D 3 (f e.root))) e.size.toNat 0 e.size.toNat)).toArray⟩]=_
 rw[hl]
theorem bO0 {B D:Nat->Blk} {t u:aP} {N M:Int} (h:kQ B D t u) (hN:sI B (aL t) N) (hM:sI D (aL u) M):jK D u M=jK B t N:=by
 obtain⟨f,rfl,hI⟩:=h
 rw[jT] at hM
 obtain rfl:=hI.uses hN hM
 have e:sN D t.key (t.sets.map (fB f))=sN B t.key t.sets:=by
  unfold sN
  rw[List.flatMap_map]
  refine oU fun x hx=>?_
  have hr:∀ r∈aG x,r∈aL t:=fun r hr=>fJ hx hr
  have e1:=aO3 hI ⟨#[32]⟩ t.key (l:=x.files) fun e he=>hr _ (List.mem_append_left _ (bV.2 ⟨e,he,rfl⟩))
  have e2:nG D t.key (x.snaps.map (nU f))=nG B t.key x.snaps:=by
   unfold nG
   rw[List.flatMap_map]
   refine oU fun s hs=>?_
   have e3:=aO3 hI ⟨#[32,32]⟩ t.key (l:=s.files) fun e he=>hr _ (List.mem_append_right _ (List.mem_flatMap.2 ⟨s,hs,bV.2 ⟨e,he,rfl⟩⟩))
   show gV _++gZ ⟨#[32,32]⟩ t.key D (jH f s.files)=_
   rw[e3]
   rfl
  show gV _++gZ ⟨#[32]⟩ t.key D (jH f x.files)++nG D t.key (x.snaps.map (nU f))=_
  rw[e1,e2]
  rfl
 show sN D t.key (t.sets.map (fB f))++cI8 N t.quota=_
 rw[e]
 rfl
theorem aY2 {who:List Int} {ql:List aM} {k:Nat} (h1:k<who.length) (h2:k<ql.length):(who.zip ql).take (k+1)=(who.zip ql).take k++[(who.getD k 0,ql.getD k aM.zero)]:=by
 have hk:k<(who.zip ql).length:=by rw[List.length_zip]; omega
 rw[List.take_succ_eq_append_getElem hk,List.getElem_zip]
 simp[List.getD,h1,h2]
def aQ7 (e:Ending) (w:World) (n:Nat) (B:Nat->Blk) (tn:Nat) (l:List aP) (q:Nat) (xs:List (Int×aM)):Prop:=
 ∃ (g:Nat) (ta:Option Addr) (tc rb:Nat) (D:Nat->Blk) (l':List aP) (v:Nat->lG) (ys:List jJ),e=.returned (.tuple #[.agg #[.slice (some ⟨g,0,none⟩) n n,.slice ta tn tc],.slice (some ⟨rb,0,none⟩) q q,.int .i64 0])/\fU (fun _=>True) w (some ⟨g,0,none⟩) n D ta tn l'/\lH w rb q v/\aR n D l'/\gN n B l xs D l' ys/\ys.length=q/\∀ i,i<q->kY (fun _=>True) w (v i) (ys.getD i jJ.zero)
theorem cL7 {w:World} {wa qa:Option Addr} {q:Nat} {who:List Int} {ql:List aM} (hw:aI (fun _=>True) .i64 w wa q who) (hq:kW w qa q ql) {k:Nat} (hk:k<q):(who.zip ql)[k]? =some (who.getD k 0,ql.getD k aM.zero):=by
 have h1:k<who.length:=by rw[hw.1]; exact hk
 have h2:k<ql.length:=by rw[hq.1]; exact hk
 rw[List.getElem?_zip_eq_some]
 refine⟨?_,?_⟩
 ·show who[k]? =some (who.getD k 0)
  rw[List.getD_eq_getElem?_getD,List.getElem?_eq_getElem h1]; rfl
 ·show ql[k]? =some (ql.getD k aM.zero)
  rw[List.getD_eq_getElem?_getD,List.getElem?_eq_getElem h2]; rfl
theorem qZ (Q:Nat->Prop) (pa:Option Addr) (n c:Nat) (B:Nat->Blk) (ta:Option Addr) (tn tc:Nat) (l:List aP) (wa:Option Addr) (wc:Nat) (who:List Int) (qa:Option Addr) (q qc:Nat) (ql:List aM) (w:World) (hP:fU Q w pa n B ta tn l) (hok:aR n B l) (hwho:aI (fun _=>True) .i64 w wa q who) (hq:kW w qa q ql) (h60:q<=60):
 Calls Tryz.prog 8 #[.agg #[.slice pa n c,.slice ta tn tc],.slice wa q wc,.slice qa q qc] w fun e w'=>aQ7 e w' n B tn l q (who.zip ql)/\Below w.heap.size w w':=by
 have b0:=aW w (.cells #[.slice pa n c,.slice ta tn tc] 27) (.cells #[.slice none 0 0,.slice none 0 0] 27)
 have k0:aC _ w.heap.size #[.slice pa n c,.slice ta tn tc] 27:=(aB w _ _).below (aA _ (.cells #[.slice none 0 0,.slice none 0 0] 27))
 have k1:=aF w (.cells #[.slice pa n c,.slice ta tn tc] 27) #[.slice none 0 0,.slice none 0 0] 27
 have hPK:Hid (fU (fun b=>b<w.heap.size) w pa n B ta tn l):=hid ⟨hP.store,hP.tens.weaken (fun b hb _=>hb)⟩
 have hP0:=hid (hP.below b0)
 replace b0:=hid b0
 replace k0:=hid k0
 replace k1:=hid k1
 replace hok:=hid hok
 replace hwho:=hid hwho
 replace hq:=hid hq
 have h60':decide ((60:Int)<(q:Int))=false:=by simp; omega
 replace h60:=hid h60
 clear hP
 go_enter Tryz.func8,Tryz.ntmps8
 go_upto_region 1 with fail
 generalize (w.alloc (.cells #[.slice pa n c,.slice ta tn tc] 27)).alloc (.cells #[.slice none 0 0,.slice none 0 0] 27)=w0 at *
 have p0:=k0.out.cell 0
 have p1:=k0.out.cell 1
 simp at p0 p1
 go_wp2_with fail
 refine(jN Q pa n c B ta tn tc l w0 hP0.out).mono ?_
 rintro e w1 ⟨⟨e1,rfl,he1⟩,b1⟩
 obtain rfl:e1=0:=he1.2 hok.out
 replace b0:=hid (Below.tr b0.out b1)
 replace k0:=hid (k0.out.below b1)
 replace k1:=hid (k1.out.below b1)
 clear b1 p0 p1 hP0 he1
 have p0:=k0.out.cell 0
 have p1:=k0.out.cell 1
 simp at p0 p1
 go_wp2_with fail
 refine(uO w.heap.size pa n c B ta tn tc l w1 b0.out.size (hPK.out.below b0.out) hok.out).mono ?_
 rintro e w3 ⟨⟨g,ta', tc', L,rfl,hg,hO,hM,hL,hr⟩,b3⟩
 have hPS:=hid (aZ7 hg hO hM hr)
 replace hL:=hid hL
 replace b3:=hid b3
 clear p0 p1 hg hO hM hr
 go_upto_region 9 with fail
 have hz7:Hid ((w3.alloc (.cells #[.slice (some ⟨g,0,none⟩) n n,.slice ta' tn tc'] 27)).heap.size=w3.heap.size+1):=hid (by simp)
 have hB7:=hid (aA w3 (.cells #[.slice (some ⟨g,0,none⟩) n n,.slice ta' tn tc'] 27))
 generalize w3.alloc (.cells #[.slice (some ⟨g,0,none⟩) n n,.slice ta' tn tc'] 27)=w7 at *
 obtain⟨cs,hmk,hA⟩:=bZ7 q h60.out w7
 replace hA:=hid hA
 go_wp2_with fail
 have hI:Hid (bV8 w1.heap.size (fun b=>((w.heap.size<=b/\b<w1.heap.size)\/b=w3.heap.size)\/b=w7.heap.size) w1 (w7.alloc (.cells cs 41)) w3.heap.size w7.heap.size n q B l (who.zip ql) ta' tn tc' 0 g B L (fun _=>lG.zero) []):=hid (by
  have bA:=aA w7 (.cells cs 41)
  have z7:=hz7.out
  have l3:=b3.out.size
  refine⟨(b3.out.trans (hB7.out.mono l3)).trans (bA.mono (by omega)),hPS.out.clear bA (fun b y=>by
   rcases y with y | ⟨i,y⟩
   ·exact y.elim .inl (fun y=>.inr ⟨by omega,by rw[szB]; omega⟩)
   ·exact(vD y).elim) (.inl (.inl (.inr rfl))),hA.out,fun _ _=>rfl,by rw[hL.out]; exact hok.out,?_,rfl,fun i hi=>absurd hi (by omega),.inr rfl,by omega,by omega⟩
  rw[hL.out]
  exact .nil)
 have hn37:Hid (w3.heap.size≠w7.heap.size):=hid (by have:=hz7.out; omega)
 clear hPS hA hL hmk
 generalize w7.alloc (.cells cs 41)=w8 at *
 go_loopw [37] (fun u wr=>∃ (k g:Nat) (D:Nat->Blk) (L:List aY) (v:Nat->lG) (ys:List jJ),k<=q/\u=.int .i64 k/\bV8 w1.heap.size (fun b=>((w.heap.size<=b/\b<w1.heap.size)\/b=w3.heap.size)\/b=w7.heap.size) w1 wr w3.heap.size w7.heap.size n q B l (who.zip ql) ta' tn tc' k g D L v ys) (fun u _=>q-(Go.RowKit.intOf u).toNat)
 case atStart=>exact⟨0,g,B,L,_,_,Nat.zero_le _,rfl,hI.out⟩
 case round=>
  clear hI
  obtain⟨k,g,D,L,v,ys,hk,rfl,hI⟩:=hrel
  by_cases hlt:k<q
  ·have hbw:Hid (Below w.heap.size w wr):=hid (b0.out.trans (hI.bel.mono b0.out.size))
   have hx:=hid (cL7 hwho.out hq.out hlt)
   obtain⟨qb,qo,rfl,hqb,hqc⟩:=(hq.out.below hbw.out).2 (by omega)
   obtain⟨wb,wo,rfl,hwb,_,hwc⟩:=(hwho.out).2.2 (by omega)
   obtain⟨ba,bn,bc,hAsk⟩:=hqc k hlt
   have c0:=hAsk.c0
   have c1:=hAsk.c1
   have c2:=hAsk.c2
   have c3:=hAsk.c3
   have c4:=hAsk.c4
   have c5:=hAsk.c5
   have c6:=hAsk.c6
   have u0:=(hbw.out.cell (p:=⟨wb,wo+k,none⟩) hwb).trans (hwc k hlt)
   have hao:=hAsk.ok
   have hNb:=hid hAsk.bytes
   have hib:=hid (hwho.out.bd (hwho.out.getD hlt))
   clear hAsk hqc hwc
   generalize ql.getD k aM.zero=a at *
   generalize who.getD k 0=i at *
   have b5:=hid (aA wr (.cells #[.int .i64 a.kind,.string a.set,.string a.file,.string a.to,.int .i64 a.pos,.int .i64 a.num,.slice ba bn bc] 30))
   have k5:Hid (aC _ wr.heap.size #[.int .i64 a.kind,.string a.set,.string a.file,.string a.to,.int .i64 a.pos,.int .i64 a.num,.slice ba bn bc] 30):=hid (aB wr _ _)
   have g5:∀ o,(wr.alloc o).cell? ⟨wb,wo+k,none⟩=wr.cell? ⟨wb,wo+k,none⟩:=fun o=>World.cell?_alloc_past _ _ _ (Nat.lt_of_lt_of_le hwb hbw.out.size)
   have hk0:(0:Int)<=(k:Int):=by omega
   have hkI:(k:Int)<(q:Int):=by omega
   replace hI:=hid hI
   have hw64:Hid (wrap64 ((k:Int)+1)=(k:Int)+1):=hid (by have:=h60.out; unfold wrap64; omega)
   replace hlt:=hid hlt
   replace hqb:=hid hqb
   replace hwb:=hid hwb
   go_upto_region 13 with fail
   have hI5:=hid (hI.out.below b5.out)
   have hN5:=hid (hNb.out.below b5.out)
   clear c0 c1 c2 c3 c4 c5 c6
   rw[<-g5 (.cells #[.int .i64 a.kind,.string a.set,.string a.file,.string a.to,.int .i64 a.pos,.int .i64 a.num,.slice ba bn bc] 30)] at u0
   have n5:Hid (wr.heap.size<(wr.alloc (.cells #[.int .i64 a.kind,.string a.set,.string a.file,.string a.to,.int .i64 a.pos,.int .i64 a.num,.slice ba bn bc] 30)).heap.size):=hid (by rw[szB]; omega)
   clear g5 hNb
   generalize wr.alloc (.cells #[.int .i64 a.kind,.string a.set,.string a.file,.string a.to,.int .i64 a.pos,.int .i64 a.num,.slice ba bn bc] 30)=w5 at *
   have o0:=hI5.out.st.box.cell 0
   have o1:=hI5.out.st.box.cell 1
   simp only[List.getElem?_toArray,List.getElem?_cons_zero,List.getElem?_cons_succ] at o0 o1
   have lo:=hid hI5.out.st.box.lt
   have Lw5:Hid (wb<w5.heap.size):=hid (Nat.lt_of_lt_of_le hwb.out (Nat.le_trans hbw.out.size b5.out.size))
   go_region_held3 (fun w'=>w'.cell? ⟨w3.heap.size,0,none⟩=some (.slice (some ⟨g,0,none⟩) n n)/\w'.cell? ⟨w3.heap.size,1,none⟩=some (.slice ta' tn tc')/\w'.cell? ⟨wb,wo+k,none⟩=some (.int .i64 i)) (first | go_keep | assumption) (first | (go_at_call 19; refine Calls.mono (aA5 (some ⟨g,0,none⟩) n n ta' tn tc' i _) ?_; rintro e w6 ⟨⟨bb,rfl,hbb⟩,b6⟩; replace b6:Below w5.heap.size w5 w6:=(aD _ _).trans b6; have s0:=(b6.cell (p:=⟨w3.heap.size,0,none⟩) lo.out).trans o0; have s1:=(b6.cell (p:=⟨w3.heap.size,1,none⟩) lo.out).trans o1; have s2:=(b6.cell (p:=⟨wb,wo+k,none⟩) Lw5.out).trans u0; replace b6:=hid b6; replace hbb:=hid hbb))
   have hI6:=hid (hI5.out.below b6.out)
   have hN6:=hid (hN5.out.below b6.out)
   have kA6:=hid (k5.out.below b6.out)
   have n6:=hid (Nat.lt_of_lt_of_le n5.out b6.out.size)
   clear u0 o0 o1 s0 s1 hI5 hN5 k5 n5 lo
   have u0:=s2
   clear s2
   obtain⟨v0,v1,v2,v3⟩:=hI6.out.ans.cells hlt.out
   have f0:=hI6.out.ans.free (k*4)
   cases bb
   case false=>
    have hno:Hid (¬(0<=i/\i<(tn:Int))):=hid (by simpa using hbb.out)
    clear hbb v1 v2 v3
    go_wp2_with fail
    go_roundw
    case rel=>exact⟨k+1,g,D,L,_,_,hlt.out,by rw[hw64.out]; push_cast; rfl,hI6.out.miss hlt.out hx.out hno.out⟩
    case measure=>have:=hlt.out; rw[hw64.out]; simp[Go.RowKit.intOf]; omega
   have hyes:0<=i/\i<(tn:Int):=by simpa using hbb.out
   obtain⟨j,rfl⟩:∃ j:Nat,i=(j:Int):=⟨i.toNat,by omega⟩
   obtain⟨tb,rfl⟩:=cF5 hI6.out.st.mine (by omega)
   obtain⟨m,hm⟩:∃ m,L[j]? =some m:=by
    have hlen:=hI6.out.st.mine.len
    exact⟨_,List.getElem?_eq_getElem (by omega)⟩
   replace hm:=hid hm
   have hj0:(0:Int)<=(j:Int):=hyes.1
   have hjI:(j:Int)<(tn:Int):=hyes.2
   clear hyes hbb v0 v1 v2 v3 f0
   have o1:=hI6.out.st.box.cell 1
   have a0:=kA6.out.cell 0
   have a1:=kA6.out.cell 1
   have a2:=kA6.out.cell 2
   have a3:=kA6.out.cell 3
   have a4:=kA6.out.cell 4
   have a5:=kA6.out.cell 5
   have a6:=kA6.out.cell 6
   simp only[List.getElem?_toArray,List.getElem?_cons_zero,List.getElem?_cons_succ] at o1 a0 a1 a2 a3 a4 a5 a6
   obtain⟨XX,hXX⟩:∃ XX,XX=XR (fun b=>((w.heap.size<=b/\b<w1.heap.size)\/b=w3.heap.size)\/b=w7.heap.size) v:=⟨_,rfl⟩
   have HP6:=hid (hI6.out.st.below (aD _ _))
   rw[<-hXX] at HP6
   replace hXX:=hid hXX
   have HN6:=hid (hN6.out.below (aD _ _))
   have hok6:=hid hI6.out.ok
   have hRge:=hid hI6.out.xrb.2.2
   have hobr:Hid (w3.heap.size<wr.heap.size):=hid hI.out.st.box.lt
   have HnR:Hid (¬PM w3.heap.size tb tn tc' L w7.heap.size):=hid (fun f=>by
    rcases f with f | f
    ·have:=hI6.out.xrb.2.1; omega
    ·exact hI6.out.st.mine.rx _ f (.inl hI6.out.xrb.1))
   have HnA:Hid (¬PM w3.heap.size tb tn tc' L wr.heap.size):=hid (fun f=>by
    rcases f with f | f
    ·have:=hobr.out; omega
    ·have:=(hI.out.st.mine.ge f).2; omega)
   have Lw:Hid (wb<w1.heap.size):=hid (Nat.lt_of_lt_of_le hwb.out b0.out.size)
   have nr3:=hn37.out
   have nr3':=nr3.symm
   have nrA:wr.heap.size≠w7.heap.size:=by have:=hI.out.ans.lt; omega
   have nrA':=nrA.symm
   have nrW:wb≠w7.heap.size:=by have:=Lw.out; have:=hRge.out; omega
   have nrW':=nrW.symm
   go_upto_region 15 with fail
   go_region_held3 (fun w'=>w'.cell? ⟨w3.heap.size,1,none⟩=some (.slice (some ⟨tb,0,none⟩) tn tc')/\w'.cell? ⟨wb,wo+k,none⟩=some (.int .i64 (j:Int))/\w'.cell? ⟨wr.heap.size,0,none⟩=some (.int .i64 a.kind)/\w'.cell? ⟨wr.heap.size,1,none⟩=some (.string a.set)/\w'.cell? ⟨wr.heap.size,2,none⟩=some (.string a.file)/\w'.cell? ⟨wr.heap.size,3,none⟩=some (.string a.to)/\w'.cell? ⟨wr.heap.size,4,none⟩=some (.int .i64 a.pos)/\w'.cell? ⟨wr.heap.size,5,none⟩=some (.int .i64 a.num)/\w'.cell? ⟨wr.heap.size,6,none⟩=some (.slice ba bn bc)) (first | go_keep | assumption) (first | (go_at_call 20; with_reducible refine Calls.mono (sU w1.heap.size XX w3.heap.size g n D tb tn tc' L j m a ba bn bc (w6.drew) HP6.out hm.out hok6.out hao HN6.out) ?_; rintro e w9 hret; unfold uR at hret; obtain⟨e1,N,ya,yn,yc,y,ln,lc,g', D', L', rfl,bH,on,hP8,hc,hrd,hrf⟩:=hret; replace bH:Below w1.heap.size w6 w9:=(aD _ _).trans bH; replace on:Only (PM w3.heap.size tb tn tc' L) w6 w9:=(Only.of_below (aD _ _)).trans on; have o1:=hP8.box.cell 1; have kA8:=on.cells kA6.out HnA.out; have s0:=kA8.cell 0; have s1:=kA8.cell 1; have s2:=kA8.cell 2; have s3:=kA8.cell 3; have s4:=kA8.cell 4; have s5:=kA8.cell 5; have s6:=kA8.cell 6; simp only[List.getElem?_toArray,List.getElem?_cons_zero,List.getElem?_cons_succ] at o1 s0 s1 s2 s3 s4 s5 s6; have u9:=(bH.cell (p:=⟨wb,wo+k,none⟩) Lw.out).trans u0; have hans:=hI6.out.ans.only on HnR.out; obtain⟨v0,v1,v2,v3⟩:=hans.cells hlt.out; have f0:=hans.free (k*4); have f1:=hans.free (k*4+1); have f2:=hans.free (k*4+2); have f3:=hans.free (k*4+3); clear hans kA8; replace bH:=hid bH; replace on:=hid on; replace hP8:=hid hP8; replace hc:=hid hc; replace hrd:=hid hrd; replace hrf:=hid hrf))
   have hfin:=hid (hI6.out.step hlt.out hx.out hm.out hN6.out.bytes bH.out on.out (by have:=hP8.out; rw[hXX.out] at this; exact this) hc.out hrd.out (by have:=hrf.out; rw[hXX.out] at this; exact this))
   clear o1 a0 a1 a2 a3 a4 a5 a6 s0 s1 s2 s3 s4 s5 s6 v0 v1 v2 v3 f0 f1 f2 f3
   go_wp2_with fail
   go_roundw
   case rel=>exact⟨k+1,g', D', L', _,_,hlt.out,by rw[hw64.out]; push_cast; rfl,hfin.out⟩
   case measure=>have:=hlt.out; rw[hw64.out]; simp[Go.RowKit.intOf]; omega
  ·obtain rfl:k=q:=by omega
   have k1r:=hid (k1.out.below hI.bel)
   have r0:=k1r.out.cell 0
   have r1:=k1r.out.cell 1
   have z0:=k1r.out.frozen 0
   have z1:=k1r.out.frozen 1
   have o0:=hI.st.box.cell 0
   have o1:=hI.st.box.cell 1
   simp only[List.getElem?_toArray,List.getElem?_cons_zero,List.getElem?_cons_succ] at r0 r1 o0 o1
   have l1:w.heap.size+1<w1.heap.size:=k1.out.lt
   have hge:=hI.xrb.2.2
   have n1:w.heap.size+1≠w3.heap.size:=by have:=hI.st.hob; omega
   have n1':=n1.symm
   have hfin:aQ7 (.returned (.tuple #[.agg #[.slice (some ⟨g,0,none⟩) n n,.slice ta' tn tc'],.slice (some ⟨w7.heap.size,0,none⟩) k k,.int .i64 0])) (qI wr (w.heap.size+1) (.slice (some ⟨g,0,none⟩) n n) (.slice ta' tn tc')) n B tn l k (who.zip ql)/\Below w.heap.size w (qI wr (w.heap.size+1) (.slice (some ⟨g,0,none⟩) n n) (.slice ta' tn tc')):=by
    have kk:=fP wr (w.heap.size+1) (.slice (some ⟨g,0,none⟩) n n) (.slice ta' tn tc')
    have hzl:(who.zip ql).take k=who.zip ql:=List.take_of_length_le (by rw[List.length_zip,hwho.out.1,hq.out.1]; omega)
    have hrun:=hI.runs
    rw[hzl] at hrun
    exact⟨⟨g,ta', tc', w7.heap.size,D,L.map aY.e,v,ys,rfl,(hI.st.kept kk (.inl (.inl (.inl ⟨by omega,l1⟩))) n1).pool,hI.ans.only (Only.of_kept (M:=fun b=>b=w.heap.size+1) kk rfl) (by omega),hI.ok,hrun,hI.len,fun i hi=>((hI.told i hi).kept (fun b q=>by omega) kk).weaken (fun _ _ _=>trivial)⟩,(b0.out.trans (hI.bel.mono b0.out.size)).trans (kk.below (by omega))⟩
   replace hfin:=hid hfin
   replace hI:=hid hI
   replace hge:=hid hge
   replace l1:=hid l1
   clear hn37
   go_wp2_with fail
   refine bodyPost_ret (v:=.tuple #[.agg #[.slice (some ⟨g,0,none⟩) n n,.slice ta' tn tc'],.slice (some ⟨w7.heap.size,0,none⟩) k k,.int .i64 0]) (by rw[aV rfl]; go_simp) rfl ?_
   exact hfin.out
theorem aS3:∀ (M L:List Int),M.Nodup->(∀ x∈M,x∈L)->M.length<=L.length
 | [],_,_,_=>Nat.zero_le _
 | a::M,L,hn,h=>by
   have ha:=h a (by simp)
   have hn':=List.nodup_cons.1 hn
   have h1:=aS3 M (L.erase a) hn'.2 (fun x hx=>(List.mem_erase_of_ne (fun (e:x=a)=>hn'.1 (e▸hx))).2 (h x (by simp[hx])))
   rw[List.length_erase_of_mem ha] at h1
   have h2:=List.length_pos_of_mem ha
   simp only[List.length_cons]
   omega
def aR5 (D:Nat->Blk):Nat->List Int
 | 0=>[]
 | k+1=>if 0<(D k).refs then ((k:Int)+1)::aR5 D k else aR5 D k
theorem aI9 (D:Nat->Blk):∀ n,(aR5 D n).length=cO D n
 | 0=>rfl
 | n+1=>by
   have h1:=aI9 D n
   rw[dW,<-h1]
   rw[aR5]
   split<;>simp
theorem aL4 (D:Nat->Blk):∀ (n k:Nat),k<n->0<(D k).refs->((k:Int)+1)∈aR5 D n
 | 0,k,h,_=>absurd h (by omega)
 | n+1,k,h,h0=>by
   unfold aR5
   by_cases e:k=n
   ·subst e
    rw[if_pos h0]
    simp
   ·have:=aL4 D n k (by omega) h0
    split
    ·exact List.mem_cons_of_mem _ this
    ·exact this
theorem bL3 {n:Nat} {D:Nat->Blk} (hR:Right n D) {x:Int} (h:There n D x):∃ k:Nat,k<n/\x=(k:Int)+1/\0<(D k).refs:=by
 obtain⟨h1,h2,h3⟩:=h
 refine⟨(x-1).toNat,by omega,by omega,?_⟩
 have:=hR.held (x-1).toNat (by omega)
 omega
theorem aI5 {n:Nat} {D:Nat->Blk} {R:List Int} {q:Int} (hR:Right n D) (hr:bE n D R) (h:sI D R q):q<=(cO D n:Int):=by
 obtain⟨L,l1,l2,rfl⟩:=h
 have hn:L.Nodup:=l1.imp (fun h=>by omega)
 have:=aS3 L (aR5 D n) hn (fun x hx=>by
  obtain⟨k,h1,rfl,h2⟩:=bL3 hR (Clo.there hR hr ((l2 x).1 hx))
  exact aL4 D n k h1 h2)
 rw[aI9] at this
 omega
theorem cV3 {n:Nat} {D:Nat->Blk} {R:List Int} {q r:Int} (hR:Right n D) (h:sI D R q) (hrR:r∈R) (hr:Root n D 3 r) (h0:aH D 3 r 0≠[]) (h2:aH D 3 r 2≠[]) (hne:aH D 3 r 0≠aH D 3 r 2):5<=q:=by
 obtain⟨L,l1,l2,rfl⟩:=h
 have e0:aH D 3 r 0=bytesL D ((kidsL D ((kidsL D ((kidsL D r).getD 0 0)).getD 0 0)).getD 0 0):=by
  simp only[aH,pw]
 have e2:aH D 3 r 2=bytesL D ((kidsL D ((kidsL D ((kidsL D r).getD 0 0)).getD 0 0)).getD 2 0):=by
  simp only[aH,pw]
 rw[e0] at h0 hne
 rw[e2] at h2 hne
 generalize hb:(kidsL D r).getD 0 0=b at *
 generalize hc:(kidsL D b).getD 0 0=c at *
 generalize hd:(kidsL D c).getD 0 0=d at *
 generalize he:(kidsL D c).getD 2 0=e at *
 have d0:d≠0:=fun f=>by rw[f] at h0; exact h0 (by simp[bytesL])
 have f0:e≠0:=fun f=>by rw[f] at h2; exact h2 (by simp[bytesL])
 have c0:c≠0:=fun f=>by rw[f,jV] at hd; exact d0 hd.symm
 have b0:b≠0:=fun f=>by rw[f,jV] at hc; exact c0 hc.symm
 have r0:r≠0:=fun f=>by rw[f,jV] at hb; exact b0 hb.symm
 have hde:d≠e:=fun f=>hne (by rw[f])
 have step:∀ (x y:Int) (i:Nat),x≠0->There n D x->(kidsL D x).getD i 0=y->y≠0->y∈(D (x-1).toNat).kids/\There n D y/\(D (y-1).toNat).level=(D (x-1).toNat).level-1:=by
  intro x y i hx0 hx hy hy0
  unfold kidsL at hy
  rw[if_neg hx0] at hy
  have hm:y∈(D (x-1).toNat).kids:=by
   rw[List.getD_eq_getElem?_getD] at hy
   cases hg:(D (x-1).toNat).kids[i]? with
   | none=>rw[hg] at hy; exact absurd hy.symm hy0
   | some z=>rw[hg] at hy; obtain rfl:z=y:=hy; exact List.mem_of_getElem? hg
  have:=(hR.one (x-1).toNat (by have:=hx.1; have:=hx.2.1; omega)).kids y hm
  rcases this with f | ⟨f1,f2⟩
  ·exact absurd f hy0
  ·exact⟨hm,f1,f2⟩
 rcases hr with f | ⟨tr,lr⟩
 ·exact absurd f r0
 obtain⟨mb,tb,lb⟩:=step r b 0 r0 tr hb b0
 obtain⟨mc,tc,lc⟩:=step b c 0 b0 tb hc c0
 obtain⟨md,td,ld⟩:=step c d 0 c0 tc hd d0
 obtain⟨me,te,le⟩:=step c e 2 c0 tc he f0
 have cr:Clo D R r:=Clo.root hrR r0
 have cb:=cr.kid mb b0
 have cc:=cb.kid mc c0
 have cd:=cc.kid md d0
 have ce:=cc.kid me f0
 have:=aS3 [r,b,c,d,e] L (by
  simp only[List.nodup_cons,List.mem_cons,List.not_mem_nil,or_false,not_or,List.nodup_nil,and_true,not_false_eq_true]
  refine⟨⟨?_,?_,?_,?_⟩,⟨?_,?_,?_⟩,⟨?_,?_⟩,hde⟩<;>(intro f; subst f; omega)) (fun x hx=>by
  simp only[List.mem_cons,List.not_mem_nil,or_false] at hx
  rcases hx with rfl | rfl | rfl | rfl | rfl
  ·exact(l2 _).2 cr
  ·exact(l2 _).2 cb
  ·exact(l2 _).2 cc
  ·exact(l2 _).2 cd
  ·exact(l2 _).2 ce)
 simp only[List.length_cons,List.length_nil] at this
 omega
theorem wD {C D:Nat->Blk}:∀ {n:Nat},(∀ i,i<n->0<(D i).refs->0<(C i).refs)->cO D n<=cO C n
 | 0,_=>Nat.le_refl _
 | n+1,h=>by
   have h1:=wD (n:=n) (fun i hi=>h i (by omega))
   have h2:=h n (by omega)
   rw[dW,dW]
   split<;>split<;>first | omega | (rename_i f g; exact absurd (h2 f) g)
theorem wC:∀ n,cO (fun _=>Blk.zero) n=0
 | 0=>rfl
 | n+1=>by rw[dW,wC n]; rfl
theorem bT9 {n:Nat} {B D:Nat->Blk} {key:Int} {x y:aK} {a:aM} {cc:Int} (hx:bD n B key x) (hh:dY n B (aG x)) (hb:Bytes a.bytes) (hc:∀ k,k<n->(B k).refs<=cc) (hcc:cc+iN a+24<=1000000) (h:Did n B key x a cc D y) (hk:a.kind=3):
 ∃ (root size made:Int) (C:Nat->Blk),tZ x a.file root size made ((sW key B a root size).length:Int) y/\eU n B C key root (aT key (aH B 3 root)) (dE (sW key B a root size)) 64 made cc/\Right n D/\cO D n<=cO C n/\(∀ e∈lC y,aT key (aH D 3 e.root)=aT key (aH C 3 e.root))/\bD n D key y/\aT key (aH C 3 made)=dE (sW key B a root size):=by
 obtain⟨C,made,hY,hD,hF⟩:=h
 have hch:=hY.chg hx hb hc
 have hdone:=hch.done hx hh hcc hD hF
 rcases hY with⟨_,hn,ho,root,size,hok,hT,ht⟩ | ⟨f,_⟩ | ⟨f,_,_⟩
 ·have hN:=sV (key:=key) (B:=B) hb ho root size
  refine⟨root,size,made,C,ht,hT,hD,wD (fun i hi h0=>?_),hdone.2.1,hdone.1.ok,(hT.file hok hN.1 hN.2).2.1⟩
  rcases hF.same i hi with f | ⟨r1,r2,_⟩
  ·rw[f] at h0; exact absurd h0 (by simp[Blk.zero])
  ·rw[fO] at r2
   have hge:=hT.turned.right.held i hi
   by_cases e:0<(C i).refs
   ·exact e
   ·have hpos:0<(aG y).count ((i:Int)+1):=by omega
    rcases hch.there _ (List.count_pos_iff.1 hpos) with g | g
    ·omega
    ·have:=g.2.2
     have e':((i:Int)+1-1).toNat=i:=by omega
     rw[e'] at this
     omega
 ·omega
 ·rcases f with⟨f,_⟩ | ⟨f,_⟩ | ⟨f,_⟩ | ⟨f,_⟩ | ⟨f,_⟩<;>omega
def nA:ByteArray:=⟨#[97]⟩
def nF:ByteArray:=⟨#[102]⟩
def bW2:aM:=⟨1,nA,⟨#[]⟩,⟨#[]⟩,0,0,[]⟩
def yT (bs:List Int):aM:=⟨3,nA,nF,⟨#[]⟩,0,0,bs⟩
def B0:Nat->Blk:=fun _=>Blk.zero
theorem bB2:aN nA:=by
 refine⟨by decide,by decide,fun c hc=>?_⟩
 have:c=97:=by simpa [nA] using hc
 subst this
 exact .inl (by decide)
theorem cA7:aN nF:=by
 refine⟨by decide,by decide,fun c hc=>?_⟩
 have:c=102:=by simpa [nF] using hc
 subst this
 exact .inl (by decide)
theorem cF4:cO B0 110=0:=by
 unfold B0
 exact wC 110
theorem bR3 (i:Nat):aH B0 3 0 i=[]:=by
 have z:∀ j,([0,0,0,0]:List Int).getD j 0=0:=fun j=>by
  match j with
  | 0=>rfl
  | 1=>rfl
  | 2=>rfl
  | 3=>rfl
  | j+4=>simp
 simp only[aH,jV,z]
 simp[bytesL]
theorem aB7:aH B0 3 0=fun _=>[]:=funext bR3
structure Small (bs:List Int):Prop where
 bytes:Bytes bs
 le:bs.length<=256
 over:sW 1 B0 (yT bs) 0 0=bs
 one:chg (aT 1 (aH B0 3 0)) (dE bs) 64=1
abbrev x0:aK:=⟨nA,[],[]⟩
abbrev x1 (r s:Int):aK:=⟨nA,[⟨nF,r,s⟩],[]⟩
abbrev l0 (q:Int):List aP:=[⟨1,q,[]⟩,⟨2,10,[]⟩]
abbrev l1 (q:Int):List aP:=[⟨1,q,[x0]⟩,⟨2,10,[]⟩]
abbrev l2 (q r s:Int):List aP:=[⟨1,q,[x1 r s]⟩,⟨2,10,[]⟩]
theorem st1 {D:Nat->Blk} {m:List aP} {e N q:Int} (h:dU 110 B0 (l0 q) 0 ⟨1,q,[]⟩ bW2 D m e N):e=0/\D=B0/\m=l1 q:=by
 have hk:bW2.kind=1:=rfl
 cases h with
 | noadd _ _ _ h3=>
   rcases h3 with⟨_,f⟩ | ⟨_,_,x,hx,_⟩ | ⟨_,_,_,f⟩
   ·exact absurd bB2 f
   ·cases hx
   ·cases f
 | add p h1 h2 h3 h4=>
   refine⟨rfl,rfl,?_⟩
   simp[bW2]
 | uses _ h1=>rw[hk] at h1; omega
 | missing h1=>exact absurd hk h1
 | look _ _ _ _ _ _ h1=>rw[hk] at h1; omega
 | destroy _ _ _ _ _ h1=>rw[hk] at h1; omega
 | noclone _ _ _ _ _ h1=>rw[hk] at h1; omega
 | clone _ _ _ _ _ _ _ h1=>rw[hk] at h1; omega
 | nochange _ _ _ _ _ h1=>exact absurd hk h1.1
 | change _ _ _ _ _ _ _ h1=>exact absurd hk h1.1
theorem bO7 {α:Type} {x y:α} {k:Nat} (h:[x][k]? =some y):k=0/\y=x:=by
 match k with
 | 0=>simp at h; exact⟨rfl,h.symm⟩
 | k+1=>simp at h
theorem bN0 {n:Nat} {D:Nat->Blk} {key:Int} {y:aK} (h:bD n D key y):bE n D (cK [y]):=fun r hr=>by
 have:r∈aG y:=by simpa [cK] using hr
 exact h.thereX r this
theorem cF3 {D:Nat->Blk} {y:aK} {q:Int} {bs:List Int} (S:Small bs) (hok:aR 110 B0 (l1 q)) (h:Did 110 B0 1 x0 (yT bs) 2000 D y):Right 110 D/\bD 110 D 1 y/\cO D 110<=4/\∃ r,y=x1 r bs.length/\aT 1 (aH D 3 r)=dE bs:=by
 have hx:bD 110 B0 1 x0:=(hok.heldX (i:=0) (t:=⟨1,q,[x0]⟩) (x:=x0) rfl (by simp)).1
 have hh:=(hok.heldX (i:=0) (t:=⟨1,q,[x0]⟩) (x:=x0) rfl (by simp)).2.1
 obtain⟨root,size,made,C,⟨p,ht⟩,hT,hD,hu,hf,hy,hm⟩:=bT9 hx hh S.bytes hok.refs (tC (yT bs)) h rfl
 rcases ht with⟨hp,_⟩ | ⟨_,rfl,rfl,_,_,_,ey⟩
 ·exact absurd hp (by simp)
 have hT':=hT.used
 rw[S.over] at hT' ey hm
 rw[S.one,cF4] at hT'
 have ey':y=x1 made bs.length:=by rw[ey]; simp[yT]
 refine⟨hD,hy,by omega,made,ey', ?_⟩
 rw[hf ⟨nF,made,bs.length⟩ (by rw[ey']; simp[lC])]
 exact hm
theorem st2 {D:Nat->Blk} {m:List aP} {e N q:Int} {bs:List Int} (S:Small bs) (h4:4<=q) (hok:aR 110 B0 (l1 q)) (h:dU 110 B0 (l1 q) 0 ⟨1,q,[x0]⟩ (yT bs) D m e N):e=0/\cO D 110<=4/\∃ r,m=l2 q r bs.length/\aT 1 (aH D 3 r)=dE bs:=by
 have hk:(yT bs).kind=3:=rfl
 cases h with
 | noadd _ h1=>rw[hk] at h1; omega
 | add _ h1=>rw[hk] at h1; omega
 | uses _ h1=>rw[hk] at h1; omega
 | missing _ _ h1=>exact absurd ⟨x0,by simp,rfl⟩ h1
 | look _ _ _ _ _ _ h1=>rw[hk] at h1; omega
 | destroy _ _ _ _ _ h1=>rw[hk] at h1; omega
 | noclone _ _ _ _ _ h1=>rw[hk] at h1; omega
 | clone _ _ _ _ _ _ _ h1=>rw[hk] at h1; omega
 | nochange k x e1 h1 h2 h3 _ h5=>
   exfalso
   obtain⟨rfl,rfl⟩:=bO7 h1
   rcases h5 with⟨f,_⟩ | ⟨_,D,y,q', hd,hu,hq⟩
   ·have f':zO 110 B0 1 x0 (yT bs):=f
    have hle:=S.le
    obtain⟨root,size,hn,hlt,_⟩:=f'.1 rfl cA7 ⟨Int.le_refl _,by show (0:Int)+(bs.length:Int)<=256; omega⟩ (.inr (by decide))
    rcases hn with⟨f,hf,_⟩ | ⟨_,rfl,rfl⟩
    ·cases hf
    ·rw[S.over,S.one,cF4] at hlt
     omega
   ·obtain⟨hD,hy,h4', _⟩:=cF3 S hok hd
    have:=aI5 hD (bN0 hy) hu
    have hq':q<q':=hq
    omega
 | change k x D y q' h1 h2 h3 hdd h5 h6=>
   obtain⟨rfl,rfl⟩:=bO7 h1
   obtain⟨hD,hy,h4', r,rfl,hr⟩:=cF3 S hok hdd
   exact⟨rfl,h4', r,rfl,hr⟩
theorem aK5 {n:Nat} {B:Nat->Blk} {l:List aP} {xs:List (Int×aM)} {k:Nat} {a:aM} {D:Nat->Blk} {m:List aP} {ys:List jJ} (h:gN n B l (xs++[((k:Int),a)]) D m ys) (hk:k<l.length) (hlen:∀ D m ys,gN n B l xs D m ys->m.length=l.length):∃ D1 m1 ys1 t e N,ys=ys1++[⟨e,N,aH3 t a,aQ3 D1 t a⟩]/\gN n B l xs D1 m1 ys1/\m1[k]? =some t/\dU n D1 m1 k t a D m e N:=by
 generalize hz:xs++[((k:Int),a)]=zs at h
 cases h with
 | nil=>simp at hz
 | miss xs' _ _ ys' i a' h1 h2=>
   obtain⟨e1,e2⟩:=List.append_inj' hz rfl
   subst e1
   simp only[List.cons.injEq,Prod.mk.injEq,and_true] at e2
   obtain⟨rfl,rfl⟩:=e2
   have:=hlen _ _ _ h1
   exact absurd ⟨by omega,by omega⟩ h2
 | step xs' D1 m1 ys' k' a' t _ _ e N h1 h2 _ h3=>
   obtain⟨e1,e2⟩:=List.append_inj' hz rfl
   subst e1
   simp only[List.cons.injEq,Prod.mk.injEq,and_true] at e2
   obtain⟨e3,rfl⟩:=e2
   obtain rfl:k=k':=by omega
   exact⟨D1,m1,ys', t,e,N,rfl,h1,h2,h3⟩
theorem aZ2 {n:Nat} {B:Nat->Blk} {l:List aP} {D:Nat->Blk} {m:List aP} {ys:List jJ} (h:gN n B l [] D m ys):D=B/\m=l/\ys=[]:=by
 generalize hz:([]:List (Int×aM))=zs at h
 cases h with
 | nil=>exact⟨rfl,rfl,rfl⟩
 | miss=>simp at hz
 | step=>simp at hz
theorem bG1 {n:Nat} {l:List aP} (hn:n<=400) (hl:l.length<=3) (ht:∀ t∈l,(0<=t.key/\t.key<=1000)/\(0<=t.quota/\t.quota<=400)/\t.sets=[]) (hq:pG l+90<=n):aR n (fun _=>Blk.zero) l:=by
 have hr:∀ t∈l,aL t=[]:=fun t h=>by unfold aL cK; rw[(ht t h).2.2]; rfl
 have hR:gT l=[]:=by
  unfold gT
  rw[List.flatMap_eq_nil_iff]
  exact hr
 refine⟨bF3 n hn,hl,fun t h=>⟨(ht t h).1,(ht t h).2.1,by rw[(ht t h).2.2]; simp,by rw[(ht t h).2.2]; simp,by rw[(ht t h).2.2]; simp⟩,fun _=>hq,fun t h=>⟨0,⟨[],List.Pairwise.nil,fun x=>⟨fun hx=>by simp at hx,fun hx=>by rw[hr t h] at hx; exact(Clo.nil hx).elim⟩,rfl⟩,(ht t h).2.1.1⟩,?_,fun k hk=>by rw[bO4,hR]; rfl⟩
 refine List.pairwise_of_forall_mem_list (fun t h u _ x hx=>?_)
 rw[hr t h] at hx
 exact(Clo.nil hx).elim
theorem cM4 {q:Int} (h0:0<=q) (h1:q<=10):aR 110 B0 (l0 q):=bG1 (by omega) (by simp) (fun t ht=>by
 simp only[List.mem_cons,List.not_mem_nil,or_false] at ht
 rcases ht with rfl | rfl
 ·exact⟨⟨by show (0:Int)<=1; decide,by show (1:Int)<=1000; decide⟩,⟨h0,by show q<=400; omega⟩,rfl⟩
 ·exact⟨⟨by decide,by decide⟩,⟨by decide,by decide⟩,rfl⟩) (by simp[pG]; omega)
theorem cM3 {q:Int} (hok0:aR 110 B0 (l0 q)):aR 110 B0 (l1 q):=by
 refine(dU.is (n:=110) (B:=B0) (l:=l0 q) (i:=0) (t:=⟨1,q,[]⟩) (a:=bW2) (D:=B0) (l':=l1 q) (e1:=0) (N:=0) hok0 rfl (fun x hx=>by cases hx) ?_).ok
 have:=dU.add (n:=110) (B:=B0) (l:=l0 q) (i:=0) (t:=⟨1,q,[]⟩) (a:=bW2) 0 rfl bB2 (by show 0<3; decide) ⟨Nat.zero_le _,fun x hx=>(by cases hx),fun x hx=>(by cases hx),⟨fun f=>(by cases f),fun⟨x,hx,_⟩=>(by cases hx)⟩⟩
 exact this
theorem cT0 {q:Int} (D:Nat->Blk) (m:List aP) (ys:List jJ) (h:gN 110 B0 (l0 q) [((0:Nat),bW2)] D m ys):D=B0/\m=l1 q/\∃ N,ys=[⟨0,N,[],[]⟩]:=by
 obtain⟨D1,m1,ys1,t,e,N,rfl,h1,h2,h3⟩:=aK5 (xs:=[]) (k:=0) h (by simp) (fun D m ys h=>by rw[(aZ2 h).2.1])
 obtain⟨rfl,rfl,rfl⟩:=aZ2 h1
 obtain rfl:t=⟨1,q,[]⟩:=by simpa using h2.symm
 obtain⟨rfl,rfl,rfl⟩:=st1 h3
 exact⟨rfl,rfl,N,rfl⟩
theorem cT4 {q:Int} {bs:List Int} (S:Small bs) (h4:4<=q) (hok0:aR 110 B0 (l0 q)) (D:Nat->Blk) (m:List aP) (ys:List jJ) (h:gN 110 B0 (l0 q) [((0:Nat),bW2),((0:Nat),yT bs)] D m ys):aR 110 D m/\cO D 110<=4/\∃ r N1 N2,m=l2 q r bs.length/\aT 1 (aH D 3 r)=dE bs/\ys=[⟨0,N1,[],[]⟩,⟨0,N2,[],[]⟩]:=by
 obtain⟨D1,m1,ys1,t,e,N,rfl,h1,h2,h3⟩:=aK5 (xs:=[((0:Nat),bW2)]) (k:=0) h (by simp) (fun D m ys h=>by rw[(cT0 D m ys h).2.1]; rfl)
 obtain⟨rfl,rfl,N1,rfl⟩:=cT0 _ _ _ h1
 obtain rfl:t=⟨1,q,[x0]⟩:=by simpa using h2.symm
 have hi:=h3.is (cM3 hok0) rfl S.bytes
 obtain⟨rfl,h5,r,rfl,hr⟩:=st2 S h4 (cM3 hok0) h3
 exact⟨hi.ok,h5,r,N1,N,rfl,hr,rfl⟩
theorem Tryz.infoTn:(Tryz.prog.info? 64).map (fun i=>(i.zero,i.size,i.bytes))=some (some (.agg #[.int .i64 0,.int .i64 0,.slice none 0 0]),3,40):=by kernel_rfl
theorem Only.snaps {M:Nat->Prop} {a b:World} (h:Only M a b) {Q:Nat->Prop} {x:Option Addr} {n:Nat} {l:List bQ} (he:dV Q a x n l) (hm:∀ k,Q k->¬M k):dV Q b x n l:=by
 refine⟨he.1,fun hn=>?_⟩
 obtain⟨g,off,rfl,hlt,hq,hc⟩:=he.2 hn
 refine⟨g,off,rfl,Nat.lt_of_lt_of_le hlt h.size,hq,fun i hi=>?_⟩
 obtain⟨fa,fn,fc,hs⟩:=hc i hi
 exact⟨fa,fn,fc,(h.cell (p:=⟨g,off+i*2,none⟩) hlt (hm g hq)).trans hs.c0,(h.cell (p:=⟨g,off+i*2+1,none⟩) hlt (hm g hq)).trans hs.c1,h.ents hs.files hm,hs.small,hs.caps⟩
theorem Only.set {M:Nat->Prop} {a b:World} (h:Only M a b) {Q:Nat->Prop} {v:cB} {x:aK} (he:dN Q a v x) (hm:∀ k,Q k->¬M k):dN Q b v x:=⟨he.name,he.small,h.ents he.files hm,h.snaps he.snaps hm,he.caps⟩
theorem Only.sets {M:Nat->Prop} {a b:World} (h:Only M a b) {Q:Nat->Prop} {x:Option Addr} {n:Nat} {l:List aK} (he:fQ Q a x n l) (hm:∀ k,Q k->¬M k):fQ Q b x n l:=by
 refine⟨he.1,fun hn=>?_⟩
 obtain⟨g,off,rfl,hlt,hq,hc⟩:=he.2 hn
 refine⟨g,off,rfl,Nat.lt_of_lt_of_le hlt h.size,hq,fun i hi=>?_⟩
 obtain⟨v,hs⟩:=hc i hi
 exact⟨v,(h.cell (p:=⟨g,off+i*3,none⟩) hlt (hm g hq)).trans hs.c0,(h.cell (p:=⟨g,off+i*3+1,none⟩) hlt (hm g hq)).trans hs.c1,(h.cell (p:=⟨g,off+i*3+2,none⟩) hlt (hm g hq)).trans hs.c2,h.set hs.ok hm⟩
theorem Only.tens {M:Nat->Prop} {a b:World} (h:Only M a b) {Q:Nat->Prop} {x:Option Addr} {n:Nat} {l:List aP} (he:iA Q a x n l) (hm:∀ k,Q k->¬M k):iA Q b x n l:=by
 refine⟨he.1,fun hn=>?_⟩
 obtain⟨g,off,rfl,hlt,hq,hc⟩:=he.2 hn
 refine⟨g,off,rfl,Nat.lt_of_lt_of_le hlt h.size,hq,fun i hi=>?_⟩
 obtain⟨sa,sn,sc,hs⟩:=hc i hi
 exact⟨sa,sn,sc,(h.cell (p:=⟨g,off+i*3,none⟩) hlt (hm g hq)).trans hs.c0,(h.cell (p:=⟨g,off+i*3+1,none⟩) hlt (hm g hq)).trans hs.c1,(h.cell (p:=⟨g,off+i*3+2,none⟩) hlt (hm g hq)).trans hs.c2,h.sets hs.ok.sets hm,hs.ok.kb,hs.ok.qb,hs.ok.caps⟩
theorem aN0 (g:Nat) (w:World):Kept g w w.drew:=⟨rfl,rfl,rfl,rfl,fun _ _=>rfl⟩
def cS0 (base:Nat) (e:Ending) (w:World) (n:Nat) (l:List aP):Prop:=
 ∃ (g c:Nat) (ta:Option Addr) (tn tc:Nat),e=.returned (.tuple #[.agg #[.slice (some ⟨g,0,none⟩) n c,.slice ta tn tc],.int .i64 0])/\base<=g/\g<w.heap.size/\dO (fun b=>base<=b) w g 0 n (fun _=>Blk.zero)/\iA (fun b=>base<=b) w ta tn l/\tn<=tc
theorem cM6 (w:World):(Instr.makeSlice 25 (.int .i64 2) (.int .i64 2)).run Tryz.prog w=.ok (.slice (some ⟨w.heap.size,0,none⟩) 2 2) (w.alloc (.cells #[.int .i64 0,.int .i64 0,.slice none 0 0,.int .i64 0,.int .i64 0,.slice none 0 0] 64)):=by
 obtain⟨i0,hi,hz0,hz1,hz2⟩:=info_parts Tryz.infoTn
 rw[run_makeSlice (P:=Tryz.prog) w 25 64 i0 _ Tryz.underlying25 hi hz0 .i64 .i64 2 2 (by omega) (by omega) (by rw[hz1]; decide) (by rw[hz2]; decide) (by decide),hz1]
 have e:madeCells (Value.agg #[.int .i64 0,.int .i64 0,.slice none 0 0]).cells (Int.toNat 2*3)=#[.int .i64 0,.int .i64 0,.slice none 0 0,.int .i64 0,.int .i64 0,.slice none 0 0]:=by
  first
  | rfl
  | simp[madeCells,Value.cells,Array.range_succ,Array.range_zero']
  | kernel_rfl
 rw[e]
 rfl
theorem bY9 (n:Nat) (k0 k1 q0 q1:Int) (kb qb:Nat) (w:World) (hn:n<=400) (hk:aC w kb #[.int .i64 k0,.int .i64 k1] 3) (hq:aC w qb #[.int .i64 q0,.int .i64 q1] 3) (hb:(-9223372036854775808<=k0/\k0<=9223372036854775807)/\(-9223372036854775808<=k1/\k1<=9223372036854775807)/\(-9223372036854775808<=q0/\q0<=9223372036854775807)/\(-9223372036854775808<=q1/\q1<=9223372036854775807)) (hok:aR n (fun _=>Blk.zero) [⟨k0,q0,[]⟩,⟨k1,q1,[]⟩]):
 Calls Tryz.prog 30 #[.int .i64 n,.slice (some ⟨kb,0,none⟩) 2 2,.slice (some ⟨qb,0,none⟩) 2 2] w fun e w'=>cS0 w.heap.size e w' n [⟨k0,q0,[]⟩,⟨k1,q1,[]⟩]/\Below w.heap.size w w':=by
 have hmk:=cM6
 have b0:=hid (aA w (.cells #[.slice none 0 0,.slice none 0 0] 27))
 have kB:Hid (aC _ w.heap.size #[.slice none 0 0,.slice none 0 0] 27):=hid (aB w _ _)
 have hkl:=hk.lt
 have hql:=hq.lt
 replace hk:=hid (hk.below b0.out)
 replace hq:=hid (hq.below b0.out)
 replace hok:=hid hok
 have hszw:Hid ((w.alloc (.cells #[.slice none 0 0,.slice none 0 0] 27)).heap.size=w.heap.size+1):=hid (by simp)
 go_enter Tryz.func30,Tryz.ntmps30
 go_upto_region 1 with fail
 generalize w.alloc (.cells #[.slice none 0 0,.slice none 0 0] 27)=w0 at *
 go_wp2_with fail
 refine(aS5 n w0 hn).mono ?_
 rintro e w1 ⟨⟨g,c,rfl,hg,hgl,hBl⟩,b1⟩
 replace hk:=hid (hk.out.below b1)
 replace hq:=hid (hq.out.below b1)
 replace kB:=hid (kB.out.below b1)
 replace b0:=hid (Below.tr b0.out b1)
 clear b1
 have bS:=hid (aA w1 (.cells #[.slice (some ⟨g,0,none⟩) n c] 24))
 have kS:Hid (aC _ w1.heap.size #[.slice (some ⟨g,0,none⟩) n c] 24):=hid (aB w1 _ _)
 replace hBl:=hid hBl
 go_wp2_with fail
 go_cut [10] from 28 (fun v10 wc=>∃ pb tb,v10=.pointer (some ⟨pb,0,none⟩)/\aC wc pb #[.slice (some ⟨g,0,none⟩) n c,.slice (some ⟨tb,0,none⟩) 2 2] 27/\aC wc tb #[.int .i64 0,.int .i64 0,.slice none 0 0,.int .i64 0,.int .i64 0,.slice none 0 0] 64/\Below w1.heap.size w1 wc/\pb≠tb/\w1.heap.size<=pb/\w1.heap.size<=tb)
 case first=>
  go_region
  all_goals (go_wp2_with fail; go_meet)
  ·exact⟨w1.heap.size+1+1,w1.heap.size+1,rfl,(eY w1 _ _ _ _).below (aD _ _),((aF w1 _ _ _).below (aA _ _)).below (aD _ _),(((aA w1 _).alloc (by simp) _).alloc (by simp; omega) _).drew,by omega,by omega,by omega⟩
  ·exact⟨w1.heap.size+1,w1.heap.size+1+1,rfl,((aF w1 _ _ _).below (aA _ _)).below (aD _ _),(eY w1 _ _ _ _).below (aD _ _),(((aA w1 _).alloc (by simp) _).alloc (by simp; omega) _).drew,by omega,by omega,by omega⟩
 case rest=>
  obtain⟨pb,tb,rfl,hp,ht,bc,hne,hpb,htb⟩:=hcut
  clear kS bS
  have hs0:=b0.out.size
  have hkd:kb≠tb:=by omega
  have hqd:qb≠tb:=by omega
  have hpl:=hp.lt
  have d0:=hp.cell 0
  have d1:=hp.cell 1
  simp at d0 d1
  replace hp:=hid hp
  replace ht:=hid ht
  go_wp2_with fail
  clear d0 d1
  go_loopw [36] (fun v wr=>∃ j:Nat,v=.int .i64 j/\Kept tb wc wr/\((j=0/\aC wr tb #[.int .i64 0,.int .i64 0,.slice none 0 0,.int .i64 0,.int .i64 0,.slice none 0 0] 64)\/(j=1/\aC wr tb #[.int .i64 k0,.int .i64 q0,.slice none 0 0,.int .i64 0,.int .i64 0,.slice none 0 0] 64)\/(j=2/\aC wr tb #[.int .i64 k0,.int .i64 q0,.slice none 0 0,.int .i64 k1,.int .i64 q1,.slice none 0 0] 64))) (fun v _=>2-(Go.RowKit.intOf v).toNat)
  case atStart=>exact⟨0,rfl,Kept.refl _ _,.inl ⟨rfl,ht.out⟩⟩
  case round=>
   clear ht
   obtain⟨j,rfl,hkp,hst⟩:=hrel
   have hpw:=(Only.of_kept (M:=fun k=>k=tb) hkp rfl).cells hp.out hne
   have p0:=hpw.cell 0
   have p1:=hpw.cell 1
   simp at p0 p1
   have hkw:=(Only.of_kept (M:=fun k=>k=tb) hkp rfl).cells (hk.out.below bc) hkd
   have hqw:=(Only.of_kept (M:=fun k=>k=tb) hkp rfl).cells (hq.out.below bc) hqd
   replace hpw:=hid hpw
   rcases hst with⟨rfl,ht⟩ | ⟨rfl,ht⟩ | ⟨rfl,ht⟩
   ·have y0:=ht.cell 0
    have y1:=ht.cell 1
    have y2:=ht.cell 2
    have z0:=ht.frozen 0
    have z1:=ht.frozen 1
    have z2:=ht.frozen 2
    have x0:=hkw.cell 0
    have x1:=hqw.cell 0
    simp at y0 y1 y2 x0 x1
    have ht2:=((ht.set 0 (.int .i64 k0)).set 1 (.int .i64 q0)).set 2 (.slice none 0 0)
    simp only[List.setIfInBounds_toArray,List.set_cons_succ,List.set_cons_zero] at ht2
    replace ht2:=hid ht2
    have hk2:=hid (hkp.trans (Kept.setCell (g:=tb) (Kept.setCell (g:=tb) (Kept.setCell (g:=tb) (Kept.refl _ wr) (p:=⟨tb,0,none⟩) rfl (.int .i64 k0)) (p:=⟨tb,1,none⟩) rfl (.int .i64 q0)) (p:=⟨tb,2,none⟩) rfl (.slice none 0 0)))
    clear ht
    go_wp2_with fail
    go_region
    all_goals (go_wp2_with fail; go_roundw)
    all_goals first
     | exact⟨1,by go_num,hk2.out.trans (aN0 _ _),.inr (.inl ⟨rfl,ht2.out.below (aD _ _)⟩)⟩
     | (simp[Go.RowKit.intOf])
   ·have y0:=ht.cell 3
    have y1:=ht.cell 4
    have y2:=ht.cell 5
    have z0:=ht.frozen 3
    have z1:=ht.frozen 4
    have z2:=ht.frozen 5
    have x0:=hkw.cell 1
    have x1:=hqw.cell 1
    simp at y0 y1 y2 x0 x1
    have ht2:=((ht.set 3 (.int .i64 k1)).set 4 (.int .i64 q1)).set 5 (.slice none 0 0)
    simp only[List.setIfInBounds_toArray,List.set_cons_succ,List.set_cons_zero] at ht2
    replace ht2:=hid ht2
    have hk2:=hid (hkp.trans (Kept.setCell (g:=tb) (Kept.setCell (g:=tb) (Kept.setCell (g:=tb) (Kept.refl _ wr) (p:=⟨tb,3,none⟩) rfl (.int .i64 k1)) (p:=⟨tb,4,none⟩) rfl (.int .i64 q1)) (p:=⟨tb,5,none⟩) rfl (.slice none 0 0)))
    clear ht
    go_wp2_with fail
    go_region
    all_goals (go_wp2_with fail; go_roundw)
    all_goals first
     | exact⟨2,by go_num,hk2.out.trans (aN0 _ _),.inr (.inr (⟨rfl,ht2.out.below (aD _ _)⟩))⟩
     | (simp[Go.RowKit.intOf])
   ·replace hkw:=hid hkw
    replace hqw:=hid hqw
    have hgt:g≠tb:=by omega
    have hw0:Hid (w.heap.size<w0.heap.size):=hid (by have:=hszw.out; omega)
    have hBw:=dO.kept (g:=tb) ((dO.weaken hBl.out (R:=fun b=>w0.heap.size<=b/\b<w1.heap.size) (fun b hb q=>⟨q,hb⟩)).below bc) hgt (fun b hb e=>by omega) hkp
    have hSt:aO wr (some ⟨g,0,none⟩) n (fun _=>Blk.zero):=fun _=>⟨g,0,rfl,by rw[hkp.size]; have:=bc.size; omega,dO.weaken hBw (fun _ _ _=>trivial)⟩
    have hTn:iA (fun b=>w1.heap.size<=b) wr (some ⟨tb,0,none⟩) 2 [⟨k0,q0,[]⟩,⟨k1,q1,[]⟩]:=⟨rfl,fun _=>⟨tb,0,rfl,ht.lt,htb,fun i hi=>by
     rcases(by omega:i=0\/i=1) with rfl | rfl
     ·exact⟨none,0,0,ht.cell 0,ht.cell 1,ht.cell 2,sO _ _ _,hb.1,hb.2.2.1,Nat.le_refl _⟩
     ·exact⟨none,0,0,ht.cell 3,ht.cell 4,ht.cell 5,sO _ _ _,hb.2.1,hb.2.2.2,Nat.le_refl _⟩⟩⟩
    have bT:=hid (b0.out.trans ((bc.trans (hkp.below htb)).mono hs0))
    have hP:Hid (fU (fun _=>True) wr (some ⟨g,0,none⟩) n (fun _=>Blk.zero) (some ⟨tb,0,none⟩) 2 [⟨k0,q0,[]⟩,⟨k1,q1,[]⟩]):=hid ⟨hSt,hTn.weaken (fun _ _ _=>trivial)⟩
    have hBw':=hid hBw
    have hTn':=hid hTn
    clear ht hSt hTn hBw
    go_wp2_with fail
    refine(jN (fun _=>True) (some ⟨g,0,none⟩) n c (fun _=>Blk.zero) (some ⟨tb,0,none⟩) 2 2 [⟨k0,q0,[]⟩,⟨k1,q1,[]⟩] wr hP.out).mono ?_
    rintro e w4 ⟨⟨e4,rfl,he4⟩,b4⟩
    obtain rfl:e4=0:=he4.2 hok.out
    have hp4:=hpw.out.below b4
    have kB4:=((Only.of_kept (M:=fun k=>k=tb) hkp rfl).cells (kB.out.below bc) (by have:=kB.out.lt; omega)).below b4
    have r0:=hp4.cell 0
    have r1:=hp4.cell 1
    have s0:=kB4.cell 0
    have s1:=kB4.cell 1
    have s2:=kB4.frozen 0
    have s3:=kB4.frozen 1
    simp at r0 r1 s0 s1
    have kf:=fP w4 w.heap.size (.slice (some ⟨g,0,none⟩) n c) (.slice (some ⟨tb,0,none⟩) 2 2)
    have bF:=hid ((Below.tr bT.out b4).trans (kf.below (Nat.le_refl _)))
    have hBf:=hid (dO.kept (g:=w.heap.size) (hBw'.out.below b4) (by have:=hw0.out; omega) (fun b hb e=>by have:=hw0.out; omega) kf)
    have hTf:=hid ((Only.of_kept (M:=fun k=>k=w.heap.size) kf rfl).tens (hTn'.out.below b4) (fun b hb e=>by have:=hw0.out; omega))
    have hgF:Hid (g<(qI w4 w.heap.size (.slice (some ⟨g,0,none⟩) n c) (.slice (some ⟨tb,0,none⟩) 2 2)).heap.size):=hid (by rw[kf.size]; have:=b4.size; have:=bc.size; rw[hkp.size] at *; omega)
    have cF:=hid (yN (.slice (some ⟨g,0,none⟩) n c) (.slice (some ⟨tb,0,none⟩) 2 2) kB4)
    clear he4 hp4 kB4 kf b4 p0 p1
    unfold qI at bF hBf hTf hgF cF
    go_wp2_with fail
    have c0:=cF.out.cell 0
    have c1:=cF.out.cell 1
    simp only[List.getElem?_toArray,List.getElem?_cons_zero,List.getElem?_cons_succ] at c0 c1
    refine bodyPost_ret (v:=.tuple #[.agg #[.slice (some ⟨g,0,none⟩) n c,.slice (some ⟨tb,0,none⟩) 2 2],.int .i64 0]) (by rw[results_cell_tmp rfl]; go_simp) rfl ⟨⟨g,c,_,2,2,rfl,by have:=hw0.out; omega,hgF.out,dO.weaken hBf.out (fun b _ hb=>by have:=hw0.out; omega),hTf.out.weaken (fun b _ hb=>by have:=hw0.out; omega),Nat.le_refl _⟩,bF.out⟩
def cG7 (q:Int) (e:Ending) (w:World):Prop:=∃ (a:Option Addr) (c:Nat) (ta:Option Addr) (tc:Nat),e=.returned (.tuple #[.agg #[.slice a 110 c,.slice ta 2 tc],.bool true])/\fU (fun _=>True) w a 110 B0 ta 2 (l0 q)
theorem bL2 (q:Int) (hq0:0<=q) (hq1:q<=10) (w:World):Calls Tryz.prog 17 #[.int .i64 q] w fun e w'=>cG7 q e w'/\Below w.heap.size w w':=by
 have h0:=aB w #[.slice none 0 0,.slice none 0 0] 27
 have h1:=aB (w.alloc (.cells #[.slice none 0 0,.slice none 0 0] 27)) #[.int .i64 1,.int .i64 2] 3
 have h2:=aB ((w.alloc (.cells #[.slice none 0 0,.slice none 0 0] 27)).alloc (.cells #[.int .i64 1,.int .i64 2] 3)) #[.int .i64 q,.int .i64 10] 3
 simp only[szB] at h1 h2
 have b0:=hid (Below.tr (Below.tr (aA w (.cells #[.slice none 0 0,.slice none 0 0] 27)) (aA _ (.cells #[.int .i64 1,.int .i64 2] 3))) (aA _ (.cells #[.int .i64 q,.int .i64 10] 3)))
 replace h0:=hid ((h0.below (aA _ (.cells #[.int .i64 1,.int .i64 2] 3))).below (aA _ (.cells #[.int .i64 q,.int .i64 10] 3)))
 replace h1:=hid (h1.below (aA _ (.cells #[.int .i64 q,.int .i64 10] 3)))
 replace h2:=hid h2
 go_enter Tryz.func17,Tryz.ntmps17
 go_wp2_with fail
 generalize ((w.alloc (.cells #[.slice none 0 0,.slice none 0 0] 27)).alloc (.cells #[.int .i64 1,.int .i64 2] 3)).alloc (.cells #[.int .i64 q,.int .i64 10] 3)=w0 at *
 refine(bY9 110 1 2 q 10 (w.heap.size+1) (w.heap.size+1+1) w0 (by omega) h1.out h2.out (by omega) (cM4 hq0 hq1)).mono ?_
 rintro e w1 ⟨⟨g,c,ta,tn,tc,rfl,hg,hgl,hBk,hTs,htc⟩,b1⟩
 obtain rfl:tn=2:=hTs.1.symm
 have bA:=hid (aA w1 (.cells #[.slice (some ⟨g,0,none⟩) 110 c,.slice ta 2 tc] 27))
 have kA:Hid (aC _ w1.heap.size #[.slice (some ⟨g,0,none⟩) 110 c,.slice ta 2 tc] 27):=hid (aB w1 _ _)
 have hlt0:=h0.out.lt
 have hg1:=hid (Nat.lt_of_lt_of_le hgl bA.out.size)
 replace hBk:=hid (hBk.below bA.out)
 replace hTs:=hid (hTs.below bA.out)
 have hsz1:=b1.size
 have hgw:Hid (w0.heap.size<=g):=hid hg
 replace b0:=hid (Below.tr (Below.tr b0.out b1) bA.out)
 replace h0:=hid ((h0.out.below b1).below bA.out)
 clear h1 h2
 have hne:w.heap.size≠w1.heap.size:=by omega
 have hn0:=hid hlt0
 clear b1 hsz1 hlt0 hg hgl
 go_upto_region 2 with fail
 generalize w1.alloc (.cells #[.slice (some ⟨g,0,none⟩) 110 c,.slice ta 2 tc] 27)=w2 at *
 have p0:=kA.out.cell 0
 have p1:=kA.out.cell 1
 have r0:=h0.out.cell 0
 have r1:=h0.out.cell 1
 have z0:=h0.out.frozen 0
 have z1:=h0.out.frozen 1
 simp only[List.getElem?_toArray,List.getElem?_cons_zero,List.getElem?_cons_succ] at p0 p1 r0 r1
 have hne':=hne.symm
 have hfin:Hid (cG7 q (.returned (.tuple #[.agg #[.slice (some ⟨g,0,none⟩) 110 c,.slice ta 2 tc],.bool true])) (qI w2 w.heap.size (.slice (some ⟨g,0,none⟩) 110 c) (.slice ta 2 tc)).drew/\Below w.heap.size w (qI w2 w.heap.size (.slice (some ⟨g,0,none⟩) 110 c) (.slice ta 2 tc)).drew):=by
  refine hid ⟨⟨_,c,ta,tc,rfl,?_⟩,?_⟩
  ·have kk:=fP w2 w.heap.size (.slice (some ⟨g,0,none⟩) 110 c) (.slice ta 2 tc)
   have on:=Only.of_kept (M:=fun b=>b=w.heap.size) kk rfl
   have hn0':=hn0.out
   have hgw':=hgw.out
   refine fU.below (w:=qI w2 w.heap.size (.slice (some ⟨g,0,none⟩) 110 c) (.slice ta 2 tc)) ⟨fun _=>⟨g,0,rfl,Nat.lt_of_lt_of_le hg1.out on.size,(on.blocks hBk.out (fun e=>by omega) hg1.out (fun b hb e=>by omega)).weaken (fun _ _ _=>trivial)⟩,(on.tens hTs.out (fun b hb e=>by omega)).weaken (fun _ _ _=>trivial)⟩ (aD _ _)
  ·exact(b0.out.trans ((fP _ _ _ _).below (Nat.le_refl _))).trans (aD _ _)
 go_region
 go_wp2_with fail
 refine bodyPost_ret (v:=.tuple #[.agg #[.slice (some ⟨g,0,none⟩) 110 c,.slice ta 2 tc],.bool true]) (by rw[results_cell_tmp rfl]; go_simp) rfl ?_
 exact hfin.out
theorem okA (k p u:Int) (f:ByteArray) {bs:List Int} (h1:f.size<=1) (h2:0<=k/\k<=100) (h3:0<=p/\p<=100) (h4:0<=u/\u<=100) (h5:nA.size<=1):aM.ok ⟨k,nA,f,⟨#[]⟩,p,u,bs⟩:=by
 have hm:(1:Nat)<=maxLen:=by unfold maxLen; omega
 exact⟨⟨Nat.le_trans h5 hm,Nat.le_trans h1 hm,Nat.zero_le _⟩,by show _<=k/\k<=_; omega,by show _<=p/\p<=_; omega,by show _<=u/\u<=_; omega⟩
end Go.Proofs.YtjafgnohlkkopaaGreatDoor
