import Derived.Test.YtjafgnohlkkopaaGreatDoorPart23
import Derived.Test.YtjafgnohlkkopaaGreatDoorPart14
import Derived.Test.YtjafgnohlkkopaaGreatDoorPart25
import Derived.Lib.SliceRun
import Derived.Laws.Externs
import Derived.Maps.AppendAt
import Derived.Test.YtjafgnohlkkopaaGreatDoorPart22
import Derived.Laws.EntriesVeiled
import Derived.Test.YtjafgnohlkkopaaGreatDoorPart10
import Derived.Test.YtjafgnohlkkopaaGreatDoorPart09
set_option linter.unusedVariables false
set_option maxHeartbeats 8000000
set_option maxRecDepth 100000
namespace Go.Proofs.YtjafgnohlkkopaaGreatDoor
open Go.RowKit
structure iV where
 v:cB
 x:aK
def iV.cells (m:iV):List Value:=[.string m.v.name,.slice m.v.fa m.v.fn m.v.fc,.slice m.v.sa m.v.sn m.v.sc]
theorem iV.cells_len (m:iV):m.cells.length=3:=rfl
theorem iV.cells_one (m:iV):∀ v∈m.cells,v.oneCell'=true:=by
 intro v hv
 simp only[iV.cells,List.mem_cons,List.not_mem_nil,or_false] at hv
 rcases hv with rfl | rfl | rfl<;>rfl
def setCells (l:List iV):List Value:=l.flatMap iV.cells
theorem fT (l:List iV):(setCells l).length=l.length*3:=rU iV.cells_len l
theorem setCells_one (l:List iV):∀ v∈setCells l,v.oneCell'=true:=fun v hv=>by
 obtain⟨m,_,h⟩:=List.mem_flatMap.1 hv
 exact m.cells_one v h
theorem fP.rows {Q:Nat->Prop}{w:World}{a:Option Addr}{n:Nat}{l:List aK}(h:fP Q w a n l):∃ ms:List iV,ms.map (·.x)=l/\(∀ m∈ms,dK Q w m.v m.x)/\(0<n->∃ b off,a=some ⟨b,off,none⟩/\b<w.heap.size/\∀ j u,(setCells ms)[j]? =some u->w.cell? ⟨b,off+j,none⟩=some u):=by
 rcases Nat.eq_zero_or_pos n with h0 | h0
 ·subst h0
  have:=List.eq_nil_of_length_eq_zero h.1
  subst this
  exact⟨[],rfl,by simp,fun h=>absurd h (by omega)⟩
 ·obtain⟨b,off,rfl,hlt,hq,hc⟩:=h.2 h0
  have hl:=h.1
  obtain⟨f,hf⟩:∃ f:Nat->cB,∀ i,i<n->aI0 Q w b (off+i*3) (l.getD i aK.zero) (f i):=
   ⟨fun i=>if hi:i<n then (hc i hi).choose else ⟨ByteArray.empty,none,0,0,none,0,0⟩,fun i hi=>by simp only[hi,dif_pos]; exact(hc i hi).choose_spec⟩
  refine⟨(List.range n).map (fun i=>⟨f i,l.getD i aK.zero⟩),?_,?_,fun _=>⟨b,off,rfl,hlt,?_⟩⟩
  ·apply List.ext_getElem
   ·simp[hl]
   ·intro i h1 h2
    simp[List.getD,h2]
  ·intro m hm
   obtain⟨i,hi,rfl⟩:=List.mem_map.1 hm
   exact(hf i (List.mem_range.1 hi)).ok
  ·intro j u hj
   have hjl:j<n*3:=by
    have:=fT ((List.range n).map (fun i=>(⟨f i,l.getD i aK.zero⟩:iV)))
    rw[List.length_map,List.length_range] at this
    rcases Nat.lt_or_ge j (setCells ((List.range n).map (fun i=>(⟨f i,l.getD i aK.zero⟩:iV)))).length with h | h
    ·omega
    ·rw[List.getElem?_eq_none h] at hj; cases hj
   have hi:j / 3<n:=by omega
   have hE:=hf (j / 3) hi
   have hg:=flat_get iV.cells_len ((List.range n).map (fun i=>(⟨f i,l.getD i aK.zero⟩:iV))) (j / 3) (j%3) (by simpa using hi) (Nat.mod_lt _ (by omega))
   rw[show j / 3*3+j%3=j by omega,List.getElem_map,List.getElem_range] at hg
   unfold setCells at hj
   rw[hg] at hj
   have h3:j%3=0\/j%3=1\/j%3=2:=by omega
   rcases h3 with h3 | h3 | h3
   ·rw[h3] at hj
    rw[show off+j=off+j / 3*3 by omega,hE.c0]
    exact hj
   ·rw[h3] at hj
    rw[show off+j=off+j / 3*3+1 by omega,hE.c1]
    exact hj
   ·rw[h3] at hj
    rw[show off+j=off+j / 3*3+2 by omega,hE.c2]
    exact hj
theorem aZ4 {w:World}{Q:Nat->Prop}{base:Nat}{e:TypeId}{sa:Option Addr}{sn sc:Nat}{l:List iV}(hl:∀ m∈l,dK Q w m.v m.x)(h:w.ownsRow base e 3 (.slice sa sn sc) sn (setCells l)):fP (fun b=>Q b\/(base<=b/\(Value.slice sa sn sc).ownBlock=some b)) w sa sn (l.map (·.x)):=by
 have hln:l.length=sn:=by have:=h.1; rw[fT] at this; omega
 refine⟨by rw[List.length_map]; exact hln,fun hn=>?_⟩
 rcases h.2 with⟨hv,h0⟩ | ⟨g,cap,cur,hv,hb,hg,hnc,_⟩
 ·omega
 ·simp only[Value.slice.injEq] at hv
  obtain⟨rfl,_,rfl⟩:=hv
  refine⟨g,0,rfl,(h.lt g rfl).2,.inr ⟨hb,rfl⟩,fun i hi=>?_⟩
  have hil:i<l.length:=by omega
  have hx:(l.map (·.x)).getD i aK.zero=l[i].x:=by simp[List.getD,hil]
  rw[hx,Nat.zero_add]
  have hc:=fun r (hr:r<3)=>(h.cellAt (i*3+r) (by omega)).trans (flat_get iV.cells_len l i r hil hr)
  have hA:=hl l[i] (List.getElem_mem hil)
  exact⟨l[i].v,hc 0 (by omega),hc 1 (by omega),hc 2 (by omega),hA.weaken (fun b _ q=>.inl q)⟩
theorem Only.snapsAt {M:Nat->Prop}{a b:World}(h:Only M a b){Q:Nat->Prop}{x:Option Addr}{n:Nat}{l:List bD}(he:dV Q a x n l)(hm:∀ k,Q k->¬M k):dV Q b x n l:=by
 refine⟨he.1,fun hn=>?_⟩
 obtain⟨g,off,rfl,hlt,hq,hc⟩:=he.2 hn
 refine⟨g,off,rfl,Nat.lt_of_lt_of_le hlt h.size,hq,fun i hi=>?_⟩
 obtain⟨fa,fn,fc,hs⟩:=hc i hi
 exact⟨fa,fn,fc,(h.cell (p:=⟨g,off+i*2,none⟩) hlt (hm g hq)).trans hs.c0,(h.cell (p:=⟨g,off+i*2+1,none⟩) hlt (hm g hq)).trans hs.c1,h.ents hs.files hm,hs.small,hs.caps⟩
theorem Only.setAt {M:Nat->Prop}{a b:World}(h:Only M a b){Q:Nat->Prop}{v:cB}{x:aK}(he:dK Q a v x)(hm:∀ k,Q k->¬M k):dK Q b v x:=⟨he.name,he.small,h.ents he.files hm,h.snapsAt he.snaps hm,he.caps⟩
structure aY where
 key:Int
 quota:Int
 sa:Option Addr
 sn:Nat
 sc:Nat
 ms:List iV
def aY.e (m:aY):aO:=⟨m.key,m.quota,m.ms.map (·.x)⟩
def aY.cells (m:aY):List Value:=[.int .i64 m.key,.int .i64 m.quota,.slice m.sa m.sn m.sc]
theorem aY.cells_len (m:aY):m.cells.length=3:=rfl
theorem aY.cells_one (m:aY):∀ v∈m.cells,v.oneCell'=true:=by
 intro v hv
 simp only[aY.cells,List.mem_cons,List.not_mem_nil,or_false] at hv
 rcases hv with rfl | rfl | rfl<;>rfl
def eZ (l:List aY):List Value:=l.flatMap aY.cells
theorem lD (l:List aY):(eZ l).length=l.length*3:=rU aY.cells_len l
theorem aJ2 (l:List aY):∀ v∈eZ l,v.oneCell'=true:=fun v hv=>by
 obtain⟨m,_,h⟩:=List.mem_flatMap.1 hv
 exact m.cells_one v h
def fD (t:Value)(l:List aY)(j:Nat)(b:Nat):Prop:=t.ownBlock=some b\/∃ i m,i<j/\l[i]? =some m/\(Value.slice m.sa m.sn m.sc).ownBlock=some b
structure iH (H:Nat)(X:Nat->Prop)(w:World)(ta:Option Addr)(tn tc:Nat)(l:List aY)(j:Nat):Prop where
 row:w.ownsRow H 64 3 (.slice ta tn tc) tn (eZ l)
 own:∀ i m,l[i]? =some m->i<j->w.ownsRow H 84 3 (.slice m.sa m.sn m.sc) m.sn (setCells m.ms)
 src:∀ i m,l[i]? =some m->j<=i->pM H w m.sa m.sn (setCells m.ms)/\m.ms.length=m.sn/\m.sn<=m.sc
 lists:∀ m∈l,∀ s∈m.ms,dK (fun b=>¬fD (.slice ta tn tc) l j b/\¬X b) w s.v s.x
 rx:∀ b,fD (.slice ta tn tc) l j b->¬X b
 xlt:∀ b,X b->b<w.heap.size
 apart:∀ i k m u,l[i]? =some m->l[k]? =some u->i<j->k<j->i≠k->∀ b,(Value.slice m.sa m.sn m.sc).ownBlock=some b->(Value.slice u.sa u.sn u.sc).ownBlock≠some b
 top:∀ i m,l[i]? =some m->i<j->∀ b,(Value.slice m.sa m.sn m.sc).ownBlock=some b->(Value.slice ta tn tc).ownBlock≠some b
 nums:∀ m∈l,(-9223372036854775808<=m.key/\m.key<=9223372036854775807)/\(-9223372036854775808<=m.quota/\m.quota<=9223372036854775807)
 sz:H<=w.heap.size
theorem iH.len {H:Nat}{X:Nat->Prop}{w:World}{ta:Option Addr}{tn tc:Nat}{l:List aY}{j:Nat}(h:iH H X w ta tn tc l j):l.length=tn:=by have:=h.row.1; rw[lD] at this; omega
theorem iH.ge {H:Nat}{X:Nat->Prop}{w:World}{ta:Option Addr}{tn tc:Nat}{l:List aY}{j b:Nat}(h:iH H X w ta tn tc l j)(hb:fD (.slice ta tn tc) l j b):H<=b/\b<w.heap.size:=by
 rcases hb with hb | ⟨i,m,hi,hm,hb⟩
 ·exact h.row.lt b hb
 ·exact(h.own i m hm hi).lt b hb
theorem pM.only {H:Nat}{M:Nat->Prop}{w w':World}{a:Option Addr}{n:Nat}{cs:List Value}(h:pM H w a n cs)(on:Only M w w')(hM:∀ b,M b->H<=b)(hH:H<=w.heap.size):pM H w' a n cs:=fun hp=>by
 obtain⟨b,off,e,hlt,hc⟩:=h hp
 exact⟨b,off,e,hlt,fun j u hj=>(on.cell (p:=⟨b,off+j,none⟩) (show b<w.heap.size by omega) (fun m=>by have:=hM b m; omega)).trans (hc j u hj)⟩
theorem iH.only {H:Nat}{X M:Nat->Prop}{w w':World}{ta:Option Addr}{tn tc:Nat}{l:List aY}{j:Nat}(h:iH H X w ta tn tc l j)(on:Only M w w')(hM:∀ b,M b->w.heap.size<=b\/(X b/\(j<l.length->H<=b))):iH H X w' ta tn tc l j:=
 have hR:∀ b,fD (.slice ta tn tc) l j b->¬M b:=fun b hb k=>by
  rcases hM b k with k | k
  ·have:=(h.ge hb).2; omega
  ·exact h.rx b hb k.1
 ⟨on.row h.row (fun b hb=>hR b (.inl hb)),fun i m hm hi=>on.row (h.own i m hm hi) (fun b hb=>hR b (.inr ⟨i,m,hi,hm,hb⟩)),fun i m hm hi=>⟨(h.src i m hm hi).1.only on (fun b k=>by
   have:=(List.getElem?_eq_some_iff.1 hm).1
   rcases hM b k with k | k
   ·have:=h.sz; omega
   ·exact k.2 (by omega)) h.sz,(h.src i m hm hi).2⟩,
   fun m hm s hs=>(on.setAt ((h.lists m hm s hs).weaken (R:=fun b=>(¬fD (.slice ta tn tc) l j b/\¬X b)/\b<w.heap.size) (fun b hb q=>⟨q,hb⟩)) (fun b q k=>by
    rcases hM b k with k | k
    ·have:=q.2; omega
    ·exact q.1.2 k.1)).weaken (fun b _ q=>q.1),h.rx,fun b hb=>Nat.lt_of_lt_of_le (h.xlt b hb) on.size,h.apart,h.top,h.nums,Nat.le_trans h.sz on.size⟩
theorem iH.below {H:Nat}{X:Nat->Prop}{w w':World}{ta:Option Addr}{tn tc:Nat}{l:List aY}{j:Nat}(h:iH H X w ta tn tc l j)(hb:Below w.heap.size w w'):iH H X w' ta tn tc l j:=h.only (M:=fun _=>False) (Only.of_below hb) (fun _ m=>m.elim)
theorem iH.clear {H:Nat}{X Y:Nat->Prop}{w w':World}{ta:Option Addr}{tn tc:Nat}{l:List aY}{j:Nat}(h:iH H X w ta tn tc l j)(hb:Below w.heap.size w w')(hY:∀ b,Y b->X b\/(w.heap.size<=b/\b<w'.heap.size)):iH H Y w' ta tn tc l j:=by
 have h':=h.below hb
 refine⟨h'.row,h'.own,h'.src,fun m hm s hs=>?_,fun b hb hy=>?_,fun b hy=>?_,h.apart,h.top,h.nums,h'.sz⟩
 ·exact(((h.lists m hm s hs).weaken (R:=fun b=>(¬fD (.slice ta tn tc) l j b/\¬X b)/\b<w.heap.size) (fun b hb q=>⟨q,hb⟩)).below hb).weaken (fun b _ q=>⟨q.1.1,fun y=>by
   rcases hY b y with y | y
   ·exact q.1.2 y
   ·have:=q.2; omega⟩)
 ·rcases hY b hy with hy | hy
  ·exact h.rx b hb hy
  ·have:=(h.ge hb).2; omega
 ·rcases hY b hy with hy | hy
  ·exact Nat.lt_of_lt_of_le (h.xlt b hy) hb.size
  ·exact hy.2
theorem iH.step {H:Nat}{X:Nat->Prop}{w w':World}{ta:Option Addr}{tn tc:Nat}{l:List aY}{j:Nat}(h:iH H X w ta tn tc l j){i j':Nat}{m m':aY}{M:Nat->Prop}(hm:l[i]? =some m)(hj:(i<j/\j'=j)\/(i=j/\j'=j+1))(on:Only M w w')
 (hM:∀ b,M b->(Value.slice ta tn tc).ownBlock=some b\/(i<j/\(Value.slice m.sa m.sn m.sc).ownBlock=some b))
 (hrow:w'.ownsRow H 64 3 (.slice ta tn tc) tn (eZ (l.set i m')))
 (hset:w'.ownsRow H 84 3 (.slice m'.sa m'.sn m'.sc) m'.sn (setCells m'.ms))
 (hblk:∀ b,(Value.slice m'.sa m'.sn m'.sc).ownBlock=some b->(i<j/\(Value.slice m.sa m.sn m.sc).ownBlock=some b)\/w.heap.size<=b)
 (hnew:∀ s∈m'.ms,s∈m.ms\/dK (fun b=>¬fD (.slice ta tn tc) l j b/\¬X b) w s.v s.x\/dK (fun b=>w.heap.size<=b/\(Value.slice m'.sa m'.sn m'.sc).ownBlock≠some b) w' s.v s.x)
 (hkq:m'.key=m.key/\m'.quota=m.quota):iH H X w' ta tn tc (l.set i m') j':=by
 obtain⟨hil,hmi⟩:=List.getElem?_eq_some_iff.1 hm
 have hMR:∀ b,M b->fD (.slice ta tn tc) l j b:=fun b k=>by
  rcases hM b k with k | ⟨h1,k⟩
  ·exact .inl k
  ·exact .inr ⟨i,m,h1,hm,k⟩
 have hR:∀ b,fD (.slice ta tn tc) (l.set i m') j' b->fD (.slice ta tn tc) l j b\/(w.heap.size<=b/\(Value.slice m'.sa m'.sn m'.sc).ownBlock=some b):=fun b hb=>by
  rcases hb with hb | ⟨k,u,hk,hu,hb⟩
  ·exact .inl (.inl hb)
  ·by_cases e:k=i
   ·subst e
    rw[List.getElem?_set_self hil] at hu
    cases hu
    rcases hblk b hb with⟨h1,h2⟩ | h1
    ·exact .inl (.inr ⟨k,m,h1,hm,h2⟩)
    ·exact .inr ⟨h1,hb⟩
   ·rw[List.getElem?_set_ne (fun f=>e f.symm)] at hu
    exact .inl (.inr ⟨k,u,by omega,hu,hb⟩)
 have old:∀ (v:cB) (x:aK),dK (fun b=>¬fD (.slice ta tn tc) l j b/\¬X b) w v x->dK (fun b=>¬fD (.slice ta tn tc) (l.set i m') j' b/\¬X b) w' v x:=fun v x hs=>
  (on.setAt (hs.weaken (R:=fun b=>(¬fD (.slice ta tn tc) l j b/\¬X b)/\b<w.heap.size) (fun b hb q=>⟨q,hb⟩)) (fun b q k=>q.1.1 (hMR b k))).weaken (fun b _ q=>⟨fun f=>by
    rcases hR b f with f | f
    ·exact q.1.1 f
    ·have:=q.2; have:=f.1; omega,q.1.2⟩)
 refine⟨hrow,fun k u hu hk=>?_,fun k u hu hk=>?_,fun u hu s hs=>?_,fun b hb hx=>?_,fun b hb=>Nat.lt_of_lt_of_le (h.xlt b hb) on.size,fun a b u v hu hv ha hb hab c hc=>?_,fun k u hu hk b hb=>?_,fun u hu=>?_,Nat.le_trans h.sz on.size⟩
 ·by_cases e:k=i
  ·subst e
   rw[List.getElem?_set_self hil] at hu
   cases hu
   exact hset
  ·rw[List.getElem?_set_ne (fun f=>e f.symm)] at hu
   have hkj:k<j:=by omega
   refine on.row (h.own k u hu hkj) (fun b hb f=>?_)
   rcases hM b f with f | ⟨h1,f⟩
   ·exact h.top k u hu hkj b hb f
   ·exact h.apart k i u m hu hm hkj h1 e b hb f
 ·have e:k≠i:=by omega
  rw[List.getElem?_set_ne (fun f=>e f.symm)] at hu
  have:=h.src k u hu (by omega)
  exact⟨this.1.only on (fun b f=>(h.ge (hMR b f)).1) h.sz,this.2⟩
 ·obtain⟨k,hk,rfl⟩:=List.mem_iff_getElem.1 hu
  rw[List.getElem_set] at hs
  split at hs
  ·rcases hnew s hs with h1 | h1 | h1
   ·exact old _ _ (h.lists m (List.mem_of_getElem? hm) s h1)
   ·exact old _ _ h1
   ·exact h1.weaken (fun b _ q=>⟨fun f=>by
     rcases hR b f with f | f
     ·have:=(h.ge f).2; have:=q.1; omega
     ·exact q.2 f.2,fun f=>by have:=h.xlt b f; have:=q.1; omega⟩)
  ·exact old _ _ (h.lists _ (List.getElem_mem (by simpa using hk)) s hs)
 ·rcases hR b hb with f | f
  ·exact h.rx b f hx
  ·have:=h.xlt b hx; have:=f.1; omega
 ·by_cases e:a=i
  ·subst e
   rw[List.getElem?_set_self hil] at hu
   cases hu
   rw[List.getElem?_set_ne hab] at hv
   intro f
   rcases hblk c hc with⟨h1,h2⟩ | h1
   ·exact h.apart a b m v hm hv h1 (by omega) hab c h2 f
   ·have:=((h.own b v hv (by omega)).lt c f).2; omega
  ·rw[List.getElem?_set_ne (fun f=>e f.symm)] at hu
   by_cases e2:b=i
   ·subst e2
    rw[List.getElem?_set_self hil] at hv
    cases hv
    intro f
    rcases hblk c f with⟨h1,h2⟩ | h1
    ·exact h.apart a b u m hu hm (by omega) h1 hab c hc h2
    ·have:=((h.own a u hu (by omega)).lt c hc).2; omega
   ·rw[List.getElem?_set_ne (fun f=>e2 f.symm)] at hv
    exact h.apart a b u v hu hv (by omega) (by omega) hab c hc
 ·by_cases e:k=i
  ·subst e
   rw[List.getElem?_set_self hil] at hu
   cases hu
   intro f
   rcases hblk b hb with⟨h1,h2⟩ | h1
   ·exact h.top k m hm h1 b h2 f
   ·have:=(h.row.lt b f).2; omega
  ·rw[List.getElem?_set_ne (fun f=>e f.symm)] at hu
   exact h.top k u hu (by omega) b hb
 ·rcases List.mem_or_eq_of_mem_set hu with hu | rfl
  ·exact h.nums u hu
  ·rw[hkq.1,hkq.2]
   exact h.nums m (List.mem_of_getElem? hm)
theorem iH.tens {H:Nat}{X:Nat->Prop}{w:World}{ta:Option Addr}{tn tc:Nat}{l:List aY}(h:iH H X w ta tn tc l tn):gU (fun _=>True) w ta tn (l.map aY.e):=by
 have hln:=h.len
 refine⟨by rw[List.length_map]; exact hln,fun hn=>?_⟩
 rcases h.row.2 with⟨hv,h0⟩ | ⟨g,cap,cur,hv,hb,hg,hnc,_⟩
 ·omega
 ·simp only[Value.slice.injEq] at hv
  obtain⟨rfl,_,rfl⟩:=hv
  refine⟨g,0,rfl,(h.row.lt g rfl).2,trivial,fun i hi=>?_⟩
  have hil:i<l.length:=by omega
  have hx:(l.map aY.e).getD i aO.zero=l[i].e:=by simp[List.getD,hil]
  rw[hx,Nat.zero_add]
  have hc:=fun r (hr:r<3)=>(h.row.cellAt (i*3+r) (by omega)).trans (flat_get aY.cells_len l i r hil hr)
  have hA:=h.own i l[i] (List.getElem?_eq_getElem hil) hi
  have hN:=h.nums l[i] (List.getElem_mem hil)
  exact⟨l[i].sa,l[i].sn,l[i].sc,hc 0 (by omega),hc 1 (by omega),hc 2 (by omega),(aZ4 (fun m hm=>h.lists _ (List.getElem_mem hil) m hm) hA).weaken (fun b _ _=>trivial),hN.1,hN.2,oL hA⟩
theorem Tryz.infoN:(Tryz.prog.info? 64).map (fun i=>(i.zero,i.size,i.bytes))=some (some (.agg #[.int .i64 0,.int .i64 0,.slice none 0 0]),3,40):=by kernel_rfl
theorem bK0 (a:Option Addr)(n c:Nat)(cs:List Value)(w:World)(hn:n<=1000)(hl:cs.length=n*3)(h1:∀ v∈cs,v.oneCell'=true)
 (hc:0<n->∃ b off,a=some ⟨b,off,none⟩/\b<w.heap.size/\∀ j u,cs[j]? =some u->w.cell? ⟨b,off+j,none⟩=some u):
 Calls Tryz.prog 31 #[.slice a n c] w fun e w'=>
  Below w.heap.size w w'/\∃ a' c', e=.returned (.slice a' n c')/\n<=c'/\w'.ownsRow w.heap.size 64 3 (.slice a' n c') n cs:=by
 obtain⟨i0,hi,hz0,hz1,hz2⟩:=info_parts Tryz.infoN
 have qn:∀ (w:World) (a:Option Addr) (n c n' c':Nat),(binOp .eql 25 (.slice a n c) (.slice none n' c')).run Tryz.prog w=.ok (.bool a.isNone) w:=fun w a n c n' c'=>Lib.run_eql_slice_nil w _ _ a n c n' c' Tryz.underlying25
 cases a with
 | none=>
   have hn0:n=0:=by
    rcases Nat.eq_zero_or_pos n with h0 | h0
    ·exact h0
    ·obtain⟨_,_,h1,_⟩:=hc h0
     cases h1
   subst hn0
   replace hl:=hid hl
   replace hc:=hid hc
   replace h1:=hid h1
   go_enter Tryz.func31,Tryz.ntmps31
   go_wp2_with fail
   go_ret
   have e0:cs=[]:=List.eq_nil_of_length_eq_zero (by have:=hl.out; omega)
   exact⟨Below.refl _ _,_,_,rfl,Nat.le_refl _,by rw[e0]; exact World.ownsRow_nil _ _ _ _⟩
 | some x=>
   have hcn:∀ j u,cs[j]? =some u->(w.alloc (.cells #[] 64)).cell? (x.add j)=some u:=by
    intro j u hj
    have hjl:j<cs.length:=by
     rcases Nat.lt_or_ge j cs.length with h | h
     ·exact h
     ·simp[List.getElem?_eq_none h] at hj
    obtain⟨b,off,he,hb,hcc⟩:=hc (by omega)
    obtain rfl:x=⟨b,off,none⟩:=by simpa using he
    have ea:(⟨b,off,none⟩:Addr).add j=⟨b,off+j,none⟩:=by unfold Addr.add; split<;>simp_all
    rw[ea,World.cell?_alloc_past _ _ _ hb]
    exact hcc j u hj
   have A:=hid hcn
   have H1:=hid h1
   have Hl:=hid hl
   clear hcn hc h1 hl
   go_enter Tryz.func31,Tryz.ntmps31
   go_wp2_with (at_builtin; refine wpList_append_own _ rfl _ _ 25 rfl w.heap.size 64 i0 _ 3 40 Tryz.underlying25 hi hz0 hz1 hz2 rfl (by decide) _ _ _ rfl (World.ownsRow_made w #[] 0 (Nat.le_refl _) (Nat.zero_le _) (by simp)) x n c cs rfl ?qc1 ?qc2 ?qc3 ?qc4 ?qc5 ?qc6 ?_)
   case qc1=>exact Hl.out
   case qc2=>exact A.out
   case qc3=>exact H1.out
   case qc4=>unfold maxLen; omega
   case qc5=>omega
   case qc6=>simp
   intro v' w1 hown hgrow hnil
   have hown':w1.ownsRow w.heap.size 64 3 v' n cs:=by simpa using hown
   have hbel:=((Below.refl _ w).alloc (Nat.le_refl _) _).grown hgrow (by simp) (by intro k hk; simp[Value.ownBlock] at hk; omega)
   clear hown hgrow A hnil
   obtain⟨a', c', rfl,hnc⟩:∃ a' c', v'=.slice a' n c'/\n<=c':=by
    rcases hown'.2 with⟨hv,h0⟩ | ⟨g,cap,cur,hv,_,_,hnc,_⟩
    ·exact⟨none,0,by rw[hv,h0],by omega⟩
    ·exact⟨_,_,hv,hnc⟩
   replace hown':=hid hown'
   go_wp2_with fail
   go_ret
   exact⟨hbel,a', c', rfl,hnc,hown'.out⟩
theorem Only.of_belowH {H:Nat}{a b:World}(h:Below H a b):Only (fun k=>H<=k) a b:=⟨h.os,h.tape,h.output,h.size,fun k hk hm=>h.block k (by omega)⟩
theorem dK.belowH {H:Nat}{a b:World}{v:cB}{x:aK}(h:dK (fun k=>k<H) a v x)(hb:Below H a b):dK (fun k=>k<H) b v x:=(Only.of_belowH hb).setAt h (fun k hk m=>by omega)
theorem gU.rows {Q:Nat->Prop}{w:World}{a:Option Addr}{n:Nat}{l:List aO}(h:gU Q w a n l):∃ L:List aY,L.map aY.e=l/\(∀ m∈L,(∀ s∈m.ms,dK Q w s.v s.x)/\pM w.heap.size w m.sa m.sn (setCells m.ms)/\m.ms.length=m.sn/\m.sn<=m.sc/\(-9223372036854775808<=m.key/\m.key<=9223372036854775807)/\(-9223372036854775808<=m.quota/\m.quota<=9223372036854775807))/\pM w.heap.size w a n (eZ L):=by
 rcases Nat.eq_zero_or_pos n with h0 | h0
 ·subst h0
  have:=List.eq_nil_of_length_eq_zero h.1
  subst this
  exact⟨[],rfl,by simp,fun h=>absurd h (by omega)⟩
 ·obtain⟨b,off,rfl,hlt,hq,hc⟩:=h.2 h0
  have hl:=h.1
  have key:∀ i,i<n->∃ m:aY,m.e=l.getD i aO.zero/\((∀ s∈m.ms,dK Q w s.v s.x)/\pM w.heap.size w m.sa m.sn (setCells m.ms)/\m.ms.length=m.sn/\m.sn<=m.sc/\(-9223372036854775808<=m.key/\m.key<=9223372036854775807)/\(-9223372036854775808<=m.quota/\m.quota<=9223372036854775807))/\∀ r u,m.cells[r]? =some u->w.cell? ⟨b,off+i*3+r,none⟩=some u:=by
   intro i hi
   obtain⟨sa,sn,sc,hT⟩:=hc i hi
   obtain⟨ms,h1,h2,h3⟩:=hT.ok.sets.rows
   generalize l.getD i aO.zero=t at *
   obtain⟨tk,tq,ts⟩:=t
   simp only at h1
   subst h1
   refine⟨⟨tk,tq,sa,sn,sc,ms⟩,rfl,⟨h2,h3,?_,hT.ok.caps,hT.ok.kb,hT.ok.qb⟩,fun r u hr=>?_⟩
   ·have:=hT.ok.sets.1
    simpa using this
   ·have h4:r=0\/r=1\/r=2\/3<=r:=by omega
    rcases h4 with rfl | rfl | rfl | h4
    ·exact hT.c0.trans hr
    ·exact hT.c1.trans hr
    ·exact hT.c2.trans hr
    ·rw[List.getElem?_eq_none (by rw[aY.cells_len]; exact h4)] at hr; cases hr
  obtain⟨f,hf⟩:∃ f:Nat->aY,∀ i,i<n->(f i).e=l.getD i aO.zero/\((∀ s∈(f i).ms,dK Q w s.v s.x)/\pM w.heap.size w (f i).sa (f i).sn (setCells (f i).ms)/\(f i).ms.length=(f i).sn/\(f i).sn<=(f i).sc/\(-9223372036854775808<=(f i).key/\(f i).key<=9223372036854775807)/\(-9223372036854775808<=(f i).quota/\(f i).quota<=9223372036854775807))/\∀ r u,(f i).cells[r]? =some u->w.cell? ⟨b,off+i*3+r,none⟩=some u:=
   ⟨fun i=>if hi:i<n then (key i hi).choose else ⟨0,0,none,0,0,[]⟩,fun i hi=>by simp only[hi,dif_pos]; exact(key i hi).choose_spec⟩
  refine⟨(List.range n).map f,?_,?_,fun _=>⟨b,off,rfl,hlt,?_⟩⟩
  ·apply List.ext_getElem
   ·simp[hl]
   ·intro i h1 h2
    have hi:i<n:=by omega
    rw[List.getElem_map,List.getElem_map,List.getElem_range,(hf i hi).1]
    simp[List.getD,h2]
  ·intro m hm
   obtain⟨i,hi,rfl⟩:=List.mem_map.1 hm
   exact(hf i (List.mem_range.1 hi)).2.1
  ·intro j u hj
   have hjl:j<n*3:=by
    have:=lD ((List.range n).map f)
    rw[List.length_map,List.length_range] at this
    rcases Nat.lt_or_ge j (eZ ((List.range n).map f)).length with h | h
    ·omega
    ·rw[List.getElem?_eq_none h] at hj; cases hj
   have hi:j / 3<n:=by omega
   have hg:=flat_get aY.cells_len ((List.range n).map f) (j / 3) (j%3) (by simpa using hi) (Nat.mod_lt _ (by omega))
   rw[show j / 3*3+j%3=j by omega,List.getElem_map,List.getElem_range] at hg
   unfold eZ at hj
   rw[hg] at hj
   have:=(hf (j / 3) hi).2.2 _ _ hj
   rw[show off+j / 3*3+j%3=off+j by omega] at this
   exact this
structure bL3 (K H:Nat)(w wr:World)(a:Option Addr)(n c:Nat)(ta:Option Addr)(tn tc:Nat)(ta':Option Addr)(tc':Nat)(l:List aO)(L:List aY)(j:Nat):Prop where
 box:aC wr H #[.slice a n c,.slice ta tn tc] 27
 res:aC wr (H+1) #[.slice none 0 0,.slice none 0 0] 27
 mine:iH (H+2) (fun b=>K<=b/\b<=H+1) wr ta' tn tc' L j
 eq:L.map aY.e=l
 hK:K<=H
 todo:∀ i m,L[i]? =some m->j<=i->pM H w m.sa m.sn (setCells m.ms)/\∀ s∈m.ms,dK (fun b=>b<H) w s.v s.x
 bel:Below H w wr
theorem aM1 {L:List aY}{j:Nat}{m m':aY}(hm:L[j]? =some m)(he:m'.e=m.e):(L.set j m').map aY.e=L.map aY.e:=by
 rw[List.map_set,he]
 apply List.ext_getElem?
 intro i
 rw[List.getElem?_set]
 split
 ·rename_i e
  subst e
  obtain⟨hj,hmj⟩:=List.getElem?_eq_some_iff.1 hm
  simp[hj,hmj]
 ·rfl
theorem bL3.below {K H:Nat}{w wr w':World}{a:Option Addr}{n c:Nat}{ta:Option Addr}{tn tc:Nat}{ta':Option Addr}{tc':Nat}{l:List aO}{L:List aY}{j:Nat}(h:bL3 K H w wr a n c ta tn tc ta' tc' l L j)(b:Below wr.heap.size wr w'):bL3 K H w w' a n c ta tn tc ta' tc' l L j:=
 ⟨h.box.below b,h.res.below b,h.mine.below b,h.eq,h.hK,h.todo,h.bel.trans (b.mono (by have:=h.mine.sz; omega))⟩
theorem bL3.row {K H:Nat}{w wr w6:World}{a:Option Addr}{n c:Nat}{ta:Option Addr}{tn tc tb tc':Nat}{l:List aO}{L:List aY}{j:Nat}{m:aY}{a':Option Addr}{c' B2:Nat}(h:bL3 K H w wr a n c ta tn tc (some ⟨tb,0,none⟩) tc' l L j)(hm:L[j]? =some m)(b6:Below wr.heap.size wr w6)(hB:wr.heap.size<=B2)(ho:w6.ownsRow B2 84 3 (.slice a' m.sn c') m.sn (setCells m.ms)):
 bL3 K H w (w6.setCell ⟨tb,j*3+2,none⟩ (.slice a' m.sn c')) a n c ta tn tc (some ⟨tb,0,none⟩) tc' l (L.set j { m with sa:=a', sc:=c' }) (j+1):=by
 obtain⟨hj,hmj⟩:=List.getElem?_eq_some_iff.1 hm
 have htb:=h.mine.row.lt tb rfl
 have kk:Kept tb w6 (w6.setCell ⟨tb,j*3+2,none⟩ (.slice a' m.sn c')):=Kept.setCell (g:=tb) (Kept.refl _ _) (p:=⟨tb,j*3+2,none⟩) rfl _
 have on:Only (fun b=>b=tb) wr (w6.setCell ⟨tb,j*3+2,none⟩ (.slice a' m.sn c')):=(Only.of_below b6).trans (Only.of_kept kk rfl)
 have hsz:=h.mine.sz
 refine⟨on.cells h.box (by omega),on.cells h.res (by omega),?_,?_,h.hK,fun i u hu hi=>?_,h.bel.trans ((b6.mono (show H<=wr.heap.size by omega)).trans (kk.below (by omega)))⟩
 ·refine h.mine.step hm (.inr ⟨rfl,rfl⟩) on (fun b hb=>?_) ?_ ?_ (fun b hb=>.inr ?_) (fun s hs=>.inl hs) ⟨rfl,rfl⟩
  ·subst hb
   exact .inl rfl
  ·have h1:=((bY h.mine.row b6).stored (j*3+2) (.slice a' m.sn c')).1
   have h2:(eZ L).set (j*3+2) (.slice a' m.sn c')=eZ (L.set j { m with sa:=a', sc:=c' }):=jS aY.cells_len L j 2 { m with sa:=a', sc:=c' } _ hj (by omega) (by rw[hmj]; rfl)
   rw[<-h2]
   exact h1
  ·exact dE (by omega) ((Only.of_kept (M:=fun b=>b=tb) kk rfl).row ho (fun b hb e=>by subst e; have:=(ho.lt _ hb).1; omega))
  ·have:=(ho.lt b hb).1; omega
 ·exact(aM1 (m':={ m with sa:=a', sc:=c' }) hm rfl).trans h.eq
 ·rw[List.getElem?_set_ne (by omega)] at hu
  exact h.todo i u hu (by omega)
abbrev aT8 (w:World)(rb o:Nat)(u:cB):World:=((w.setCell ⟨rb,o,none⟩ (.string u.name)).setCell ⟨rb,o+1,none⟩ (.slice u.fa u.fn u.fc)).setCell ⟨rb,o+2,none⟩ (.slice u.sa u.sn u.sc)
theorem nY (w:World)(rb o:Nat)(u:cB):Kept rb w (aT8 w rb o u):=Kept.setCell (g:=rb) (Kept.setCell (g:=rb) (Kept.setCell (g:=rb) (Kept.refl _ _) (p:=⟨rb,o,none⟩) rfl _) (p:=⟨rb,o+1,none⟩) rfl _) (p:=⟨rb,o+2,none⟩) rfl _
theorem bA2 {w:World}{base:Nat}{e:TypeId}{rb n cap k:Nat}{ms:List iV}(h:w.ownsRow base e 3 (.slice (some ⟨rb,0,none⟩) n cap) n (setCells ms))(hk:k<ms.length)(u:cB)(x:aK):(aT8 w rb (k*3) u).ownsRow base e 3 (.slice (some ⟨rb,0,none⟩) n cap) n (setCells (ms.set k ⟨u,x⟩)):=by
 have h1:=(h.stored (k*3) (.string u.name)).1
 have h2:=(h1.stored (k*3+1) (.slice u.fa u.fn u.fc)).1
 have h3:=(h2.stored (k*3+2) (.slice u.sa u.sn u.sc)).1
 have e:(((setCells ms).set (k*3) (.string u.name)).set (k*3+1) (.slice u.fa u.fn u.fc)).set (k*3+2) (.slice u.sa u.sn u.sc)=setCells (ms.set k ⟨u,x⟩):=by
  have e0:(setCells ms).set (k*3+0) (.string u.name)=setCells (ms.set k ⟨{ ms[k].v with name:=u.name },x⟩):=jS iV.cells_len ms k 0 _ _ hk (by omega) rfl
  rw[Nat.add_zero] at e0
  rw[e0]
  have e1:(setCells (ms.set k ⟨{ ms[k].v with name:=u.name },x⟩)).set (k*3+1) (.slice u.fa u.fn u.fc)=setCells ((ms.set k ⟨{ ms[k].v with name:=u.name },x⟩).set k ⟨{ u with sa:=ms[k].v.sa,sn:=ms[k].v.sn,sc:=ms[k].v.sc },x⟩):=jS iV.cells_len _ k 1 _ _ (by simpa using hk) (by omega) (by rw[List.getElem_set_self]; rfl)
  rw[e1,List.set_set]
  have e2:(setCells (ms.set k ⟨{ u with sa:=ms[k].v.sa,sn:=ms[k].v.sn,sc:=ms[k].v.sc },x⟩)).set (k*3+2) (.slice u.sa u.sn u.sc)=setCells ((ms.set k ⟨{ u with sa:=ms[k].v.sa,sn:=ms[k].v.sn,sc:=ms[k].v.sc },x⟩).set k ⟨u,x⟩):=jS iV.cells_len _ k 2 _ _ (by simpa using hk) (by omega) (by rw[List.getElem_set_self]; rfl)
  rw[e2,List.set_set]
 rw[<-e]
 exact h3
theorem aD7 {L:List aY}{j:Nat}{m m':aY}(hm:L[j]? =some m)(he:m'.cells=m.cells):eZ (L.set j m')=eZ L:=by
 obtain⟨hj,hmj⟩:=List.getElem?_eq_some_iff.1 hm
 unfold eZ
 rw[List.set_eq_take_append_cons_drop,if_pos hj,List.flatMap_append,List.flatMap_cons,he,<-List.flatMap_cons,<-List.flatMap_append]
 congr 1
 rw[<-hmj,List.getElem_cons_drop,List.take_append_drop]
theorem iH.lay {H:Nat}{X:Nat->Prop}{w w7:World}{ta:Option Addr}{tn tc:Nat}{l:List aY}{j i k rb:Nat}{m:aY}{u:cB}{x:aK}(h:iH H X w ta tn tc l j)(hm:l[i]? =some m)(hij:i<j)(ha:m.sa=some ⟨rb,0,none⟩)(hk:k<m.ms.length)(b7:Below w.heap.size w w7)(hX:dK (fun b=>w.heap.size<=b) w7 u x):
 iH H X (aT8 w7 rb (k*3) u) ta tn tc (l.set i { m with ms:=m.ms.set k ⟨u,x⟩ }) j:=by
 have kk:=nY w7 rb (k*3) u
 have hown:=h.own i m hm hij
 rw[ha] at hown
 have hrb:=hown.lt rb rfl
 have on:Only (fun b=>b=rb) w (aT8 w7 rb (k*3) u):=(Only.of_below b7).trans (Only.of_kept kk rfl)
 refine h.step hm (.inl ⟨hij,rfl⟩) on (fun b hb=>.inr ⟨hij,?_⟩) ?_ ?_ (fun b hb=>.inl ⟨hij,hb⟩) (fun s hs=>?_) ⟨rfl,rfl⟩
 ·subst hb
  rw[ha]; rfl
 ·rw[aD7 (m':={ m with ms:=m.ms.set k ⟨u,x⟩ }) hm rfl]
  exact on.row h.row (fun b hb e=>by subst e; exact h.top i m hm hij b (by rw[ha]; rfl) hb)
 ·simp only[ha]
  exact bA2 (bY hown b7) hk u x
 ·rcases List.mem_or_eq_of_mem_set hs with hs | rfl
  ·exact .inl hs
  ·refine .inr (.inr (((Only.of_kept (M:=fun b=>b=rb) kk rfl).setAt hX (fun b q e=>by subst e; omega)).weaken (fun b _ q=>⟨q,fun f=>?_⟩)))
   simp only[ha] at f
   have:rb=b:=by simpa [Value.ownBlock] using f
   omega
theorem bL3.lay {K H:Nat}{w wr w7:World}{a:Option Addr}{n c:Nat}{ta:Option Addr}{tn tc:Nat}{ta':Option Addr}{tc':Nat}{l:List aO}{L:List aY}{j k rb:Nat}{m:aY}{s:iV}{u:cB}(h:bL3 K H w wr a n c ta tn tc ta' tc' l L (j+1))(hm:L[j]? =some m)(ha:m.sa=some ⟨rb,0,none⟩)(hs:m.ms[k]? =some s)(b7:Below wr.heap.size wr w7)(hX:dK (fun b=>wr.heap.size<=b) w7 u s.x):
 bL3 K H w (aT8 w7 rb (k*3) u) a n c ta tn tc ta' tc' l (L.set j { m with ms:=m.ms.set k ⟨u,s.x⟩ }) (j+1):=by
 have kk:=nY w7 rb (k*3) u
 obtain⟨hk,hsk⟩:=List.getElem?_eq_some_iff.1 hs
 have hown:=h.mine.own j m hm (by omega)
 rw[ha] at hown
 have hrb:=hown.lt rb rfl
 have hsz:=h.mine.sz
 have on:Only (fun b=>b=rb) wr (aT8 w7 rb (k*3) u):=(Only.of_below b7).trans (Only.of_kept kk rfl)
 refine⟨on.cells h.box (by omega),on.cells h.res (by omega),h.mine.lay hm (by omega) ha hk b7 hX,?_,h.hK,fun i v hv hi=>?_,h.bel.trans ((b7.mono (show H<=wr.heap.size by omega)).trans (kk.below (by omega)))⟩
 ·rw[aM1 hm,h.eq]
  simp only[aY.e,aO.mk.injEq,true_and]
  rw[List.map_set]
  apply List.ext_getElem?
  intro i
  rw[List.getElem?_set]
  split
  ·rename_i e
   subst e
   simp[hk,hsk]
  ·rfl
 ·rw[List.getElem?_set_ne (by omega)] at hv
  exact h.todo i v hv hi
def cV4 (K:Nat)(W:World)(e:Ending)(w:World)(n:Nat)(B:Nat->Blk)(tn:Nat)(l:List aO):Prop:=∃ (g:Nat) (ta:Option Addr) (tc:Nat) (L:List aY),e=.returned (.agg #[.slice (some ⟨g,0,none⟩) n n,.slice ta tn tc])/\W.heap.size<=g/\Own w g n B/\iH W.heap.size (fun b=>K<=b/\b<W.heap.size) w ta tn tc L tn/\L.map aY.e=l/\∀ b,fD (.slice ta tn tc) L tn b->b<g
theorem iH.base {H K:Nat}{X Y:Nat->Prop}{w:World}{ta:Option Addr}{tn tc:Nat}{l:List aY}{j:Nat}(h:iH H X w ta tn tc l j)(hK:K<=H)(hY:∀ b,Y b->X b)(hj:l.length<=j):iH K Y w ta tn tc l j:=
 ⟨dE hK h.row,fun i m hm hi=>dE hK (h.own i m hm hi),fun i m hm hi=>absurd (List.getElem?_eq_some_iff.1 hm).1 (by omega),fun m hm s hs=>(h.lists m hm s hs).weaken (fun b _ q=>⟨q.1,fun y=>q.2 (hY b y)⟩),fun b hb y=>h.rx b hb (hY b y),fun b y=>h.xlt b (hY b y),h.apart,h.top,h.nums,Nat.le_trans hK h.sz⟩
theorem uQ (K:Nat)(a:Option Addr)(n c:Nat)(B:Nat->Blk)(ta:Option Addr)(tn tc:Nat)(l:List aO)(w:World)(hK:K<=w.heap.size)(h:fE (fun b=>b<K) w a n B ta tn l)(hok:aQ n B l):
 Calls Tryz.prog 18 #[.agg #[.slice a n c,.slice ta tn tc]] w fun e w'=>cV4 K w e w' n B tn l/\Below w.heap.size w w':=by
 have hn:=hok.right.small
 have hF:∀ i,i<n->(B i).kids.length<=4/\(B i).bytes.length<=4:=fun i hi=>⟨(hok.right.one i hi).few,(hok.right.one i hi).few2⟩
 have htn:tn<=3:=by rw[<-h.tens.1]; exact hok.few
 have hsh:∀ t∈l,t.sets.length<=3/\∀ x∈t.sets,Shape x:=fun t ht=>⟨(hok.tens t ht).few,(hok.tens t ht).shapes⟩
 have b0:=aW w (.cells #[.slice a n c,.slice ta tn tc] 27) (.cells #[.slice none 0 0,.slice none 0 0] 27)
 have k0:aC _ w.heap.size #[.slice a n c,.slice ta tn tc] 27:=(aB w _ _).below (aA _ (.cells #[.slice none 0 0,.slice none 0 0] 27))
 have k1:=aF w (.cells #[.slice a n c,.slice ta tn tc] 27) #[.slice none 0 0,.slice none 0 0] 27
 have hz0:((w.alloc (.cells #[.slice a n c,.slice ta tn tc] 27)).alloc (.cells #[.slice none 0 0,.slice none 0 0] 27)).heap.size=w.heap.size+2:=by simp
 obtain⟨L,hL1,hL2,hL3⟩:=h.tens.rows
 have hLl:L.length=tn:=by rw[<-h.tens.1,<-hL1,List.length_map]
 have hst:=hid h.store
 replace hF:=hid hF
 replace hsh:=hid hsh
 replace hL1:=hid hL1
 replace hL2:=hid hL2
 replace hL3:=hid hL3
 replace k0:=hid k0
 replace k1:=hid k1
 clear h hok
 go_enter Tryz.func18,Tryz.ntmps18
 have p1:=k0.out.cell 1
 simp at p1
 go_wp2_with fail
 clear p1
 generalize (w.alloc (.cells #[.slice a n c,.slice ta tn tc] 27)).alloc (.cells #[.slice none 0 0,.slice none 0 0] 27)=w0 at *
 refine(bK0 ta tn tc (eZ L) w0 (by omega) (by rw[lD,hLl]) (aJ2 _) ((hL3.out.below b0).src b0.size)).mono ?_
 rintro e w1 ⟨b1,ta', tc', rfl,hcc,hoT⟩
 have hC:bL3 K w.heap.size w w1 a n c ta tn tc ta' tc' l L 0:=by
  have hb:=Below.tr b0 b1
  rw[hz0] at hoT
  refine⟨k0.out.below b1,k1.out.below b1,⟨hoT,fun i m _ hi=>absurd hi (by omega),fun i m hm _=>?_,fun m hm s hs=>?_,fun b hb' hx=>?_,fun b hx=>?_,fun i k m u _ _ hi=>absurd hi (by omega),fun i m _ hi=>absurd hi (by omega),fun m hm=>?_,by have:=b1.size; omega⟩,hL1.out,hK,fun i m hm _=>?_,hb⟩
  ·have hm':=hL2.out m (List.mem_of_getElem? hm)
   refine⟨fun hp=>?_,hm'.2.2.1,hm'.2.2.2.1⟩
   obtain⟨b,off,e,hlt,hc⟩:=(hm'.2.1.below hb) hp
   exact⟨b,off,e,by omega,hc⟩
  ·refine(((hL2.out m hm).1 s hs).belowH (hb.mono hK)).weaken (fun b _ q=>⟨fun f=>?_,by omega⟩)
   rcases f with f | ⟨i,m,hi,_⟩
   ·have:=(hoT.lt b f).1; omega
   ·omega
  ·rcases hb' with f | ⟨i,m,hi,_⟩
   ·have:=(hoT.lt b f).1; omega
   ·omega
  ·have:=b1.size; omega
  ·exact⟨(hL2.out m hm).2.2.2.2.1,(hL2.out m hm).2.2.2.2.2⟩
  ·have hm':=hL2.out m (List.mem_of_getElem? hm)
   exact⟨hm'.2.1,fun s hs=>(hm'.1 s hs).weaken (fun b _ q=>by omega)⟩
 clear hoT b1 b0 k0 k1 hz0 hL1 hL2 hL3
 replace hC:=hid hC
 go_wp2_with fail
 go_loopw [13] (fun v wr=>∃ (j:Nat) (L:List aY),j<=tn/\v=.int .i64 j/\bL3 K w.heap.size w wr a n c ta tn tc ta' tc' l L j) (fun v _=>tn-(Go.RowKit.intOf v).toNat)
 case atStart=>exact⟨0,L,Nat.zero_le _,rfl,hC.out⟩
 case round=>
  clear hC hLl
  obtain⟨j,L,hj,rfl,hC⟩:=hrel
  have hLl:=hC.mine.len
  by_cases hlt:j<tn
  ·have hjl:j<L.length:=by omega
   obtain⟨tb,rfl⟩:∃ tb,ta'=some ⟨tb,0,none⟩:=by
    rcases hC.mine.row.2 with⟨h0,h1⟩ | ⟨g,cap,cur,h0,_⟩
    ·omega
    ·simp only[Value.slice.injEq] at h0; exact⟨g,h0.1⟩
   have hx:L[j]? =some L[j]:=List.getElem?_eq_getElem hjl
   have hme:L[j].e∈l:=by rw[<-hC.eq]; exact List.mem_map_of_mem (List.getElem_mem hjl)
   have hms:=hsh.out _ hme
   have c0:wr.cell? ⟨tb,j*3,none⟩=some (.int .i64 L[j].key):=(hC.mine.row.cellAt (j*3) (by omega)).trans (flat_get aY.cells_len L j 0 hjl (by omega))
   have c1:wr.cell? ⟨tb,j*3+1,none⟩=some (.int .i64 L[j].quota):=(hC.mine.row.cellAt (j*3+1) (by omega)).trans (flat_get aY.cells_len L j 1 hjl (by omega))
   have c2:wr.cell? ⟨tb,j*3+2,none⟩=some (.slice L[j].sa L[j].sn L[j].sc):=(hC.mine.row.cellAt (j*3+2) (by omega)).trans (flat_get aY.cells_len L j 2 hjl (by omega))
   have hsr:=hC.mine.src j _ hx (Nat.le_refl _)
   have htd:=hid (hC.todo j _ hx (Nat.le_refl _))
   replace hx:=hid hx
   generalize L[j]=m at *
   have hms3:m.sn<=3:=by have:=hms.1; rw[<-hsr.2.1]; simpa [aY.e] using this
   have hmsh:Hid (∀ s∈m.ms,Shape s.x):=hid (fun s hs=>hms.2 s.x (List.mem_map_of_mem (f:=fun s:iV=>s.x) hs))
   have hml:=hid hsr.2.1
   have htb:=hC.mine.row.lt tb rfl
   have b5:=aA wr (.cells #[.int .i64 m.key,.int .i64 m.quota,.slice m.sa m.sn m.sc] 64)
   have k5:aC _ wr.heap.size #[.int .i64 m.key,.int .i64 m.quota,.slice m.sa m.sn m.sc] 64:=aB wr _ _
   replace hC:=hid hC
   replace b5:=hid b5
   replace k5:=hid k5
   clear hms hme hsr
   go_upto_region 5 with fail
   clear c0 c1 c2
   have hz5:Hid ((wr.alloc (.cells #[.int .i64 m.key,.int .i64 m.quota,.slice m.sa m.sn m.sc] 64)).heap.size=wr.heap.size+1):=hid (by simp)
   generalize wr.alloc (.cells #[.int .i64 m.key,.int .i64 m.quota,.slice m.sa m.sn m.sc] 64)=w5 at *
   have q2:=k5.out.cell 2
   simp at q2
   go_wp2_with fail
   refine(bJ8 m.sa m.sn m.sc (setCells m.ms) w5 (by omega) (by rw[fT,hml.out]) (setCells_one _) ((htd.out.1.below (hC.out.bel.trans (b5.out.mono (by omega)))).src (by rw[hz5.out]; omega))).mono ?_
   rintro e w6 ⟨b6,a', c', rfl,hc6,ho6⟩
   have b56:=hid (Below.tr b5.out b6)
   have hR:=hid (hC.out.row hx.out b56.out (Nat.le_of_lt (show wr.heap.size<w5.heap.size by rw[hz5.out]; omega)) ho6)
   have fr:=((hC.out.below b56.out).mine.row.frozenAt (j*3+2))
   have d2:w6.cell? ⟨tb,j*3+2,none⟩=some (.slice m.sa m.sn m.sc):=((hC.out.below b56.out).mine.row.cellAt (j*3+2) (by omega)).trans (by
    obtain⟨h1,h2⟩:=List.getElem?_eq_some_iff.1 hx.out
    have:=flat_get aY.cells_len L j 2 h1 (by omega)
    rw[h2] at this
    exact this)
   have k6:=(k5.out.below b6).past (a:=⟨tb,j*3+2,none⟩) (show wr.heap.size≠tb by omega) (.slice a' m.sn c')
   have r2:=k6.cell 2
   simp at r2
   replace k6:=hid k6
   replace ho6:=hid ho6
   replace b6:=hid b6
   clear q2
   go_wp2_with fail
   have hset0:Hid ((L.set j { m with sa:=a', sc:=c' })[j]? =some { m with sa:=a', sc:=c' }):=hid (List.getElem?_set_self hjl)
   clear d2 fr r2 k6 ho6 b6 b56 hx hC k5 b5 hz5 htb hjl hLl
   generalize w6.setCell ⟨tb,j*3+2,none⟩ (.slice a' m.sn c')=w7 at *
   generalize m.sa=msa at *
   go_loopw [28] (fun v wr=>∃ (k:Nat) (L':List aY) (m2:aY),k<=m.sn/\v=.int .i64 k/\bL3 K w.heap.size w wr a n c ta tn tc (some ⟨tb,0,none⟩) tc' l L' (j+1)/\L'[j]? =some m2/\m2.sa=a'/\m2.sn=m.sn/\m2.sc=c'/\m2.e=m.e) (fun v _=>m.sn-(Go.RowKit.intOf v).toNat)
   case atStart=>exact⟨0,_,_,Nat.zero_le _,rfl,hR.out,hset0.out,rfl,rfl,rfl,rfl⟩
   case round=>
    clear hR hset0
    obtain⟨k,L', m2,hk,rfl,hC,hm2,e1,e2,e3,e4⟩:=hrel
    by_cases hkl:k<m.sn
    ·have hkm:k<m.ms.length:=by rw[hml.out]; exact hkl
     have hmap:m2.ms.map (·.x)=m.ms.map (·.x):=(aO.mk.inj e4).2.2
     have hkm2:k<m2.ms.length:=by have:=congrArg List.length hmap; simp only[List.length_map] at this; omega
     have hs2:m2.ms[k]? =some m2.ms[k]:=List.getElem?_eq_getElem hkm2
     have hsx:m2.ms[k].x=m.ms[k].x:=by
      have:=congrArg (fun q=>q[k]?) hmap
      simpa [hkm,hkm2] using this
     have hsrc:=htd.out.1.below hC.bel
     obtain⟨sb,off,rfl,hsb,hcs⟩:=hsrc (by omega)
     have hg:=fun r (hr:r<3)=>hcs (k*3+r) _ ((flat_get iV.cells_len m.ms k r hkm hr).trans (List.getElem?_eq_getElem (by rw[iV.cells_len]; exact hr)))
     have s0:wr.cell? ⟨sb,off+k*3,none⟩=some (.string m.ms[k].v.name):=hg 0 (by omega)
     have s1:wr.cell? ⟨sb,off+k*3+1,none⟩=some (.slice m.ms[k].v.fa m.ms[k].v.fn m.ms[k].v.fc):=hg 1 (by omega)
     have s2:wr.cell? ⟨sb,off+k*3+2,none⟩=some (.slice m.ms[k].v.sa m.ms[k].v.sn m.ms[k].v.sc):=hg 2 (by omega)
     have hX:=(htd.out.2 m.ms[k] (List.getElem_mem hkm)).belowH hC.bel
     have hSh:=hid (hmsh.out m.ms[k] (List.getElem_mem hkm))
     rw[<-hsx] at hX hSh
     replace hs2:=hid hs2
     replace hsx:=hid hsx
     clear hg hcs hsrc hmap
     generalize m2.ms[k]=s at *
     generalize m.ms[k]=s' at *
     obtain⟨v,x'⟩:=s'
     simp only at s0 s1 s2 hX
     clear hsx
     have b8:=aA wr (.cells #[.string v.name,.slice v.fa v.fn v.fc,.slice v.sa v.sn v.sc] 84)
     have k8:aC _ wr.heap.size #[.string v.name,.slice v.fa v.fn v.fc,.slice v.sa v.sn v.sc] 84:=aB wr _ _
     have hX8:=hid (hX.below b8)
     replace b8:=hid b8
     replace k8:=hid k8
     replace hC:=hid hC
     clear hX
     go_upto_region 9 with fail
     clear s0 s1 s2
     have hz8:(wr.alloc (.cells #[.string v.name,.slice v.fa v.fn v.fc,.slice v.sa v.sn v.sc] 84)).heap.size=wr.heap.size+1:=by simp
     generalize wr.alloc (.cells #[.string v.name,.slice v.fa v.fn v.fc,.slice v.sa v.sn v.sc] 84)=w8 at *
     obtain⟨rb,hrb⟩:∃ rb,m2.sa=some ⟨rb,0,none⟩:=by
      rcases(hC.out.mine.own j m2 hm2 (by omega)).2 with⟨h0,h1⟩ | ⟨g,cap,cur,h0,_⟩
      ·omega
      ·simp only[Value.slice.injEq] at h0; exact⟨g,h0.1⟩
     obtain rfl:a'=some ⟨rb,0,none⟩:=by rw[<-e1,hrb]
     have hC8:=hC.out.below b8.out
     have hown:=hC8.mine.own j m2 hm2 (by omega)
     rw[hrb,e2,e3] at hown
     have hrow:=hC8.mine.row
     have J:Hid (∀ (w9:World) (u:cB) (lo:Nat) (mss:List aZ),Below w8.heap.size w8 w9->w8.heap.size<=lo->fQ lo (fun b=>lo<=b) w9 u s.x mss->bL3 K w.heap.size w (aT8 w9 rb (k*3) u) a n c ta tn tc (some ⟨tb,0,none⟩) tc' l (L'.set j { m2 with ms:=m2.ms.set k ⟨u,s.x⟩ }) (j+1)):=hid (fun w9 u lo mss b9 hlo hN=>hC8.lay hm2 hrb hs2.out b9 (hN.at.weaken (fun b _ q=>by omega)))
     have hjl:j<L'.length:=(List.getElem?_eq_some_iff.1 hm2).1
     have hJ2:Hid (∀ u:cB,(L'.set j { m2 with ms:=m2.ms.set k ⟨u,s.x⟩ })[j]? =some { m2 with ms:=m2.ms.set k ⟨u,s.x⟩ }/\({ m2 with ms:=m2.ms.set k ⟨u,s.x⟩ }:aY).e=m.e):=hid (fun u=>⟨List.getElem?_set_self hjl,by
      rw[<-e4]
      obtain⟨h1,h2⟩:=List.getElem?_eq_some_iff.1 hs2.out
      simp only[aY.e,aO.mk.injEq,true_and]
      rw[List.map_set]
      apply List.ext_getElem?
      intro i
      rw[List.getElem?_set]
      split
      ·rename_i e
       subst e
       simp[h1,h2]
      ·rfl⟩)
     have t2:w8.cell? ⟨tb,j*3+2,none⟩=some (.slice (some ⟨rb,0,none⟩) m.sn c'):=(hrow.cellAt (j*3+2) (by rw[<-hrow.1,lD]; omega)).trans (by
      obtain⟨h1,h2⟩:=List.getElem?_eq_some_iff.1 hm2
      have:=flat_get aY.cells_len L' j 2 h1 (by omega)
      rw[h2] at this
      rw[show eZ L'=L'.flatMap aY.cells from rfl,this]
      simp[aY.cells,hrb,e2,e3])
     have htb8:=(hrow.lt tb rfl).2
     have hrb8:=(hown.lt rb rfl).2
     have q0:=k8.out.cell 0
     have q1:=k8.out.cell 1
     have q2:=k8.out.cell 2
     simp at q0 q1 q2
     have g0:=hown.frozenAt (k*3)
     have g1:=hown.frozenAt (k*3+1)
     have g2:=hown.frozenAt (k*3+2)
     have hlk:(setCells m2.ms).length=m.sn*3:=by rw[fT]; have:=hown.1; rw[fT] at this; omega
     have r0:=hown.cellAt (k*3) (by omega)
     have r1:=hown.cellAt (k*3+1) (by omega)
     have r2:=hown.cellAt (k*3+2) (by omega)
     rw[List.getElem?_eq_getElem (by omega)] at r0 r1 r2
     generalize (setCells m2.ms)[k*3]=y0 at *
     generalize (setCells m2.ms)[k*3+1]=y1 at *
     generalize (setCells m2.ms)[k*3+2]=y2 at *
     have hk0:(0:Int)<=(k:Int):=by omega
     have hks:(k:Int)<(m.sn:Int):=by omega
     have hj0:(0:Int)<=(j:Int):=by omega
     have hjs:(j:Int)<(tn:Int):=by omega
     have hq8:=k8.out.lt
     replace e2:=hid e2
     replace e3:=hid e3
     replace e1:=hid e1
     replace e4:=hid e4
     clear hC8 hown hrow hC hm2 hlk hs2 hrb
     go_region_with (go_at_call 33; refine(aC5 (fun b=>b<w.heap.size) v s.x _ ?_ hSh.out).mono ?_; exact hX8.out.below (aD _ _); rintro e w9 ⟨⟨u,mss,lo,rfl,hlo,hN⟩,b9⟩; replace b9:Below w8.heap.size w8 w9:=(aD _ _).trans b9; replace hlo:w8.heap.size<=lo:=hlo; have t2':=(b9.cell (p:=⟨tb,j*3+2,none⟩) htb8).trans t2; have r0':=(b9.cell (p:=⟨rb,k*3,none⟩) hrb8).trans r0; have r1':=(b9.cell (p:=⟨rb,k*3+1,none⟩) hrb8).trans r1; have r2':=(b9.cell (p:=⟨rb,k*3+2,none⟩) hrb8).trans r2; have g0':=(b9.frozen (p:=⟨rb,k*3,none⟩) hrb8).trans g0; have g1':=(b9.frozen (p:=⟨rb,k*3+1,none⟩) hrb8).trans g1; have g2':=(b9.frozen (p:=⟨rb,k*3+2,none⟩) hrb8).trans g2; replace hN:=hid hN; replace b9:=hid b9)
     all_goals (
      go_wp2_with fail
      go_roundw
      case rel=>exact⟨k+1,_,_,by omega,by go_num,J.out _ _ _ _ b9.out hlo hN.out,(hJ2.out _).1,e1.out,e2.out,e3.out,(hJ2.out _).2⟩
      case measure=>simp[Go.RowKit.intOf]; omega)
    ·replace hC:=hid hC
     go_wp2_with fail
     go_roundw
     case rel=>exact⟨j+1,L', by omega,by go_num,hC.out⟩
     case measure=>simp[Go.RowKit.intOf]; omega
  ·obtain rfl:j=tn:=by omega
   have hsz:=hC.mine.sz
   have p0:=hC.box.cell 0
   simp at p0
   have hbx:=hC.box.lt
   have hstr:=hid (hst.out.below hC.bel)
   replace hC:=hid hC
   go_wp2_with fail
   refine(pE ⟨w.heap.size,0,none⟩ a n c B wr ⟨hbx,p0,hstr.out⟩ hn hF.out).mono ?_
   rintro e w9 ⟨b9,g,rfl,hg,hO⟩
   have hC9:=hC.out.below b9
   have r0:=hC9.res.cell 0
   have r1:=hC9.res.cell 1
   have g0:=hC9.res.frozen 0
   have g1:=hC9.res.frozen 1
   simp at r0 r1
   replace hC9:=hid hC9
   replace hO:=hid hO
   replace b9:=hid b9
   go_wp2_with fail
   clear r0 r1 g0 g1
   have k3:=(hC9.out.res.set 0 (.slice (some ⟨g,0,none⟩) n n)).set 1 (.slice ta' j tc')
   simp only[List.setIfInBounds_toArray,List.set_cons_succ,List.set_cons_zero] at k3
   have kk:Kept (w.heap.size+1) w9 ((w9.setCell ⟨w.heap.size+1,0,none⟩ (.slice (some ⟨g,0,none⟩) n n)).setCell ⟨w.heap.size+1,1,none⟩ (.slice ta' j tc')):=
    Kept.setCell (g:=w.heap.size+1) (Kept.setCell (g:=w.heap.size+1) (Kept.refl _ _) (p:=⟨w.heap.size+1,0,none⟩) rfl _) (p:=⟨w.heap.size+1,1,none⟩) rfl _
   have on:=Only.of_kept (M:=fun b=>b=w.heap.size+1) kk rfl
   have hlL:=hC9.out.mine.len
   have hmine:=hC9.out.mine.only on (fun b hb=>.inr ⟨by omega,fun f=>absurd f (by omega)⟩)
   refine bodyPost_ret (v:=.agg #[.slice (some ⟨g,0,none⟩) n n,.slice ta' j tc']) ?_ rfl ⟨⟨g,ta', tc', L,rfl,by omega,?_,hmine.base (by omega) (fun b f=>by omega) (by omega),hC9.out.eq,fun b hb=>?_⟩,hC9.out.bel.trans (kk.below (by omega))⟩
   ·exact results_cell_row rfl _ _ (w.heap.size+1) _ _ _ _ rfl k3 Tryz.underlying27 rfl (by kernel_rfl)
   ·exact hO.out.kept (by omega) kk
   ·have:=(hC.out.mine.ge hb).2; omega
theorem bD6 (x:aK)(v:cB)(t:ByteArray)(w:World):
 Calls Tryz.prog 67 #[.agg #[.string x.name,.slice v.fa v.fn v.fc,.slice v.sa v.sn v.sc],.string t] w fun e w'=>e=.returned (.int .i64 (Lib.compareBytes x.nm t.data.toList))/\Below w.heap.size w w':=by
 have b0:=aA w (.cells (Value.cells (.agg #[.string x.name,.slice v.fa v.fn v.fc,.slice v.sa v.sn v.sc])) 84)
 go_enter Tryz.func67,Tryz.ntmps67
 go_wp2_with fail
 refine(qO x.name t _).mono ?_
 rintro e w1 ⟨rfl,rfl⟩
 go_wp2_with fail
 go_ret
 exact⟨rfl,b0⟩
theorem aS7 (Q:Nat->Prop)(a:Option Addr)(n c:Nat)(l:List aK)(t:ByteArray)(w:World)(hn:n<=1000)(h:fP Q w a n l)(ho:l.Pairwise fun a b=>a.nm<b.nm):
 Calls Tryz.prog 66 #[.slice a n c,.string t,.func (.func 67) #[] #[]] w fun e w'=>bL7 aK.nm l t.data.toList e/\Below w.heap.size w w':=by
 have hl:=hid h.1
 replace h:=hid h
 replace ho:=hid ho
 go_enter Tryz.func66,Tryz.ntmps66
 go_wp2_with fail
 go_loopw [9,10] (fun u v wr=>∃ i j:Nat,i<=j/\j<=n/\u=.int .i64 i/\v=.int .i64 j/\Below w.heap.size w wr/\(∀ x∈l.take i,x.nm<t.data.toList)/\∀ x∈l.drop j,¬x.nm<t.data.toList) (fun u v _=>(Go.RowKit.intOf v).toNat-(Go.RowKit.intOf u).toNat)
 case atStart=>exact⟨0,n,Nat.zero_le _,Nat.le_refl _,rfl,rfl,Below.refl _ _,by simp,by rw[List.drop_of_length_le (by rw[hl.out]; exact Nat.le_refl _)]; simp⟩
 case round=>
  obtain⟨i,j,hij,hjn,rfl,rfl,hbel,h1,h2⟩:=hrel
  replace h1:=hid h1
  replace h2:=hid h2
  by_cases hlt:i<j
  ·obtain⟨m,hm⟩:∃ m:Nat,m=(i+j) / 2:=⟨_,rfl⟩
   have hm':((i:Int)+(j:Int)) / 2=(m:Int):=by omega
   have hmi:i<=m/\m<j:=by omega
   clear hm
   have hml:m<l.length:=by rw[hl.out]; omega
   have h':=h.out.below hbel
   obtain⟨b,off,rfl⟩:∃ b off,a=some ⟨b,off,none⟩:=by
    obtain⟨b,off,e,_⟩:=h'.2 (by omega)
    exact⟨b,off,e⟩
   have hx:l[m]? =some (l.getD m aK.zero):=by rw[List.getElem?_eq_getElem hml]; simp[List.getD,hml]
   obtain⟨v,hE⟩:=h'.set (i:=m) (by omega)
   have c2:=hE.c2
   have c0:=hE.c0
   rw[hE.ok.name] at c0
   have c1:=hE.c1
   replace hx:=hid hx
   clear hE h'
   generalize l.getD m aK.zero=x at *
   go_wp2_with fail
   refine(bD6 x v t wr).mono ?_
   rintro e w1 ⟨rfl,b1⟩
   clear c0 c1 c2
   have hL:=tJ ho.out (t:=t.data.toList) hx.out
   have hR:=qK ho.out (t:=t.data.toList) hx.out
   rw[<-bK3] at hL hR
   generalize Lib.compareBytes x.nm t.data.toList=r at *
   replace hL:=hid hL
   replace hR:=hid hR
   replace hbel:=Below.tr hbel b1
   by_cases hr:r<0
   ·have hr':decide (r<0)=true:=by simp[hr]
    go_wp2_with fail
    go_roundw
    case rel=>exact⟨m+1,j,by omega,hjn,by go_num,rfl,hbel,hL.out hr,h2.out⟩
    case measure=>simp[Go.RowKit.intOf]; omega
   ·have hr':decide (r<0)=false:=by simp[hr]
    go_wp2_with fail
    go_roundw
    case rel=>exact⟨i,m,hmi.1,by omega,rfl,rfl,hbel,h1.out,hR.out hr⟩
    case measure=>simp[Go.RowKit.intOf]; omega
  ·obtain rfl:i=j:=by omega
   by_cases hin:i<n
   ·have hml:i<l.length:=by rw[hl.out]; omega
    have h':=h.out.below hbel
    obtain⟨b,off,rfl⟩:∃ b off,a=some ⟨b,off,none⟩:=by
     obtain⟨b,off,e,_⟩:=h'.2 (by omega)
     exact⟨b,off,e⟩
    have hx:l[i]? =some (l.getD i aK.zero):=by rw[List.getElem?_eq_getElem hml]; simp[List.getD,hml]
    obtain⟨v,hE⟩:=h'.set (i:=i) (by omega)
    have c2:=hE.c2
    have c0:=hE.c0
    rw[hE.ok.name] at c0
    have c1:=hE.c1
    replace hx:=hid hx
    clear hE h'
    generalize l.getD i aK.zero=x at *
    go_wp2_with fail
    refine(bD6 x v t wr).mono ?_
    rintro e w1 ⟨rfl,b1⟩
    clear c0 c1 c2
    have hq:=bK4 x.nm t.data.toList
    generalize Lib.compareBytes x.nm t.data.toList=r at *
    have J:Hid (bL7 aK.nm l t.data.toList (.returned (.tuple #[.int .i64 i,.bool (r == 0)]))):=hid ⟨i,_,rfl,by rw[hl.out]; exact hjn,h1.out,h2.out,by
     rw[hx.out,beq_iff_eq,hq]
     constructor
     ·intro h; exact⟨x,rfl,h⟩
     ·rintro⟨y,e,h⟩; cases e; exact h⟩
    replace hbel:=Below.tr hbel b1
    clear hq
    go_wp2_with fail
    go_ret2
    exact⟨J.out,hbel⟩
   ·have J:Hid (bL7 aK.nm l t.data.toList (.returned (.tuple #[.int .i64 i,.bool false]))):=hid ⟨i,_,rfl,by rw[hl.out]; exact hjn,h1.out,h2.out,by
     rw[List.getElem?_eq_none (by rw[hl.out]; omega)]
     simp⟩
    go_wp2_with fail
    go_ret2
    exact⟨J.out,hbel⟩
theorem aO5 (Q:Nat->Prop)(a:Option Addr)(n c:Nat)(l:List aK)(t:ByteArray)(w:World)(hn:n<=1000)(h:fP Q w a n l)(ho:l.Pairwise fun a b=>a.nm<b.nm):
 Calls Tryz.prog 36 #[.slice a n c,.string t] w fun e w'=>bL7 aK.nm l t.data.toList e/\Below w.heap.size w w':=by
 go_enter Tryz.func36,Tryz.ntmps36
 go_wp2_with fail
 refine(aS7 Q a n c l t w hn h ho).mono ?_
 rintro e w1 ⟨⟨p,b,rfl,hF⟩,b1⟩
 replace hF:=hid hF
 go_wp2_with fail
 go_ret2
 exact⟨⟨p,b,rfl,hF.out⟩,b1⟩
end Go.Proofs.YtjafgnohlkkopaaGreatDoor
