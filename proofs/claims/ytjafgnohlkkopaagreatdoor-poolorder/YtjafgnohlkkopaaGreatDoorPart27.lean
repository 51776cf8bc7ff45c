import Derived.Test.YtjafgnohlkkopaaGreatDoorPart26
import Derived.Test.YtjafgnohlkkopaaGreatDoorPart15
import Derived.Test.YtjafgnohlkkopaaGreatDoorPart24
import Derived.Test.YtjafgnohlkkopaaGreatDoorPart02
import Derived.Deep.RegionHeld3
set_option linter.unusedVariables false
set_option maxHeartbeats 8000000
set_option maxRecDepth 100000
namespace Go.Proofs.YtjafgnohlkkopaaGreatDoor
open Go.RowKit
structure PSt (H:Nat)(X:Nat->Prop)(w:World)(ob g n:Nat)(B:Nat->Blk)(ta:Option Addr)(tn tc:Nat)(L:List aY):Prop where
 box:aC w ob #[.slice (some ⟨g,0,none⟩) n n,.slice ta tn tc] 27
 lt:g<w.heap.size
 blocks:dO (fun b=>g<b/\¬fD (.slice ta tn tc) L tn b/\¬X b) w g 0 n B
 free:∀ i,i<n*4->w.frozen? ⟨g,i,none⟩=false
 gno:¬fD (.slice ta tn tc) L tn g/\¬X g
 mine:iH H X w ta tn tc L tn
 hob:H<=ob
 hx:X ob
theorem PSt.own {H:Nat}{X:Nat->Prop}{w:World}{ob g n:Nat}{B:Nat->Blk}{ta:Option Addr}{tn tc:Nat}{L:List aY}(h:PSt H X w ob g n B ta tn tc L):Own w g n B:=⟨h.lt,h.blocks.weaken (fun b _ q=>q.1),h.free⟩
theorem PSt.below {H:Nat}{X:Nat->Prop}{w w':World}{ob g n:Nat}{B:Nat->Blk}{ta:Option Addr}{tn tc:Nat}{L:List aY}(h:PSt H X w ob g n B ta tn tc L)(b:Below w.heap.size w w'):PSt H X w' ob g n B ta tn tc L:=
 ⟨h.box.below b,Nat.lt_of_lt_of_le h.lt b.size,h.blocks.below b,(h.own.below b).free,h.gno,h.mine.below b,h.hob,h.hx⟩
theorem PSt.ptr {H:Nat}{X:Nat->Prop}{w:World}{ob g n:Nat}{B:Nat->Blk}{ta:Option Addr}{tn tc:Nat}{L:List aY}(h:PSt H X w ob g n B ta tn tc L):kU w ⟨ob,0,none⟩ (some ⟨g,0,none⟩) n n B:=⟨h.box.lt,by have:=h.box.cell 0; simpa using this,h.own.store⟩
theorem PSt.step {H:Nat}{X:Nat->Prop}{w w':World}{ob g n:Nat}{B:Nat->Blk}{ta:Option Addr}{tn tc:Nat}{L L':List aY}{M:Nat->Prop}(h:PSt H X w ob g n B ta tn tc L)(on:Only M w w')(hM:∀ b,M b->fD (.slice ta tn tc) L tn b)(hm:iH H X w' ta tn tc L' tn)(hR:∀ b,fD (.slice ta tn tc) L' tn b->fD (.slice ta tn tc) L tn b\/w.heap.size<=b):PSt H X w' ob g n B ta tn tc L':=by
 have hg:¬M g:=fun f=>h.gno.1 (hM g f)
 refine⟨on.cells h.box (fun f=>h.mine.rx ob (hM ob f) h.hx),Nat.lt_of_lt_of_le h.lt on.size,?_,fun i hi=>?_,⟨fun f=>?_,h.gno.2⟩,hm,h.hob,h.hx⟩
 ·refine(on.blocks (h.blocks.weaken (R:=fun b=>(g<b/\¬fD (.slice ta tn tc) L tn b/\¬X b)/\b<w.heap.size) (fun b hb q=>⟨q,hb⟩)) hg h.lt (fun b q f=>q.1.2.1 (hM b f))).weaken (fun b _ q=>⟨q.1.1,fun f=>?_,q.1.2.2⟩)
  rcases hR b f with f | f
  ·exact q.1.2.1 f
  ·have:=q.2; omega
 ·rw[World.frozen?_of_block (w:=w) (on.block g h.lt hg)]
  exact h.free i hi
 ·rcases hR g f with f | f
  ·exact h.gno.1 f
  ·have:=h.lt; omega
theorem PSt.swap {H:Nat}{X:Nat->Prop}{w w7:World}{ob g n g':Nat}{B C:Nat->Blk}{ta:Option Addr}{tn tc:Nat}{L:List aY}(h:PSt H X w ob g n B ta tn tc L)(b7:Below w.heap.size w w7)(hO:Own w7 g' n C)(hg:w.heap.size<=g'):PSt H X (w7.setCell ⟨ob,0,none⟩ (.slice (some ⟨g', 0,none⟩) n n)) ob g' n C ta tn tc L:=by
 have h7:=h.below b7
 have kk:Kept ob w7 (w7.setCell ⟨ob,0,none⟩ (.slice (some ⟨g', 0,none⟩) n n)):=Kept.setCell (g:=ob) (Kept.refl _ _) (p:=⟨ob,0,none⟩) rfl _
 have hob:=h.box.lt
 have hO':=hO.kept (by omega) kk
 have hlen:=h.mine.len
 have k:=h7.box.set 0 (.slice (some ⟨g', 0,none⟩) n n)
 simp only[List.setIfInBounds_toArray,List.set_cons_zero] at k
 refine⟨k,hO'.lt,hO'.blocks.weaken (fun b _ q=>⟨q,fun f=>?_,fun x=>by have:=h.mine.xlt b x; omega⟩),hO'.free,⟨fun f=>?_,fun x=>by have:=h.mine.xlt _ x; omega⟩,h7.mine.only (Only.of_kept (M:=fun b=>b=ob) kk rfl) (fun b e=>.inr ⟨e▸h.hx,fun f=>absurd f (by omega)⟩),h.hob,h.hx⟩
 ·have:=(h.mine.ge f).2; omega
 ·have:=(h.mine.ge f).2; omega
theorem PSt.ten {H:Nat}{X:Nat->Prop}{w:World}{ob g n:Nat}{B:Nat->Blk}{tb tn tc:Nat}{L:List aY}(h:PSt H X w ob g n B (some ⟨tb,0,none⟩) tn tc L){i:Nat}{m:aY}(hm:L[i]? =some m):w.cell? ⟨tb,i*3,none⟩=some (.int .i64 m.key)/\w.cell? ⟨tb,i*3+1,none⟩=some (.int .i64 m.quota)/\w.cell? ⟨tb,i*3+2,none⟩=some (.slice m.sa m.sn m.sc)/\w.frozen? ⟨tb,i*3+2,none⟩=false/\tb<w.heap.size:=by
 obtain⟨hi,rfl⟩:=List.getElem?_eq_some_iff.1 hm
 have hl:=h.mine.len
 exact⟨(h.mine.row.cellAt (i*3) (by omega)).trans (flat_get aY.cells_len L i 0 hi (by omega)),(h.mine.row.cellAt (i*3+1) (by omega)).trans (flat_get aY.cells_len L i 1 hi (by omega)),(h.mine.row.cellAt (i*3+2) (by omega)).trans (flat_get aY.cells_len L i 2 hi (by omega)),h.mine.row.frozenAt _,(h.mine.row.lt tb rfl).2⟩
theorem PSt.sets {H:Nat}{X:Nat->Prop}{w:World}{ob g n:Nat}{B:Nat->Blk}{ta:Option Addr}{tn tc:Nat}{L:List aY}(h:PSt H X w ob g n B ta tn tc L){i:Nat}{m:aY}(hm:L[i]? =some m):fP (fun _=>True) w m.sa m.sn (m.ms.map (·.x)):=by
 obtain⟨hi,hmi⟩:=List.getElem?_eq_some_iff.1 hm
 have hl:=h.mine.len
 exact(aZ4 (fun s hs=>h.mine.lists m (List.mem_of_getElem? hm) s hs) (h.mine.own i m hm (by omega))).weaken (fun _ _ _=>trivial)
theorem PSt.put {H:Nat}{X:Nat->Prop}{w w7:World}{ob g n:Nat}{B:Nat->Blk}{tb tn tc:Nat}{L:List aY}{i:Nat}{m:aY}{a':Option Addr}{n' c':Nat}{ms':List iV}(h:PSt H X w ob g n B (some ⟨tb,0,none⟩) tn tc L)(hm:L[i]? =some m)
 (on:Only (fun b=>(Value.slice m.sa m.sn m.sc).ownBlock=some b) w w7) (ho:w7.ownsRow H 84 3 (.slice a' n' c') n' (setCells ms'))
 (hb:∀ b,(Value.slice a' n' c').ownBlock=some b->(Value.slice m.sa m.sn m.sc).ownBlock=some b\/w.heap.size<=b)
 (hnew:∀ s∈ms', s∈m.ms\/dK (fun b=>¬fD (.slice (some ⟨tb,0,none⟩) tn tc) L tn b/\¬X b) w s.v s.x\/dK (fun b=>w.heap.size<=b/\(Value.slice a' n' c').ownBlock≠some b) w7 s.v s.x):
 PSt H X (w7.setCell ⟨tb,i*3+2,none⟩ (.slice a' n' c')) ob g n B (some ⟨tb,0,none⟩) tn tc (L.set i { m with sa:=a', sn:=n', sc:=c', ms:=ms' }):=by
 obtain⟨hi,hmi⟩:=List.getElem?_eq_some_iff.1 hm
 have hl:=h.mine.len
 have hin:i<tn:=by omega
 have htop:=h.mine.top i m hm hin
 have htb:=h.mine.row.lt tb rfl
 have kk:Kept tb w7 (w7.setCell ⟨tb,i*3+2,none⟩ (.slice a' n' c')):=Kept.setCell (g:=tb) (Kept.refl _ _) (p:=⟨tb,i*3+2,none⟩) rfl _
 have onk:=Only.of_kept (M:=fun b=>b=tb) kk rfl
 have on2:Only (fun b=>b=tb\/(Value.slice m.sa m.sn m.sc).ownBlock=some b) w (w7.setCell ⟨tb,i*3+2,none⟩ (.slice a' n' c')):=(on.mono (fun b _ q=>.inr q)).trans (onk.mono (fun b _ q=>.inl q))
 have hne:∀ b,(Value.slice a' n' c').ownBlock=some b->b≠tb:=fun b f e=>by
  subst e
  rcases hb b f with f | f
  ·exact htop b f rfl
  ·omega
 have hmine:=h.mine.step (w':=w7.setCell ⟨tb,i*3+2,none⟩ (.slice a' n' c')) (m':={ m with sa:=a', sn:=n', sc:=c', ms:=ms' }) hm (.inl ⟨hin,rfl⟩) on2 (fun b q=>by
  rcases q with q | q
  ·subst q; exact .inl rfl
  ·exact .inr ⟨hin,q⟩) (by
  have h1:=((on.row h.mine.row (fun b hb f=>htop b f hb)).stored (i*3+2) (.slice a' n' c')).1
  have h2:(eZ L).set (i*3+2) (.slice a' n' c')=eZ (L.set i { m with sa:=a', sn:=n', sc:=c', ms:=ms' }):=jS aY.cells_len L i 2 { m with sa:=a', sn:=n', sc:=c', ms:=ms' } _ hi (by omega) (by rw[hmi]; rfl)
  rw[<-h2]
  exact h1) (onk.row ho (fun b f e=>hne b f e)) (fun b f=>by
  rcases hb b f with f | f
  ·exact .inl ⟨hin,f⟩
  ·exact .inr f) (fun s hs=>by
  rcases hnew s hs with f | f | f
  ·exact .inl f
  ·exact .inr (.inl f)
  ·exact .inr (.inr (onk.setAt f (fun b q e=>by subst e; have:=q.1; omega)))) ⟨rfl,rfl⟩
 refine h.step on2 (fun b q=>?_) hmine (fun b f=>?_)
 ·rcases q with q | q
  ·subst q; exact .inl rfl
  ·exact .inr ⟨i,m,hin,hm,q⟩
 ·rcases f with f | ⟨k,u,hk,hu,f⟩
  ·exact .inl (.inl f)
  ·by_cases e:k=i
   ·subst e
    rw[List.getElem?_set_self hi] at hu
    cases hu
    rcases hb b f with f | f
    ·exact .inl (.inr ⟨k,m,hk,hm,f⟩)
    ·exact .inr f
   ·rw[List.getElem?_set_ne (fun f=>e f.symm)] at hu
    exact .inl (.inr ⟨k,u,hk,hu,f⟩)
theorem PSt.lay {H:Nat}{X:Nat->Prop}{w w7:World}{ob g n:Nat}{B:Nat->Blk}{ta:Option Addr}{tn tc:Nat}{L:List aY}{i k rb:Nat}{m:aY}{u:cB}{x:aK}(h:PSt H X w ob g n B ta tn tc L)(hm:L[i]? =some m)(ha:m.sa=some ⟨rb,0,none⟩)(hk:k<m.ms.length)(b7:Below w.heap.size w w7)(hX:dK (fun b=>w.heap.size<=b) w7 u x):
 PSt H X (aT8 w7 rb (k*3) u) ob g n B ta tn tc (L.set i { m with ms:=m.ms.set k ⟨u,x⟩ }):=by
 obtain⟨hi,hmi⟩:=List.getElem?_eq_some_iff.1 hm
 have hl:=h.mine.len
 have hin:i<tn:=by omega
 have on:Only (fun b=>b=rb) w (aT8 w7 rb (k*3) u):=(Only.of_below b7).trans (Only.of_kept (nY w7 rb (k*3) u) rfl)
 refine h.step on (fun b e=>.inr ⟨i,m,hin,hm,by subst e; rw[ha]; rfl⟩) (h.mine.lay hm hin ha hk b7 hX) (fun b f=>.inl ?_)
 rcases f with f | ⟨q,v,hq,hv,f⟩
 ·exact .inl f
 ·by_cases e:q=i
  ·subst e
   rw[List.getElem?_set_self hi] at hv
   cases hv
   exact .inr ⟨q,m,hq,hm,f⟩
  ·rw[List.getElem?_set_ne (fun f=>e f.symm)] at hv
   exact .inr ⟨q,v,hq,hv,f⟩
theorem PSt.kept {H:Nat}{X:Nat->Prop}{w w':World}{ob g n q:Nat}{B:Nat->Blk}{ta:Option Addr}{tn tc:Nat}{L:List aY}(h:PSt H X w ob g n B ta tn tc L)(kk:Kept q w w')(hq:X q)(hne:q≠ob):PSt H X w' ob g n B ta tn tc L:=by
 have on:=Only.of_kept (M:=fun b=>b=q) kk rfl
 have hlen:=h.mine.len
 have hg:g≠q:=fun e=>h.gno.2 (e▸hq)
 refine⟨on.cells h.box (fun e=>hne e.symm),Nat.lt_of_lt_of_le h.lt on.size,on.blocks h.blocks hg h.lt (fun b qb e=>qb.2.2 (e▸hq)),fun i hi=>?_,h.gno,h.mine.only on (fun b e=>.inr ⟨e▸hq,fun f=>absurd f (by omega)⟩),h.hob,h.hx⟩
 rw[World.frozen?_of_block (w:=w) (on.block g h.lt hg)]
 exact h.free i hi
theorem PSt.clear {H:Nat}{X Y:Nat->Prop}{w w':World}{ob g n:Nat}{B:Nat->Blk}{ta:Option Addr}{tn tc:Nat}{L:List aY}(h:PSt H X w ob g n B ta tn tc L)(hb:Below w.heap.size w w')(hY:∀ b,Y b->X b\/(w.heap.size<=b/\b<w'.heap.size))(hy:Y ob):PSt H Y w' ob g n B ta tn tc L:=by
 have h1:=h.below hb
 refine⟨h1.box,h1.lt,?_,h1.free,⟨h1.gno.1,fun y=>?_⟩,h.mine.clear hb hY,h.hob,hy⟩
 ·have hw:dO (fun b=>(g<b/\¬fD (.slice ta tn tc) L tn b/\¬X b)/\b<w.heap.size) w g 0 n B:=h.blocks.weaken (fun b hb q=>⟨q,hb⟩)
  exact(hw.below hb).weaken (fun b _ q=>⟨q.1.1,q.1.2.1,fun y=>by
   rcases hY b y with f | f
   ·exact q.1.2.2 f
   ·have:=q.2; omega⟩)
 ·rcases hY g y with f | f
  ·exact h.gno.2 f
  ·have:=h.lt; omega
theorem wP (l:List iV)(i:Nat)(x:iV):(setCells l).take (i*3)++(x.cells++(setCells l).drop (i*3))=setCells (l.take i++x::l.drop i):=by
 unfold setCells
 rw[kI iV.cells_len,kJ iV.cells_len,qL]
theorem zD (l:List iV)(i:Nat):(setCells l).take (i*3)++(setCells l).drop ((i+1)*3)=setCells (l.eraseIdx i):=by
 unfold setCells
 rw[kI iV.cells_len,kJ iV.cells_len,tK]
theorem bA1 {t:Value}{L:List aY}{i tn K:Nat}{m m':aY}(hm:L[i]? =some m)(hb:∀ b,(Value.slice m'.sa m'.sn m'.sc).ownBlock=some b->(Value.slice m.sa m.sn m.sc).ownBlock=some b\/K<=b):∀ b,fD t (L.set i m') tn b->fD t L tn b\/K<=b:=fun b f=>by
 obtain⟨hi,_⟩:=List.getElem?_eq_some_iff.1 hm
 rcases f with f | ⟨k,u,hk,hu,f⟩
 ·exact .inl (.inl f)
 ·by_cases e:k=i
  ·subst e
   rw[List.getElem?_set_self hi] at hu
   cases hu
   rcases hb b f with f | f
   ·exact .inl (.inr ⟨k,m,hk,hm,f⟩)
   ·exact .inr f
  ·rw[List.getElem?_set_ne (fun f=>e f.symm)] at hu
   exact .inl (.inr ⟨k,u,hk,hu,f⟩)
theorem aS5 (H:Nat)(X:Nat->Prop)(ob g n:Nat)(B:Nat->Blk)(tb tn tc:Nat)(L:List aY)(i:Nat)(m:aY)(v:cB)(x:aK)(p:Nat)(w:World)(h:PSt H X w ob g n B (some ⟨tb,0,none⟩) tn tc L)(hm:L[i]? =some m)(hp:p<=m.sn)(h3:m.sn<=3)(hX:dK (fun b=>¬fD (.slice (some ⟨tb,0,none⟩) tn tc) L tn b/\¬X b) w v x):
 Calls Tryz.prog 65 #[.slice m.sa m.sn m.sc,.int .i64 p,.slice (some ⟨w.heap.size,0,none⟩) 1 1] (w.alloc (.cells #[.string v.name,.slice v.fa v.fn v.fc,.slice v.sa v.sn v.sc] 84)).drew fun e w'=>
  ∃ a' c', e=.returned (.slice a' (m.sn+1) c')/\w'.cell? ⟨tb,i*3+2,none⟩=some (.slice m.sa m.sn m.sc)/\w'.frozen? ⟨tb,i*3+2,none⟩=false/\tb<w'.heap.size/\
   PSt H X (w'.setCell ⟨tb,i*3+2,none⟩ (.slice a' (m.sn+1) c')) ob g n B (some ⟨tb,0,none⟩) tn tc (L.set i { m with sa:=a', sn:=m.sn+1,sc:=c', ms:=m.ms.take p++⟨v,x⟩::m.ms.drop p })/\Below H w (w'.setCell ⟨tb,i*3+2,none⟩ (.slice a' (m.sn+1) c'))/\Only (fD (.slice (some ⟨tb,0,none⟩) tn tc) L tn) w (w'.setCell ⟨tb,i*3+2,none⟩ (.slice a' (m.sn+1) c'))/\∀ b,fD (.slice (some ⟨tb,0,none⟩) tn tc) (L.set i { m with sa:=a', sn:=m.sn+1,sc:=c', ms:=m.ms.take p++⟨v,x⟩::m.ms.drop p }) tn b->fD (.slice (some ⟨tb,0,none⟩) tn tc) L tn b\/w.heap.size<=b:=by
 have ba:Below w.heap.size w (w.alloc (.cells #[.string v.name,.slice v.fa v.fn v.fc,.slice v.sa v.sn v.sc] 84)).drew:=(aA w _).trans (aD _ _)
 have kv:aC (w.alloc (.cells #[.string v.name,.slice v.fa v.fn v.fc,.slice v.sa v.sn v.sc] 84)).drew w.heap.size #[.string v.name,.slice v.fa v.fn v.fc,.slice v.sa v.sn v.sc] 84:=(aB w _ _).below (aD _ _)
 obtain⟨hi,hmi⟩:=List.getElem?_eq_some_iff.1 hm
 have hl:=h.mine.len
 have hin:i<tn:=by omega
 have hown:=h.mine.own i m hm hin
 have hlt:=hown.lt
 have hsz:=h.mine.sz
 have hba:=ba.size
 refine(aU8 m.sa m.sn m.sc p w.heap.size 1 1 H (setCells m.ms) (iV.cells ⟨v,x⟩) 84 _ hp (by omega) (by omega) (bY hown ba) (by omega) kv rfl (fun e=>by have:=(hlt _ e).2; omega) (setCells_one _) (iV.cells_one ⟨v,x⟩)).mono ?_
 rintro e w' ⟨a', c', rfl,ho,on,hat⟩
 rw[wP] at ho
 have hon:Only (fun b=>(Value.slice m.sa m.sn m.sc).ownBlock=some b) w w':=(Only.of_below ba).trans on
 have ht:=h.ten hm
 have htop:=h.mine.top i m hm hin
 have hnt:¬(Value.slice m.sa m.sn m.sc).ownBlock=some tb:=fun f=>htop tb f rfl
 have kk:Kept tb w' (w'.setCell ⟨tb,i*3+2,none⟩ (.slice a' (m.sn+1) c')):=Kept.setCell (g:=tb) (Kept.refl _ _) (p:=⟨tb,i*3+2,none⟩) rfl _
 have htb:=(h.mine.row.lt tb rfl)
 have hbk:∀ b,(Value.slice a' (m.sn+1) c').ownBlock=some b->(Value.slice m.sa m.sn m.sc).ownBlock=some b\/w.heap.size<=b:=fun b hb=>by
  rcases hat with h | h
  ·exact .inl (h▸hb)
  ·rw[h] at hb
   simp only[Option.some.injEq] at hb
   exact .inr (by omega)
 refine⟨a', c', rfl,(hon.cell (p:=⟨tb,i*3+2,none⟩) ht.2.2.2.2 hnt).trans ht.2.2.1,?_,Nat.lt_of_lt_of_le htb.2 hon.size,h.put hm hon ho hbk (fun s hs=>?_),(hon.below (fun b hb=>(hlt b hb).1) hsz).trans (kk.below htb.1),(hon.mono (fun b _ q=>.inr ⟨i,m,hin,hm,q⟩)).trans (Only.of_kept kk (.inl rfl)),bA1 hm hbk⟩
 ·rw[World.frozen?_of_block (w:=w) (hon.block tb htb.2 hnt)]
  exact ht.2.2.2.1
 ·rcases mem_insert.1 hs with rfl | hs
  ·exact .inr (.inl hX)
  ·exact .inl hs
def vF (l:List aK)(nm:ByteArray)(e':Int):Prop:=(e'=1/\¬aM nm)\/(e'=6/\aM nm/\∃ x∈l,x.nm=nm.data.toList)\/(e'=2/\aM nm/\(¬∃ x∈l,x.nm=nm.data.toList)/\l.length=3)
def cS1 (H:Nat)(X:Nat->Prop)(w:World)(ob g n:Nat)(B:Nat->Blk)(tb tn tc:Nat)(L:List aY)(i:Nat)(m:aY)(v:cB)(x:aK)(e:Ending)(w':World):Prop:=
 (∃ e':Int,e=.returned (.int .i64 e')/\e'≠0/\Below w.heap.size w w'/\vF (m.ms.map (·.x)) x.name e')\/
 (e=.returned (.int .i64 0)/\aM x.name/\m.sn<3/\Below H w w'/\∃ a' c' p,Found aK.nm (m.ms.map (·.x)) x.nm p false/\PSt H X w' ob g n B (some ⟨tb,0,none⟩) tn tc (L.set i { m with sa:=a', sn:=m.sn+1,sc:=c', ms:=m.ms.take p++⟨v,x⟩::m.ms.drop p })/\Only (fD (.slice (some ⟨tb,0,none⟩) tn tc) L tn) w w'/\∀ b,fD (.slice (some ⟨tb,0,none⟩) tn tc) (L.set i { m with sa:=a', sn:=m.sn+1,sc:=c', ms:=m.ms.take p++⟨v,x⟩::m.ms.drop p }) tn b->fD (.slice (some ⟨tb,0,none⟩) tn tc) L tn b\/w.heap.size<=b)
theorem xA (H:Nat)(X:Nat->Prop)(ob g n:Nat)(B:Nat->Blk)(tb tn tc:Nat)(L:List aY)(i:Nat)(m:aY)(v:cB)(x:aK)(w:World)(h:PSt H X w ob g n B (some ⟨tb,0,none⟩) tn tc L)(hm:L[i]? =some m)(ho:(m.ms.map (·.x)).Pairwise fun a b=>a.nm<b.nm)(h3:m.sn<=3)(hX:dK (fun b=>¬fD (.slice (some ⟨tb,0,none⟩) tn tc) L tn b/\¬X b) w v x):
 Calls Tryz.prog 35 #[.pointer (some ⟨tb,i*3,none⟩),.agg #[.string v.name,.slice v.fa v.fn v.fc,.slice v.sa v.sn v.sc]] w fun e w'=>cS1 H X w ob g n B tb tn tc L i m v x e w':=by
 have hnm:=hid hX.name
 have hsm:v.name.size<=maxLen:=by rw[hX.name]; exact hX.small
 have b0:=aA w (.cells #[.string v.name,.slice v.fa v.fn v.fc,.slice v.sa v.sn v.sc] 84)
 have k0:aC _ w.heap.size #[.string v.name,.slice v.fa v.fn v.fc,.slice v.sa v.sn v.sc] 84:=aB w _ _
 have hsz:=h.mine.sz
 have h0:=hid (h.below b0)
 have hX0:=hid (hX.below b0)
 replace k0:=hid k0
 replace b0:=hid b0
 replace ho:=hid ho
 replace hm:=hid hm
 clear h hX
 go_enter Tryz.func35,Tryz.ntmps35
 go_upto_region 1 with fail
 generalize w.alloc (.cells #[.string v.name,.slice v.fa v.fn v.fc,.slice v.sa v.sn v.sc] 84)=w0 at *
 have q0:=k0.out.cell 0
 simp at q0
 go_wp2_with fail
 refine(iO v.name w0 hsm).mono ?_
 rintro e w1 ⟨⟨t,rfl,ht⟩,rfl⟩
 replace ht:=hid ht
 cases t
 ·go_wp2_with fail
  go_ret
  exact .inl ⟨1,rfl,by decide,b0.out,.inl ⟨rfl,fun f=>by have:=ht.out.2 (by rw[hnm.out]; exact f); cases this⟩⟩
 ·have hok:Hid (aM x.name):=hid (by rw[<-hnm.out]; exact ht.out.1 rfl)
  have ht0:=h0.out.ten hm.out
  obtain⟨t0,t1,t2,tf,htb⟩:=ht0
  have hk0:=k0.out.lt
  go_upto_region 3 with fail
  go_region_held3 (fun w'=>w'.cell? ⟨tb,i*3+2,none⟩=some (.slice m.sa m.sn m.sc)/\w'.cell? ⟨w.heap.size,0,none⟩=some (.string v.name)) (first | go_keep | assumption) (first | (go_at_call 36; refine Calls.mono (aO5 (fun _=>True) m.sa m.sn m.sc (m.ms.map (·.x)) v.name _ (by omega) ((h0.out.sets hm.out).below (aD _ _)) ho.out) ?_; rintro e w2 ⟨⟨p,b,rfl,hF⟩,b2⟩; replace b2:Below w1.heap.size w1 w2:=(aD _ _).trans b2; have y2:=(b2.cell (p:=⟨tb,i*3+2,none⟩) htb).trans t2; have a3:=(b2.cell (p:=⟨w.heap.size,0,none⟩) hk0).trans q0; replace hF:=hid hF))
  clear q0 t0 t1 t2 tf
  have b02:=hid (Below.tr b0.out b2)
  have h2:=hid (h0.out.below b2)
  have hX2:=hid (hX0.out.below b2)
  have k2:=hid (k0.out.below b2)
  clear b2 h0 hX0 k0 htb hk0 b0 a3 y2
  have hpl:p<=m.sn:=by
   have h5:=hF.out.le
   have h6:=(h2.out.sets hm.out).1
   omega
  cases b
  ·have ht2:=h2.out.ten hm.out
   obtain⟨t0,t1,t2,tf,htb⟩:=ht2
   by_cases h3':m.sn=3
   ·have h3i:((m.sn:Int) == 3)=true:=by simp[h3']
    go_wp2_with fail
    go_ret
    exact .inl ⟨2,rfl,by decide,b02.out,.inr (.inr ⟨rfl,hok.out,fun f=>(by have:=(dI ho.out hF.out).2 (by rw[hnm.out]; exact f); cases this),(h2.out.sets hm.out).1.trans h3'⟩)⟩
   ·have h3i:((m.sn:Int) == 3)=false:=by
     have:(m.sn:Int)≠3:=by omega
     simpa using this
    have hlt3:m.sn<3:=by omega
    clear h3'
    go_upto_region 8 with fail
    have q0:=k2.out.cell 0
    have q1:=k2.out.cell 1
    have q2:=k2.out.cell 2
    simp at q0 q1 q2
    clear t0 t1 h3i
    go_region_with (go_at_call 65; refine(aS5 H X ob g n B tb tn tc L i m v x p w2 h2.out hm.out hpl h3 hX2.out).mono ?_; rintro e w7 ⟨a', c', rfl,s1,s2,s3,hfin⟩; replace hfin:=hid hfin)
    all_goals (
     go_wp2_with fail
     go_ret
     exact .inr ⟨rfl,hok.out,hlt3,(b02.out.mono hsz).trans hfin.out.2.1,a', c', p,by rw[show x.nm=v.name.data.toList by unfold aK.nm; rw[hnm.out]]; exact hF.out,hfin.out.1,(Only.of_below b02.out).trans hfin.out.2.2.1,fun b f=>(hfin.out.2.2.2 b f).imp id (fun q=>Nat.le_trans b02.out.size q)⟩)
  ·go_wp2_with fail
   go_ret
   exact .inl ⟨6,rfl,by decide,b02.out,.inr (.inl ⟨rfl,hok.out,by rw[<-hnm.out]; exact(dI ho.out hF.out).1 rfl⟩)⟩
def cV3 (base:Nat)(e:Ending)(w:World)(n:Nat)(B:Nat->Blk)(R:List Int):Prop:=∃ (g:Nat) (D:Nat->Blk),e=.returned (.tuple #[.agg #[.slice (some ⟨g,0,none⟩) n n],.int .i64 0])/\Right n D/\iU n B D R/\base<=g/\Own w g n D
theorem aW8 (Q:Nat->Prop)(sa:Option Addr)(n sc:Nat)(B:Nat->Blk)(key:Int)(v:cB)(x:aK)(w:World)(hs:aN w sa n B)(hX:dK Q w v x)(hx:aV n B key x)(hh:dY n B (aG x)):
 Calls Tryz.prog 70 #[.agg #[.slice sa n sc],.int .i64 key,v.val] w fun e w'=>cV3 w.heap.size e w' n B (aG x)/\Below w.heap.size w w':=by
 unfold cB.val
 have b0:Below w.heap.size w (((w.alloc (.cells #[.slice sa n sc] 24)).alloc (.cells #[.string v.name,.slice v.fa v.fn v.fc,.slice v.sa v.sn v.sc] 84)).alloc (.cells #[.slice none 0 0] 24)):=bAl (bAl (bAl (Below.refl _ w) _) _) _
 have k0:aC (((w.alloc (.cells #[.slice sa n sc] 24)).alloc (.cells #[.string v.name,.slice v.fa v.fn v.fc,.slice v.sa v.sn v.sc] 84)).alloc (.cells #[.slice none 0 0] 24)) w.heap.size #[.slice sa n sc] 24:=((aB w _ _).below (aA _ _)).below (aA _ _)
 have k1:aC (((w.alloc (.cells #[.slice sa n sc] 24)).alloc (.cells #[.string v.name,.slice v.fa v.fn v.fc,.slice v.sa v.sn v.sc] 84)).alloc (.cells #[.slice none 0 0] 24)) (w.heap.size+1) #[.string v.name,.slice v.fa v.fn v.fc,.slice v.sa v.sn v.sc] 84:=(aF w (.cells #[.slice sa n sc] 24) _ _).below (aA _ _)
 have k2:=aB ((w.alloc (.cells #[.slice sa n sc] 24)).alloc (.cells #[.string v.name,.slice v.fa v.fn v.fc,.slice v.sa v.sn v.sc] 84)) #[.slice none 0 0] 24
 simp only[mQ] at k2
 have hsz:w.heap.size+3<=(((w.alloc (.cells #[.slice sa n sc] 24)).alloc (.cells #[.string v.name,.slice v.fa v.fn v.fc,.slice v.sa v.sn v.sc] 84)).alloc (.cells #[.slice none 0 0] 24)).heap.size:=by simp
 have hsh:=hid hx.shape
 have hn4:=hx.right.small
 have hl4:Hid (∀ i,i<n->(B i).kids.length<=4/\(B i).bytes.length<=4):=hid (fun i hi=>⟨(hx.right.one i hi).few,(hx.right.one i hi).few2⟩)
 have hbd:Hid (∀ i,i<n->(B i).refs+(([]:List Int).length:Int)<=1000000):=hid (fun i hi=>by have:=(hx.right.one i hi).bounds; simp; omega)
 have hln:Hid ((aG x).length<=1000):=hid (by have:=jP hx.shape; omega)
 replace hs:=hid hs
 replace hX:=hid hX
 replace hx:=hid hx
 replace hh:=hid hh
 replace k0:=hid k0
 replace k1:=hid k1
 replace k2:=hid k2
 replace b0:=hid b0
 go_enter Tryz.func70,Tryz.ntmps70
 go_wp2_with fail
 generalize ((w.alloc (.cells #[.slice sa n sc] 24)).alloc (.cells #[.string v.name,.slice v.fa v.fn v.fc,.slice v.sa v.sn v.sc] 84)).alloc (.cells #[.slice none 0 0] 24)=w0 at *
 refine(nG Q sa n sc B key v x w0 (hs.out.below b0.out) (hX.out.below b0.out)).mono ?_
 rintro e w1 ⟨⟨e', rfl,he⟩,b1⟩
 obtain rfl:e'=0:=he.2 ⟨hx.out,hh.out⟩
 clear he
 replace k0:=hid (k0.out.below b1)
 replace k1:=hid (k1.out.below b1)
 replace k2:=hid (k2.out.below b1)
 replace b0:=hid (Below.tr b0.out b1)
 have hs1:=b1.size
 clear b1
 go_wp2_with fail
 refine(pE ⟨w.heap.size,0,none⟩ sa n sc B w1 ⟨k0.out.lt,by have:=k0.out.cell 0; simpa using this,hs.out.below b0.out⟩ hn4 hl4.out).mono ?_
 rintro e w2 ⟨b2,g,rfl,hg,hO⟩
 have bA:=aA w2 (.cells #[.slice (some ⟨g,0,none⟩) n n] 24)
 have k9:=aB w2 #[.slice (some ⟨g,0,none⟩) n n] 24
 have hgl:=hO.lt
 replace hO:=hid (hO.below bA)
 replace k1:=hid ((k1.out.below b2).below bA)
 replace k2:=hid ((k2.out.below b2).below bA)
 have hs2:=b2.size
 replace b0:=hid (Below.tr (Below.tr b0.out b2) bA)
 have x0:=k1.out.cell 0
 have x1:=k1.out.cell 1
 have x2:=k1.out.cell 2
 simp only[List.getElem?_toArray,List.getElem?_cons_zero,List.getElem?_cons_succ] at x0 x1 x2
 replace k9:=hid k9
 have hsA:w2.heap.size<(w2.alloc (.cells #[.slice (some ⟨g,0,none⟩) n n] 24)).heap.size:=by simp
 clear b2 bA
 go_upto_region 5 with fail
 generalize w2.alloc (.cells #[.slice (some ⟨g,0,none⟩) n n] 24)=w3 at *
 go_wp2_with fail
 refine(vJ Q v x v.name w3 (hX.out.below b0.out) hsh.out rfl).mono ?_
 rintro e w4 ⟨⟨ra,rc,lo,rfl,hlo,hr,hw,_⟩,b4⟩
 have k9':=k9.out.below b4
 have hP:Hid (dF w4 ⟨w2.heap.size,0,none⟩ g n B):=hid ⟨k9'.lt,by show w2.heap.size≠g; omega,by have:=k9'.cell 0; simpa using this,hO.out.below b4⟩
 have hN:=hid ((aF3 hr hw).weaken (R:=fun b=>b≠g) (fun b _ q=>by have:=q.1; omega))
 replace k2:=hid (k2.out.below b4)
 replace b0:=hid (Below.tr b0.out b4)
 clear x0 x1 x2 hr hw k9 k9' hO
 go_wp2_with fail
 refine(qX ⟨w2.heap.size,0,none⟩ g n B none 0 0 [] ra (aG x).length rc (aG x) w4 hP.out ⟨rfl,fun x hx=>by simp at hx,fun h=>absurd h (by omega)⟩ hN.out hln.out (by omega) hx.out.right (fun r hr=>by simp at hr) hbd.out (fun k hk=>by have:=hh.out k hk; simp; exact this) hx.out.rootBd).mono ?_
 rintro e w5 ⟨rfl,ho,D,hOP,hRD,hFD⟩
 rw[xN] at hFD
 have l2:=k2.out.lt
 have hk2:aC w5 (w.heap.size+1+1) #[.slice none 0 0] 24:=(Only.of_out (M:=fun b=>b=g) ho rfl).cells k2.out (by omega)
 have c9:=hOP.cell
 have f0:=hk2.cell 0
 have f1:=hk2.frozen 0
 simp at f0
 have hSt:=hid ((rG hOP.own (Only.of_kept (M:=fun b=>b=w.heap.size+1+1) (gT w5 (w.heap.size+1+1) (.slice (some ⟨g,0,none⟩) n n)) rfl) (fun b _ m=>by omega)))
 have bF:=hid ((b0.out.trans (ho.below (B:=w.heap.size) (by omega) b0.out.size)).trans ((gT w5 (w.heap.size+1+1) (.slice (some ⟨g,0,none⟩) n n)).below (B:=w.heap.size) (by omega)))
 replace hFD:=hid hFD
 replace hRD:=hid hRD
 clear hOP ho hk2
 go_wp2_with fail
 refine bodyPost_ret (v:=.tuple #[.agg #[.slice (some ⟨g,0,none⟩) n n],.int .i64 0]) (by rw[results_cell_tmp rfl]; go_simp) rfl ?_
 exact⟨⟨g,D,rfl,hRD.out,hFD.out,by omega,hSt.out⟩,bF.out⟩
theorem aK4 (w:World){a b:Addr}(h:a.block≠b.block)(u v:Value):(w.setCell a u).setCell b v=(w.setCell b v).setCell a u:=by
 unfold World.setCell
 simp only[World.mk.injEq,and_true]
 apply Array.ext
 ·simp
 ·intro i h1 h2
  simp only[Array.getElem_modify]
  by_cases e1:a.block=i
  ·have:¬b.block=i:=fun e2=>h (e1.trans e2.symm)
   simp[e1,this]
  ·simp[e1]
theorem PSt.swap2 {H:Nat}{X:Nat->Prop}{w:World}{ob g n g':Nat}{B C:Nat->Blk}{ta:Option Addr}{tn tc:Nat}{L:List aY}(h:PSt H X w ob g n B ta tn tc L)(hO:Own w g' n C)(hrows:∀ b,fD (.slice ta tn tc) L tn b->b<g')(hxs:∀ b,X b->b<g'):PSt H X (w.setCell ⟨ob,0,none⟩ (.slice (some ⟨g', 0,none⟩) n n)) ob g' n C ta tn tc L:=by
 have kk:Kept ob w (w.setCell ⟨ob,0,none⟩ (.slice (some ⟨g', 0,none⟩) n n)):=Kept.setCell (g:=ob) (Kept.refl _ _) (p:=⟨ob,0,none⟩) rfl _
 have hob:=hxs ob h.hx
 have hO':=hO.kept hob kk
 have hlen:=h.mine.len
 have k:=h.box.set 0 (.slice (some ⟨g', 0,none⟩) n n)
 simp only[List.setIfInBounds_toArray,List.set_cons_zero] at k
 refine⟨k,hO'.lt,hO'.blocks.weaken (fun b _ q=>⟨q,fun f=>?_,fun x=>by have:=hxs b x; omega⟩),hO'.free,⟨fun f=>?_,fun x=>by have:=hxs _ x; omega⟩,h.mine.only (Only.of_kept (M:=fun b=>b=ob) kk rfl) (fun b e=>.inr ⟨e▸h.hx,fun f=>absurd f (by omega)⟩),h.hob,h.hx⟩
 ·have:=hrows b f; omega
 ·have:=hrows _ f; omega
def PM (ob tb tn tc:Nat)(L:List aY)(b:Nat):Prop:=b=ob\/fD (.slice (some ⟨tb,0,none⟩) tn tc) L tn b
theorem aS6 (H:Nat)(X:Nat->Prop)(ob g n:Nat)(B:Nat->Blk)(tb tn tc:Nat)(L:List aY)(i k g' a7:Nat)(D:Nat->Blk)(m:aY)(w wc:World)(h:PSt H X w ob g n B (some ⟨tb,0,none⟩) tn tc L)(hm:L[i]? =some m)(hk:k<m.sn)(bc:Below w.heap.size w wc)(hO:Own wc g' n D)(hg:w.heap.size<=g')(ka:aC wc a7 #[.slice (some ⟨g', 0,none⟩) n n] 24)(ha:w.heap.size<=a7):
 Calls Tryz.prog 71 #[.slice m.sa m.sn m.sc,.int .i64 k,.int .i64 ((k:Int)+1)] wc.drew fun e w'=>
  e=.returned (.slice m.sa (m.sn-1) m.sc)/\w'.cell? ⟨a7,0,none⟩=some (.slice (some ⟨g', 0,none⟩) n n)/\w'.cell? ⟨ob,0,none⟩=some (.slice (some ⟨g,0,none⟩) n n)/\w'.frozen? ⟨ob,0,none⟩=false/\w'.cell? ⟨tb,i*3+2,none⟩=some (.slice m.sa m.sn m.sc)/\w'.frozen? ⟨tb,i*3+2,none⟩=false/\ob≠tb/\ob<w'.heap.size/\tb<w'.heap.size/\
   PSt H X ((w'.setCell ⟨ob,0,none⟩ (.slice (some ⟨g', 0,none⟩) n n)).setCell ⟨tb,i*3+2,none⟩ (.slice m.sa (m.sn-1) m.sc)) ob g' n D (some ⟨tb,0,none⟩) tn tc (L.set i { m with sn:=m.sn-1,ms:=m.ms.eraseIdx k })/\Below H w ((w'.setCell ⟨ob,0,none⟩ (.slice (some ⟨g', 0,none⟩) n n)).setCell ⟨tb,i*3+2,none⟩ (.slice m.sa (m.sn-1) m.sc))/\Only (PM ob tb tn tc L) w ((w'.setCell ⟨ob,0,none⟩ (.slice (some ⟨g', 0,none⟩) n n)).setCell ⟨tb,i*3+2,none⟩ (.slice m.sa (m.sn-1) m.sc)):=by
 obtain⟨hi,hmi⟩:=List.getElem?_eq_some_iff.1 hm
 have hl:=h.mine.len
 have hin:i<tn:=by omega
 have bd:Below w.heap.size w wc.drew:=bc.trans (aD _ _)
 have hd:=h.below bd
 have hown:=hd.mine.own i m hm hin
 have hlt:=(h.mine.own i m hm hin).lt
 have htb:=h.mine.row.lt tb rfl
 have htop:=h.mine.top i m hm hin
 have hnt:¬(Value.slice m.sa m.sn m.sc).ownBlock=some tb:=fun f=>htop tb f rfl
 have hno:¬(Value.slice m.sa m.sn m.sc).ownBlock=some ob:=fun f=>h.mine.rx ob (.inr ⟨i,m,hin,hm,f⟩) h.hx
 have hbt:ob≠tb:=fun e=>h.mine.rx tb (.inl rfl) (e▸h.hx)
 have hobl:=h.box.lt
 refine(aW9 m.sa m.sn m.sc k H (setCells m.ms) wc.drew hk hown (setCells_one _)).mono ?_
 rintro e w' ⟨rfl,ho,on⟩
 rw[zD] at ho
 have ht:=hd.ten hm
 have hna:¬(Value.slice m.sa m.sn m.sc).ownBlock=some a7:=fun f=>by have:=(hlt _ f).2; omega
 have hO':Own w' g' n D:=by
  refine⟨Nat.lt_of_lt_of_le (hO.below (aD _ _)).lt on.size,on.blocks (hO.below (aD _ _)).blocks (fun f=>?_) (hO.below (aD _ _)).lt (fun b q f=>?_),fun j hj=>?_⟩
  ·have:=(hlt _ f).2; omega
  ·have:=(hlt _ f).2; omega
  ·rw[World.frozen?_of_block (w:=wc.drew) (on.block g' (hO.below (aD _ _)).lt (fun f=>by have:=(hlt _ f).2; omega))]
   exact(hO.below (aD _ _)).free j hj
 have hput:=hd.put (n':=m.sn-1) (ms':=m.ms.eraseIdx k) hm on ho (fun b hb=>.inl ((xC _ _ _ _ _).trans hb)) (fun s hs=>.inl (List.mem_of_mem_eraseIdx hs))
 have kk:Kept tb w' (w'.setCell ⟨tb,i*3+2,none⟩ (.slice m.sa (m.sn-1) m.sc)):=Kept.setCell (g:=tb) (Kept.refl _ _) (p:=⟨tb,i*3+2,none⟩) rfl _
 have hfin:=hput.swap2 (hO'.kept (by omega) kk) (fun b f=>by
  rcases f with f | ⟨q,u,hq,hu,f⟩
  ·have:=(h.mine.row.lt b f).2; omega
  ·by_cases e:q=i
   ·subst e
    rw[List.getElem?_set_self hi] at hu
    cases hu
    have:=(hlt b ((xC _ _ _ _ _).trans f)).2; omega
   ·rw[List.getElem?_set_ne (fun f=>e f.symm)] at hu
    have:=((h.mine.own q u hu hq).lt b f).2; omega) (fun b x=>by have:=h.mine.xlt b x; omega)
 have hcm:(w'.setCell ⟨ob,0,none⟩ (.slice (some ⟨g', 0,none⟩) n n)).setCell ⟨tb,i*3+2,none⟩ (.slice m.sa (m.sn-1) m.sc)=(w'.setCell ⟨tb,i*3+2,none⟩ (.slice m.sa (m.sn-1) m.sc)).setCell ⟨ob,0,none⟩ (.slice (some ⟨g', 0,none⟩) n n):=aK4 w' (a:=⟨ob,0,none⟩) (b:=⟨tb,i*3+2,none⟩) hbt _ _
 rw[hcm]
 have k2:Kept ob (w'.setCell ⟨tb,i*3+2,none⟩ (.slice m.sa (m.sn-1) m.sc)) ((w'.setCell ⟨tb,i*3+2,none⟩ (.slice m.sa (m.sn-1) m.sc)).setCell ⟨ob,0,none⟩ (.slice (some ⟨g', 0,none⟩) n n)):=Kept.setCell (g:=ob) (Kept.refl _ _) (p:=⟨ob,0,none⟩) rfl _
 have hsz:=h.mine.sz
 have hob':=h.hob
 have hb1:=hd.box.cell 0
 simp at hb1
 have ka':=(ka.below (aD _ _)).cell 0
 simp at ka'
 have hbd:=bd.size
 refine⟨rfl,(on.cell (p:=⟨a7,0,none⟩) (show a7<wc.drew.heap.size from (ka.below (aD _ _)).lt) hna).trans ka', (on.cell (p:=⟨ob,0,none⟩) (show ob<wc.drew.heap.size by omega) hno).trans hb1,?_,(on.cell (p:=⟨tb,i*3+2,none⟩) ht.2.2.2.2 hnt).trans ht.2.2.1,?_,hbt,by have:=on.size; omega,by have:=on.size; omega,hfin,(bd.mono hsz).trans ((on.below (fun b hb=>(hlt b hb).1) (by omega)).trans ((kk.below htb.1).trans (k2.below hob'))),(((Only.of_below bd).trans (on.mono (fun b _ q=>.inr (.inr ⟨i,m,hin,hm,q⟩)))).trans (Only.of_kept kk (.inr (.inl rfl)))).trans (Only.of_kept k2 (.inl rfl))⟩
 ·rw[World.frozen?_of_block (w:=wc.drew) (on.block ob (by omega) hno)]
  exact hd.box.frozen 0
 ·rw[World.frozen?_of_block (w:=wc.drew) (on.block tb ht.2.2.2.2 hnt)]
  exact ht.2.2.2.1
def cN5 (W wc:World)(n:Nat)(B:Nat->Blk)(R:List Int)(v7 v8:Value):Prop:=∃ (a7 g:Nat) (D:Nat->Blk),v7=.pointer (some ⟨a7,0,none⟩)/\v8=.int .i64 0/\aC wc a7 #[.slice (some ⟨g,0,none⟩) n n] 24/\Below W.heap.size W wc/\W.heap.size<=a7/\Right n D/\iU n B D R/\W.heap.size<=g/\Own wc g n D
theorem cD1 {W w6:World}{n:Nat}{B D:Nat->Blk}{R:List Int}{g:Nat}(bb:Below W.heap.size W w6)(hR:Right n D)(hF:iU n B D R)(hg:W.heap.size<=g)(hO:Own w6 g n D):cN5 W (w6.alloc (.cells #[.slice (some ⟨g,0,none⟩) n n] 24)) n B R (.pointer (some ⟨w6.heap.size,0,none⟩)) (.int .i64 0):=
 ⟨_,g,D,rfl,rfl,aB w6 _ _,Below.tr bb (aA _ _),bb.size,hR,hF,hg,hO.below (aA _ _)⟩
theorem cD2 {W w6:World}{n:Nat}{B D:Nat->Blk}{R:List Int}{g a:Nat}(ka:aC w6 a #[.slice none 0 0] 24)(ha:W.heap.size<=a)(hag:a<g)(bb:Below W.heap.size W w6)(hR:Right n D)(hF:iU n B D R)(hO:Own w6 g n D):cN5 W (w6.setCell ⟨a,0,none⟩ (.slice (some ⟨g,0,none⟩) n n)) n B R (.pointer (some ⟨a,0,none⟩)) (.int .i64 0):=by
 have kk:Kept a w6 (w6.setCell ⟨a,0,none⟩ (.slice (some ⟨g,0,none⟩) n n)):=Kept.setCell (g:=a) (Kept.refl _ _) (p:=⟨a,0,none⟩) rfl _
 have k:=ka.set 0 (.slice (some ⟨g,0,none⟩) n n)
 simp only[List.setIfInBounds_toArray,List.set_cons_zero] at k
 exact⟨a,g,D,rfl,rfl,k,bb.trans (kk.below ha),ha,hR,hF,by omega,hO.kept hag kk⟩
def cU6 (H:Nat)(X:Nat->Prop)(w:World)(ob n:Nat)(B:Nat->Blk)(tb tn tc:Nat)(L:List aY)(i k:Nat)(m:aY)(s:iV)(e:Ending)(w':World):Prop:=
 e=.returned (.int .i64 0)/\Below H w w'/\Only (PM ob tb tn tc L) w w'/\∃ g' D,Right n D/\iU n B D (aG s.x)/\PSt H X w' ob g' n D (some ⟨tb,0,none⟩) tn tc (L.set i { m with sn:=m.sn-1,ms:=m.ms.eraseIdx k })
theorem wZ (H:Nat)(X:Nat->Prop)(ob g n:Nat)(B:Nat->Blk)(tb tn tc:Nat)(L:List aY)(i k:Nat)(m:aY)(s:iV)(w:World)(h:PSt H X w ob g n B (some ⟨tb,0,none⟩) tn tc L)(hm:L[i]? =some m)(hs:m.ms[k]? =some s)(h3:m.sn<=3)(hx:aV n B m.key s.x)(hh:dY n B (aG s.x)):
 Calls Tryz.prog 38 #[.pointer (some ⟨ob,0,none⟩),.pointer (some ⟨tb,i*3,none⟩),.int .i64 k] w fun e w'=>cU6 H X w ob n B tb tn tc L i k m s e w':=by
 obtain⟨hk,hsk⟩:=List.getElem?_eq_some_iff.1 hs
 have hml:m.ms.length=m.sn:=by have:=(h.sets hm).1; simpa using this
 have hks:k<m.sn:=by omega
 obtain⟨hi,hmi⟩:=List.getElem?_eq_some_iff.1 hm
 have hl:=h.mine.len
 have hown:=h.mine.own i m hm (by omega)
 obtain⟨rb,hrb⟩:∃ rb,m.sa=some ⟨rb,0,none⟩:=by
  rcases hown.2 with⟨h0,h1⟩ | ⟨q,cap,cur,h0,_⟩
  ·omega
  ·simp only[Value.slice.injEq] at h0; exact⟨q,h0.1⟩
 have hse:Hid (∀ w', Below w.heap.size w w'->dK (fun _=>True) w' s.v s.x):=hid (fun w' b=>((h.mine.lists m (List.mem_of_getElem? hm) s (List.mem_of_getElem? hs)).weaken (fun _ _ _=>trivial)).below b)
 have hst:Hid (∀ w', Below w.heap.size w w'->aN w' (some ⟨g,0,none⟩) n B):=hid (fun w' b=>h.own.store.below b)
 have ht:=h.ten hm
 obtain⟨t0,t1,t2,tf,lt⟩:=ht
 have hrow:=hown
 rw[hrb] at hrow t2
 have lr:=(hrow.lt rb rfl).2
 have r0:w.cell? ⟨rb,k*3,none⟩=some (.string s.v.name):=(hrow.cellAt (k*3) (by omega)).trans ((flat_get iV.cells_len m.ms k 0 hk (by omega)).trans (by rw[hsk]; rfl))
 have r1:w.cell? ⟨rb,k*3+1,none⟩=some (.slice s.v.fa s.v.fn s.v.fc):=(hrow.cellAt (k*3+1) (by omega)).trans ((flat_get iV.cells_len m.ms k 1 hk (by omega)).trans (by rw[hsk]; rfl))
 have r2:w.cell? ⟨rb,k*3+2,none⟩=some (.slice s.v.sa s.v.sn s.v.sc):=(hrow.cellAt (k*3+2) (by omega)).trans ((flat_get iV.cells_len m.ms k 2 hk (by omega)).trans (by rw[hsk]; rfl))
 have o0:=h.box.cell 0
 simp at o0
 have lo:=h.box.lt
 have HB1:Hid (Below w.heap.size w w.drew):=hid (aD _ _)
 have HB2:Hid (Below w.heap.size w (w.alloc dG).drew):=hid ((aA w dG).trans (aD _ _))
 have HZ2:Hid ((w.alloc dG).drew.heap.size=w.heap.size+1):=hid (by simp[World.drew])
 have ka2:=hid ((aB w #[.slice none 0 0] 24).below (aD _ _))
 have nlo:=Nat.ne_of_lt lo
 have nlt:=Nat.ne_of_lt lt
 have nlr:=Nat.ne_of_lt lr
 have nlo':=nlo.symm
 have nlt':=nlt.symm
 have nlr':=nlr.symm
 have hk0:(0:Int)<=(k:Int):=by omega
 have hksI:(k:Int)<(m.sn:Int):=by omega
 replace h:=hid h
 replace hm:=hid hm
 replace hx:=hid hx
 replace hh:=hid hh
 clear hrow hown hsk hs t1 tf hmi
 replace hrb:=hid hrb
 go_enter Tryz.func38,Tryz.ntmps38
 go_upto_region 1 with fail
 go_cut [7,8] from 27 (fun v7 v8 wc=>cN5 w wc n B (aG s.x) v7 v8)
 case first=>
  go_region_held3 (fun w'=>w'.cell? ⟨ob,0,none⟩=some (.slice (some ⟨g,0,none⟩) n n)/\w'.cell? ⟨tb,i*3,none⟩=some (.int .i64 m.key)/\w'.cell? ⟨tb,i*3+2,none⟩=some (.slice (some ⟨rb,0,none⟩) m.sn m.sc)/\w'.cell? ⟨rb,k*3,none⟩=some (.string s.v.name)/\w'.cell? ⟨rb,k*3+1,none⟩=some (.slice s.v.fa s.v.fn s.v.fc)/\w'.cell? ⟨rb,k*3+2,none⟩=some (.slice s.v.sa s.v.sn s.v.sc)) (first | go_keep | assumption) (first | (go_at_call 70; refine Calls.mono (aW8 (fun _=>True) (some ⟨g,0,none⟩) n n B m.key s.v s.x _ ?_ ?_ hx.out hh.out) ?_; (first | with_reducible exact hst.out _ HB1.out | with_reducible exact hst.out _ HB2.out); (first | with_reducible exact hse.out _ HB1.out | with_reducible exact hse.out _ HB2.out); rintro e w6 ⟨⟨g', D,rfl,hRD,hFD,hg6,hO6⟩,b6⟩; (first | (with_reducible have bb:=hid (Below.tr HB1.out b6)) | (with_reducible have bb:=hid (Below.tr HB2.out b6); have ka:=hid (ka2.out.below b6); rw[HZ2.out] at hg6; have cka:=ka.out.cell 0; have fka:=ka.out.frozen 0; simp at cka)); have s0:=(bb.out.cell (p:=⟨ob,0,none⟩) lo).trans o0; have s1:=(bb.out.cell (p:=⟨tb,i*3,none⟩) lt).trans t0; have s2:=(bb.out.cell (p:=⟨tb,i*3+2,none⟩) lt).trans t2; have s3:=(bb.out.cell (p:=⟨rb,k*3,none⟩) lr).trans r0; have s4:=(bb.out.cell (p:=⟨rb,k*3+1,none⟩) lr).trans r1; have s5:=(bb.out.cell (p:=⟨rb,k*3+2,none⟩) lr).trans r2; have hs6:=bb.out.size; have m1:ob≠w6.heap.size:=(by omega); have m2:tb≠w6.heap.size:=(by omega); have m3:rb≠w6.heap.size:=(by omega); have m1':=m1.symm; have m2':=m2.symm; have m3':=m3.symm; replace hO6:=hid hO6; replace hRD:=hid hRD; replace hFD:=hid hFD; replace b6:=hid b6))
  all_goals (go_wp2_with fail; go_meet; first
   | exact cD1 bb.out hRD.out hFD.out (Nat.le_trans (by first | exact Nat.le_refl _ | exact Nat.le_succ _) hg6) hO6.out
   | exact cD2 (a:=w.heap.size) ka.out (Nat.le_refl _) hg6 bb.out hRD.out hFD.out hO6.out)
 case rest=>
  obtain⟨a7,g', D,rfl,rfl,k7,bC,h7,hRD,hFD,hg', hO⟩:=hcut
  clear HB1 HB2 HZ2 ka2 hst hse nlo nlt nlr nlo' nlt' nlr' r0 r1 r2 t0 o0 hx hh
  have y2:=(bC.cell (p:=⟨tb,i*3+2,none⟩) lt).trans t2
  have c7:=k7.cell 0
  simp at c7
  rw[<-hrb.out] at y2
  clear t2
  replace k7:=hid k7
  replace hO:=hid hO
  replace hRD:=hid hRD
  replace hFD:=hid hFD
  replace bC:=hid bC
  have hwr:IntKind.i64.wrap ((k:Int)+1)=(k:Int)+1:=by rcases(show k=0\/k=1\/k=2 by omega) with rfl | rfl | rfl<;>rfl
  replace hwr:=hid hwr
  go_upto_region 4 with fail
  go_region_with (go_at_call 71; rw[hwr.out]; with_reducible refine Calls.mono (aS6 H X ob g n B tb tn tc L i k g' a7 D m w wc h.out hm.out hks bC.out hO.out hg' k7.out h7) ?_; rintro e w9 ⟨rfl,x1,x2,x3,x4,x5,x6,x7,x8,hfin⟩; have x6':=x6.symm; replace hfin:=hid hfin)
  all_goals (
   go_wp2_with fail
   go_ret
   exact⟨rfl,hfin.out.2.1,hfin.out.2.2,g', D,hRD.out,hFD.out,hfin.out.1⟩)
end Go.Proofs.YtjafgnohlkkopaaGreatDoor
