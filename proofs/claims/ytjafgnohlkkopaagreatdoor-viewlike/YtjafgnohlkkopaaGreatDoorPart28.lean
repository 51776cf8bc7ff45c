/-
  PoolK, PoolL, PoolF, PoolO in one text. Nothing here is trusted.
-/
import Derived.Test.YtjafgnohlkkopaaGreatDoorPart27
import Derived.Test.YtjafgnohlkkopaaGreatDoorPart24
import Derived.Laws.EntriesVeiled
import Derived.Test.YtjafgnohlkkopaaGreatDoorPart12
import Derived.Test.YtjafgnohlkkopaaGreatDoorPart10
set_option linter.unusedVariables false
namespace Go.Proofs.YtjafgnohlkkopaaGreatDoor
open Go.RowKit
theorem Only.of_belowH {H:Nat} {a b:World} (h:Below H a b):Only (fun k=>H≤k) a b:=⟨h.os,h.tape,h.output,h.size,fun k hk hm=>h.block k (by omega)⟩
theorem SetAt.belowH {H:Nat} {a b:World} {v:SetV} {x:SetE} (h:SetAt (fun k=>k<H) a v x) (hb:Below H a b):SetAt (fun k=>k<H) b v x:=(Only.of_belowH hb).setAt h (fun k hk m=>by omega)
theorem TensAt.rows {Q:Nat→Prop} {w:World} {a:Option Addr} {n:Nat} {l:List TenE} (h:TensAt Q w a n l):∃ L:List TenM,L.map TenM.e=l∧(∀ m∈L,(∀ s∈m.ms,SetAt Q w s.v s.x)∧SrcAt w.heap.size w m.sa m.sn (setCells m.ms)∧m.ms.length=m.sn∧m.sn≤m.sc∧(-9223372036854775808≤m.key∧m.key≤9223372036854775807)∧(-9223372036854775808≤m.quota∧m.quota≤9223372036854775807))∧SrcAt w.heap.size w a n (tenCells L):=by
 rcases Nat.eq_zero_or_pos n with h0 | h0
 ·subst h0
  have:=List.eq_nil_of_length_eq_zero h.1
  subst this
  exact⟨[],rfl,by simp,fun h=>absurd h (by omega)⟩
 ·obtain⟨b,off,rfl,hlt,hq,hc⟩:=h.2 h0
  have hl:=h.1
  have key:∀ i,i<n→∃ m:TenM,m.e=l.getD i TenE.zero∧((∀ s∈m.ms,SetAt Q w s.v s.x)∧SrcAt w.heap.size w m.sa m.sn (setCells m.ms)∧m.ms.length=m.sn∧m.sn≤m.sc∧(-9223372036854775808≤m.key∧m.key≤9223372036854775807)∧(-9223372036854775808≤m.quota∧m.quota≤9223372036854775807))∧∀ r u,m.cells[r]? =some u→w.cell? ⟨b,off+i*3+r,none⟩=some u:=by
   intro i hi
   obtain⟨sa,sn,sc,hT⟩:=hc i hi
   obtain⟨ms,h1,h2,h3⟩:=hT.ok.sets.rows
   generalize l.getD i TenE.zero=t at *
   obtain⟨tk,tq,ts⟩:=t
   simp only at h1
   subst h1
   refine⟨⟨tk,tq,sa,sn,sc,ms⟩,rfl,⟨h2,h3,?_,hT.ok.caps,hT.ok.kb,hT.ok.qb⟩,fun r u hr=>?_⟩
   ·have:=hT.ok.sets.1
    simpa using this
   ·have h4:r=0∨r=1∨r=2∨3≤r:=by omega
    rcases h4 with rfl | rfl | rfl | h4
    ·exact hT.c0.trans hr
    ·exact hT.c1.trans hr
    ·exact hT.c2.trans hr
    ·rw[List.getElem?_eq_none (by rw[TenM.cells_len]; exact h4)] at hr; cases hr
  obtain⟨f,hf⟩:∃ f:Nat→TenM,∀ i,i<n→(f i).e=l.getD i TenE.zero∧((∀ s∈(f i).ms,SetAt Q w s.v s.x)∧SrcAt w.heap.size w (f i).sa (f i).sn (setCells (f i).ms)∧(f i).ms.length=(f i).sn∧(f i).sn≤(f i).sc∧(-9223372036854775808≤(f i).key∧(f i).key≤9223372036854775807)∧(-9223372036854775808≤(f i).quota∧(f i).quota≤9223372036854775807))∧∀ r u,(f i).cells[r]? =some u→w.cell? ⟨b,off+i*3+r,none⟩=some u:=
   ⟨fun i=>if hi:i<n then (key i hi).choose else ⟨0,0,none,0,0,[]⟩,fun i hi=>by simp only[hi,dif_pos]; exact(key i hi).choose_spec⟩
  refine⟨(List.range n).map f,?_,?_,fun _=>⟨b,off,rfl,hlt,?_⟩⟩
  ·apply List.ext_getElem
   ·simp[hl]
   ·intro i h1 h2
    have hi:i<n:=by omega
    rw[List.getElem_map,List.getElem_map,List.getElem_range,(hf i hi).1]
    simp[List.getD,h2]
  ·intro m hm
   obtain⟨i,hi,rfl⟩:=List.mem_map.1 hm
   exact(hf i (List.mem_range.1 hi)).2.1
  ·intro j u hj
   have hjl:j<n*3:=by
    have:=tenCells_len ((List.range n).map f)
    rw[List.length_map,List.length_range] at this
    rcases Nat.lt_or_ge j (tenCells ((List.range n).map f)).length with h | h
    ·omega
    ·rw[List.getElem?_eq_none h] at hj; cases hj
   have hi:j / 3<n:=by omega
   have hg:=flat_get TenM.cells_len ((List.range n).map f) (j / 3) (j%3) (by simpa using hi) (Nat.mod_lt _ (by omega))
   rw[show j / 3*3+j%3=j by omega,List.getElem_map,List.getElem_range] at hg
   unfold tenCells at hj
   rw[hg] at hj
   have:=(hf (j / 3) hi).2.2 _ _ hj
   rw[show off+j / 3*3+j%3=off+j by omega] at this
   exact this
structure CpAt (K H:Nat) (w wr:World) (a:Option Addr) (n c:Nat) (ta:Option Addr) (tn tc:Nat) (ta':Option Addr) (tc':Nat) (l:List TenE) (L:List TenM) (j:Nat):Prop where
 box:CellsAt wr H #[.slice a n c,.slice ta tn tc] 27
 res:CellsAt wr (H+1) #[.slice none 0 0,.slice none 0 0] 27
 mine:MineP (H+2) (fun b=>K≤b∧b≤H+1) wr ta' tn tc' L j
 eq:L.map TenM.e=l
 hK:K≤H
 todo:∀ i m,L[i]? =some m→j≤i→SrcAt H w m.sa m.sn (setCells m.ms)∧∀ s∈m.ms,SetAt (fun b=>b<H) w s.v s.x
 bel:Below H w wr
theorem map_e_set {L:List TenM} {j:Nat} {m m':TenM} (hm:L[j]? =some m) (he:m'.e=m.e):(L.set j m').map TenM.e=L.map TenM.e:=by
 rw[List.map_set,he]
 apply List.ext_getElem?
 intro i
 rw[List.getElem?_set]
 split
 ·rename_i e
  subst e
  obtain⟨hj,hmj⟩:=List.getElem?_eq_some_iff.1 hm
  simp[hj,hmj]
 ·rfl
theorem CpAt.below {K H:Nat} {w wr w':World} {a:Option Addr} {n c:Nat} {ta:Option Addr} {tn tc:Nat} {ta':Option Addr} {tc':Nat} {l:List TenE} {L:List TenM} {j:Nat} (h:CpAt K H w wr a n c ta tn tc ta' tc' l L j) (b:Below wr.heap.size wr w'):CpAt K H w w' a n c ta tn tc ta' tc' l L j:=
 ⟨h.box.below b,h.res.below b,h.mine.below b,h.eq,h.hK,h.todo,h.bel.trans (b.mono (by have:=h.mine.sz; omega))⟩
theorem CpAt.row {K H:Nat} {w wr w6:World} {a:Option Addr} {n c:Nat} {ta:Option Addr} {tn tc tb tc':Nat} {l:List TenE} {L:List TenM} {j:Nat} {m:TenM} {a':Option Addr} {c' B2:Nat} (h:CpAt K H w wr a n c ta tn tc (some ⟨tb,0,none⟩) tc' l L j) (hm:L[j]? =some m) (b6:Below wr.heap.size wr w6) (hB:wr.heap.size≤B2) (ho:w6.ownsRow B2 84 3 (.slice a' m.sn c') m.sn (setCells m.ms)):
 CpAt K H w (w6.setCell ⟨tb,j*3+2,none⟩ (.slice a' m.sn c')) a n c ta tn tc (some ⟨tb,0,none⟩) tc' l (L.set j { m with sa:=a', sc:=c' }) (j+1):=by
 obtain⟨hj,hmj⟩:=List.getElem?_eq_some_iff.1 hm
 have htb:=h.mine.row.lt tb rfl
 have kk:Kept tb w6 (w6.setCell ⟨tb,j*3+2,none⟩ (.slice a' m.sn c')):=Kept.setCell (g:=tb) (Kept.refl _ _) (p:=⟨tb,j*3+2,none⟩) rfl _
 have on:Only (fun b=>b=tb) wr (w6.setCell ⟨tb,j*3+2,none⟩ (.slice a' m.sn c')):=(Only.of_below b6).trans (Only.of_kept kk rfl)
 have hsz:=h.mine.sz
 refine⟨on.cells h.box (by omega),on.cells h.res (by omega),?_,?_,h.hK,fun i u hu hi=>?_,h.bel.trans ((b6.mono (show H≤wr.heap.size by omega)).trans (kk.below (by omega)))⟩
 ·refine h.mine.step hm (.inr ⟨rfl,rfl⟩) on (fun b hb=>?_) ?_ ?_ (fun b hb=>.inr ?_) (fun s hs=>.inl hs) ⟨rfl,rfl⟩
  ·subst hb
   exact .inl rfl
  ·have h1:=((row_below h.mine.row b6).stored (j*3+2) (.slice a' m.sn c')).1
   have h2:(tenCells L).set (j*3+2) (.slice a' m.sn c')=tenCells (L.set j { m with sa:=a', sc:=c' }):=flat_set TenM.cells_len L j 2 { m with sa:=a', sc:=c' } _ hj (by omega) (by rw[hmj]; rfl)
   rw[←h2]
   exact h1
  ·exact ownsRow_base (by omega) ((Only.of_kept (M:=fun b=>b=tb) kk rfl).row ho (fun b hb e=>by subst e; have:=(ho.lt _ hb).1; omega))
  ·have:=(ho.lt b hb).1; omega
 ·exact(map_e_set (m':={ m with sa:=a', sc:=c' }) hm rfl).trans h.eq
 ·rw[List.getElem?_set_ne (by omega)] at hu
  exact h.todo i u hu (by omega)
abbrev putK (w:World) (rb o:Nat) (u:SetV):World:=((w.setCell ⟨rb,o,none⟩ (.string u.name)).setCell ⟨rb,o+1,none⟩ (.slice u.fa u.fn u.fc)).setCell ⟨rb,o+2,none⟩ (.slice u.sa u.sn u.sc)
theorem kept_putK (w:World) (rb o:Nat) (u:SetV):Kept rb w (putK w rb o u):=Kept.setCell (g:=rb) (Kept.setCell (g:=rb) (Kept.setCell (g:=rb) (Kept.refl _ _) (p:=⟨rb,o,none⟩) rfl _) (p:=⟨rb,o+1,none⟩) rfl _) (p:=⟨rb,o+2,none⟩) rfl _
theorem row_putK {w:World} {base:Nat} {e:TypeId} {rb n cap k:Nat} {ms:List SetM} (h:w.ownsRow base e 3 (.slice (some ⟨rb,0,none⟩) n cap) n (setCells ms)) (hk:k<ms.length) (u:SetV) (x:SetE):(putK w rb (k*3) u).ownsRow base e 3 (.slice (some ⟨rb,0,none⟩) n cap) n (setCells (ms.set k ⟨u,x⟩)):=by
 have h1:=(h.stored (k*3) (.string u.name)).1
 have h2:=(h1.stored (k*3+1) (.slice u.fa u.fn u.fc)).1
 have h3:=(h2.stored (k*3+2) (.slice u.sa u.sn u.sc)).1
 have e:(((setCells ms).set (k*3) (.string u.name)).set (k*3+1) (.slice u.fa u.fn u.fc)).set (k*3+2) (.slice u.sa u.sn u.sc)=setCells (ms.set k ⟨u,x⟩):=by
  have e0:(setCells ms).set (k*3+0) (.string u.name)=setCells (ms.set k ⟨{ ms[k].v with name:=u.name },x⟩):=flat_set SetM.cells_len ms k 0 _ _ hk (by omega) rfl
  rw[Nat.add_zero] at e0
  rw[e0]
  have e1:(setCells (ms.set k ⟨{ ms[k].v with name:=u.name },x⟩)).set (k*3+1) (.slice u.fa u.fn u.fc)=setCells ((ms.set k ⟨{ ms[k].v with name:=u.name },x⟩).set k ⟨{ u with sa:=ms[k].v.sa,sn:=ms[k].v.sn,sc:=ms[k].v.sc },x⟩):=flat_set SetM.cells_len _ k 1 _ _ (by simpa using hk) (by omega) (by rw[List.getElem_set_self]; rfl)
  rw[e1,List.set_set]
  have e2:(setCells (ms.set k ⟨{ u with sa:=ms[k].v.sa,sn:=ms[k].v.sn,sc:=ms[k].v.sc },x⟩)).set (k*3+2) (.slice u.sa u.sn u.sc)=setCells ((ms.set k ⟨{ u with sa:=ms[k].v.sa,sn:=ms[k].v.sn,sc:=ms[k].v.sc },x⟩).set k ⟨u,x⟩):=flat_set SetM.cells_len _ k 2 _ _ (by simpa using hk) (by omega) (by rw[List.getElem_set_self]; rfl)
  rw[e2,List.set_set]
 rw[←e]
 exact h3
theorem tenCells_same {L:List TenM} {j:Nat} {m m':TenM} (hm:L[j]? =some m) (he:m'.cells=m.cells):tenCells (L.set j m')=tenCells L:=by
 obtain⟨hj,hmj⟩:=List.getElem?_eq_some_iff.1 hm
 unfold tenCells
 rw[List.set_eq_take_append_cons_drop,if_pos hj,List.flatMap_append,List.flatMap_cons,he,←List.flatMap_cons,←List.flatMap_append]
 congr 1
 rw[←hmj,List.getElem_cons_drop,List.take_append_drop]
theorem MineP.lay {H:Nat} {X:Nat→Prop} {w w7:World} {ta:Option Addr} {tn tc:Nat} {l:List TenM} {j i k rb:Nat} {m:TenM} {u:SetV} {x:SetE} (h:MineP H X w ta tn tc l j) (hm:l[i]? =some m) (hij:i<j) (ha:m.sa=some ⟨rb,0,none⟩) (hk:k<m.ms.length) (b7:Below w.heap.size w w7) (hX:SetAt (fun b=>w.heap.size≤b) w7 u x):
 MineP H X (putK w7 rb (k*3) u) ta tn tc (l.set i { m with ms:=m.ms.set k ⟨u,x⟩ }) j:=by
 have kk:=kept_putK w7 rb (k*3) u
 have hown:=h.own i m hm hij
 rw[ha] at hown
 have hrb:=hown.lt rb rfl
 have on:Only (fun b=>b=rb) w (putK w7 rb (k*3) u):=(Only.of_below b7).trans (Only.of_kept kk rfl)
 refine h.step hm (.inl ⟨hij,rfl⟩) on (fun b hb=>.inr ⟨hij,?_⟩) ?_ ?_ (fun b hb=>.inl ⟨hij,hb⟩) (fun s hs=>?_) ⟨rfl,rfl⟩
 ·subst hb
  rw[ha]; rfl
 ·rw[tenCells_same (m':={ m with ms:=m.ms.set k ⟨u,x⟩ }) hm rfl]
  exact on.row h.row (fun b hb e=>by subst e; exact h.top i m hm hij b (by rw[ha]; rfl) hb)
 ·simp only[ha]
  exact row_putK (row_below hown b7) hk u x
 ·rcases List.mem_or_eq_of_mem_set hs with hs | rfl
  ·exact .inl hs
  ·refine .inr (.inr (((Only.of_kept (M:=fun b=>b=rb) kk rfl).setAt hX (fun b q e=>by subst e; omega)).weaken (fun b _ q=>⟨q,fun f=>?_⟩)))
   simp only[ha] at f
   have:rb=b:=by simpa [Value.ownBlock] using f
   omega
theorem CpAt.lay {K H:Nat} {w wr w7:World} {a:Option Addr} {n c:Nat} {ta:Option Addr} {tn tc:Nat} {ta':Option Addr} {tc':Nat} {l:List TenE} {L:List TenM} {j k rb:Nat} {m:TenM} {s:SetM} {u:SetV} (h:CpAt K H w wr a n c ta tn tc ta' tc' l L (j+1)) (hm:L[j]? =some m) (ha:m.sa=some ⟨rb,0,none⟩) (hs:m.ms[k]? =some s) (b7:Below wr.heap.size wr w7) (hX:SetAt (fun b=>wr.heap.size≤b) w7 u s.x):
 CpAt K H w (putK w7 rb (k*3) u) a n c ta tn tc ta' tc' l (L.set j { m with ms:=m.ms.set k ⟨u,s.x⟩ }) (j+1):=by
 have kk:=kept_putK w7 rb (k*3) u
 obtain⟨hk,hsk⟩:=List.getElem?_eq_some_iff.1 hs
 have hown:=h.mine.own j m hm (by omega)
 rw[ha] at hown
 have hrb:=hown.lt rb rfl
 have hsz:=h.mine.sz
 have on:Only (fun b=>b=rb) wr (putK w7 rb (k*3) u):=(Only.of_below b7).trans (Only.of_kept kk rfl)
 refine⟨on.cells h.box (by omega),on.cells h.res (by omega),h.mine.lay hm (by omega) ha hk b7 hX,?_,h.hK,fun i v hv hi=>?_,h.bel.trans ((b7.mono (show H≤wr.heap.size by omega)).trans (kk.below (by omega)))⟩
 ·rw[map_e_set hm,h.eq]
  simp only[TenM.e,TenE.mk.injEq,true_and]
  rw[List.map_set]
  apply List.ext_getElem?
  intro i
  rw[List.getElem?_set]
  split
  ·rename_i e
   subst e
   simp[hk,hsk]
  ·rfl
 ·rw[List.getElem?_set_ne (by omega)] at hv
  exact h.todo i v hv hi
end Go.Proofs.YtjafgnohlkkopaaGreatDoor

namespace Go.Proofs.YtjafgnohlkkopaaGreatDoor
open Go.RowKit
def RetCp (K:Nat) (W:World) (e:Ending) (w:World) (n:Nat) (B:Nat→Blk) (tn:Nat) (l:List TenE):Prop:=∃ (g:Nat) (ta:Option Addr) (tc:Nat) (L:List TenM),e=.returned (.agg #[.slice (some ⟨g,0,none⟩) n n,.slice ta tn tc])∧W.heap.size≤g∧Own w g n B∧MineP W.heap.size (fun b=>K≤b∧b<W.heap.size) w ta tn tc L tn∧L.map TenM.e=l∧∀ b,RowsP (.slice ta tn tc) L tn b→b<g
theorem MineP.base {H K:Nat} {X Y:Nat→Prop} {w:World} {ta:Option Addr} {tn tc:Nat} {l:List TenM} {j:Nat} (h:MineP H X w ta tn tc l j) (hK:K≤H) (hY:∀ b,Y b→X b) (hj:l.length≤j):MineP K Y w ta tn tc l j:=
 ⟨ownsRow_base hK h.row,fun i m hm hi=>ownsRow_base hK (h.own i m hm hi),fun i m hm hi=>absurd (List.getElem?_eq_some_iff.1 hm).1 (by omega),fun m hm s hs=>(h.lists m hm s hs).weaken (fun b _ q=>⟨q.1,fun y=>q.2 (hY b y)⟩),fun b hb y=>h.rx b hb (hY b y),fun b y=>h.xlt b (hY b y),h.apart,h.top,h.nums,Nat.le_trans hK h.sz⟩
set_option maxHeartbeats 8000000 in
set_option maxRecDepth 100000 in
theorem copyPool_any (K:Nat) (a:Option Addr) (n c:Nat) (B:Nat→Blk) (ta:Option Addr) (tn tc:Nat) (l:List TenE) (w:World) (hK:K≤w.heap.size) (h:PoolAt (fun b=>b<K) w a n B ta tn l) (hok:PoolOk n B l):
 Calls Tryz.prog 18 #[.agg #[.slice a n c,.slice ta tn tc]] w fun e w'=>RetCp K w e w' n B tn l∧Below w.heap.size w w':=by
 have hn:=hok.right.small
 have hF:∀ i,i<n→(B i).kids.length≤4∧(B i).bytes.length≤4:=fun i hi=>⟨(hok.right.one i hi).few,(hok.right.one i hi).few2⟩
 have htn:tn≤3:=by rw[←h.tens.1]; exact hok.few
 have hsh:∀ t∈l,t.sets.length≤3∧∀ x∈t.sets,Shape x:=fun t ht=>⟨(hok.tens t ht).few,(hok.tens t ht).shapes⟩
 have b0:=below_two w (.cells #[.slice a n c,.slice ta tn tc] 27) (.cells #[.slice none 0 0,.slice none 0 0] 27)
 have k0:CellsAt _ w.heap.size #[.slice a n c,.slice ta tn tc] 27:=(cellsAt_alloc w _ _).below (below_alloc _ (.cells #[.slice none 0 0,.slice none 0 0] 27))
 have k1:=cellsAt_alloc2 w (.cells #[.slice a n c,.slice ta tn tc] 27) #[.slice none 0 0,.slice none 0 0] 27
 have hz0:((w.alloc (.cells #[.slice a n c,.slice ta tn tc] 27)).alloc (.cells #[.slice none 0 0,.slice none 0 0] 27)).heap.size=w.heap.size+2:=by simp
 obtain⟨L,hL1,hL2,hL3⟩:=h.tens.rows
 have hLl:L.length=tn:=by rw[←h.tens.1,←hL1,List.length_map]
 have hst:=hid h.store
 replace hF:=hid hF
 replace hsh:=hid hsh
 replace hL1:=hid hL1
 replace hL2:=hid hL2
 replace hL3:=hid hL3
 replace k0:=hid k0
 replace k1:=hid k1
 clear h hok
 go_enter Tryz.func18,Tryz.ntmps18
 have p1:=k0.out.cell 1
 simp at p1
 go_wp2_with fail
 clear p1
 generalize (w.alloc (.cells #[.slice a n c,.slice ta tn tc] 27)).alloc (.cells #[.slice none 0 0,.slice none 0 0] 27)=w0 at *
 refine(cloneN_any ta tn tc (tenCells L) w0 (by omega) (by rw[tenCells_len,hLl]) (tenCells_one _) ((hL3.out.below b0).src b0.size)).mono ?_
 rintro e w1 ⟨b1,ta', tc', rfl,hcc,hoT⟩
 have hC:CpAt K w.heap.size w w1 a n c ta tn tc ta' tc' l L 0:=by
  have hb:=Below.tr b0 b1
  rw[hz0] at hoT
  refine⟨k0.out.below b1,k1.out.below b1,⟨hoT,fun i m _ hi=>absurd hi (by omega),fun i m hm _=>?_,fun m hm s hs=>?_,fun b hb' hx=>?_,fun b hx=>?_,fun i k m u _ _ hi=>absurd hi (by omega),fun i m _ hi=>absurd hi (by omega),fun m hm=>?_,by have:=b1.size; omega⟩,hL1.out,hK,fun i m hm _=>?_,hb⟩
  ·have hm':=hL2.out m (List.mem_of_getElem? hm)
   refine⟨fun hp=>?_,hm'.2.2.1,hm'.2.2.2.1⟩
   obtain⟨b,off,e,hlt,hc⟩:=(hm'.2.1.below hb) hp
   exact⟨b,off,e,by omega,hc⟩
  ·refine(((hL2.out m hm).1 s hs).belowH (hb.mono hK)).weaken (fun b _ q=>⟨fun f=>?_,by omega⟩)
   rcases f with f | ⟨i,m,hi,_⟩
   ·have:=(hoT.lt b f).1; omega
   ·omega
  ·rcases hb' with f | ⟨i,m,hi,_⟩
   ·have:=(hoT.lt b f).1; omega
   ·omega
  ·have:=b1.size; omega
  ·exact⟨(hL2.out m hm).2.2.2.2.1,(hL2.out m hm).2.2.2.2.2⟩
  ·have hm':=hL2.out m (List.mem_of_getElem? hm)
   exact⟨hm'.2.1,fun s hs=>(hm'.1 s hs).weaken (fun b _ q=>by omega)⟩
 clear hoT b1 b0 k0 k1 hz0 hL1 hL2 hL3
 replace hC:=hid hC
 go_wp2_with fail
 go_loopw [13] (fun v wr=>∃ (j:Nat) (L:List TenM),j≤tn∧v=.int .i64 j∧CpAt K w.heap.size w wr a n c ta tn tc ta' tc' l L j) (fun v _=>tn-(Go.RowKit.intOf v).toNat)
 case atStart=>exact⟨0,L,Nat.zero_le _,rfl,hC.out⟩
 case round=>
  clear hC hLl
  obtain⟨j,L,hj,rfl,hC⟩:=hrel
  have hLl:=hC.mine.len
  by_cases hlt:j<tn
  ·have hjl:j<L.length:=by omega
   obtain⟨tb,rfl⟩:∃ tb,ta'=some ⟨tb,0,none⟩:=by
    rcases hC.mine.row.2 with⟨h0,h1⟩ | ⟨g,cap,cur,h0,_⟩
    ·omega
    ·simp only[Value.slice.injEq] at h0; exact⟨g,h0.1⟩
   have hx:L[j]? =some L[j]:=List.getElem?_eq_getElem hjl
   have hme:L[j].e∈l:=by rw[←hC.eq]; exact List.mem_map_of_mem (List.getElem_mem hjl)
   have hms:=hsh.out _ hme
   have c0:wr.cell? ⟨tb,j*3,none⟩=some (.int .i64 L[j].key):=(hC.mine.row.cellAt (j*3) (by omega)).trans (flat_get TenM.cells_len L j 0 hjl (by omega))
   have c1:wr.cell? ⟨tb,j*3+1,none⟩=some (.int .i64 L[j].quota):=(hC.mine.row.cellAt (j*3+1) (by omega)).trans (flat_get TenM.cells_len L j 1 hjl (by omega))
   have c2:wr.cell? ⟨tb,j*3+2,none⟩=some (.slice L[j].sa L[j].sn L[j].sc):=(hC.mine.row.cellAt (j*3+2) (by omega)).trans (flat_get TenM.cells_len L j 2 hjl (by omega))
   have hsr:=hC.mine.src j _ hx (Nat.le_refl _)
   have htd:=hid (hC.todo j _ hx (Nat.le_refl _))
   replace hx:=hid hx
   generalize L[j]=m at *
   have hms3:m.sn≤3:=by have:=hms.1; rw[←hsr.2.1]; simpa [TenM.e] using this
   have hmsh:Hid (∀ s∈m.ms,Shape s.x):=hid (fun s hs=>hms.2 s.x (List.mem_map_of_mem (f:=fun s:SetM=>s.x) hs))
   have hml:=hid hsr.2.1
   have htb:=hC.mine.row.lt tb rfl
   have b5:=below_alloc wr (.cells #[.int .i64 m.key,.int .i64 m.quota,.slice m.sa m.sn m.sc] 64)
   have k5:CellsAt _ wr.heap.size #[.int .i64 m.key,.int .i64 m.quota,.slice m.sa m.sn m.sc] 64:=cellsAt_alloc wr _ _
   replace hC:=hid hC
   replace b5:=hid b5
   replace k5:=hid k5
   clear hms hme hsr
   go_upto_region 5 with fail
   clear c0 c1 c2
   have hz5:Hid ((wr.alloc (.cells #[.int .i64 m.key,.int .i64 m.quota,.slice m.sa m.sn m.sc] 64)).heap.size=wr.heap.size+1):=hid (by simp)
   generalize wr.alloc (.cells #[.int .i64 m.key,.int .i64 m.quota,.slice m.sa m.sn m.sc] 64)=w5 at *
   have q2:=k5.out.cell 2
   simp at q2
   go_wp2_with fail
   refine(cloneT_any m.sa m.sn m.sc (setCells m.ms) w5 (by omega) (by rw[setCells_len,hml.out]) (setCells_one _) ((htd.out.1.below (hC.out.bel.trans (b5.out.mono (by omega)))).src (by rw[hz5.out]; omega))).mono ?_
   rintro e w6 ⟨b6,a', c', rfl,hc6,ho6⟩
   have b56:=hid (Below.tr b5.out b6)
   have hR:=hid (hC.out.row hx.out b56.out (Nat.le_of_lt (show wr.heap.size<w5.heap.size by rw[hz5.out]; omega)) ho6)
   have fr:=((hC.out.below b56.out).mine.row.frozenAt (j*3+2))
   have d2:w6.cell? ⟨tb,j*3+2,none⟩=some (.slice m.sa m.sn m.sc):=((hC.out.below b56.out).mine.row.cellAt (j*3+2) (by omega)).trans (by
    obtain⟨h1,h2⟩:=List.getElem?_eq_some_iff.1 hx.out
    have:=flat_get TenM.cells_len L j 2 h1 (by omega)
    rw[h2] at this
    exact this)
   have k6:=(k5.out.below b6).past (a:=⟨tb,j*3+2,none⟩) (show wr.heap.size≠tb by omega) (.slice a' m.sn c')
   have r2:=k6.cell 2
   simp at r2
   replace k6:=hid k6
   replace ho6:=hid ho6
   replace b6:=hid b6
   clear q2
   go_wp2_with fail
   have hset0:Hid ((L.set j { m with sa:=a', sc:=c' })[j]? =some { m with sa:=a', sc:=c' }):=hid (List.getElem?_set_self hjl)
   clear d2 fr r2 k6 ho6 b6 b56 hx hC k5 b5 hz5 htb hjl hLl
   generalize w6.setCell ⟨tb,j*3+2,none⟩ (.slice a' m.sn c')=w7 at *
   generalize m.sa=msa at *
   go_loopw [28] (fun v wr=>∃ (k:Nat) (L':List TenM) (m2:TenM),k≤m.sn∧v=.int .i64 k∧CpAt K w.heap.size w wr a n c ta tn tc (some ⟨tb,0,none⟩) tc' l L' (j+1)∧L'[j]? =some m2∧m2.sa=a'∧m2.sn=m.sn∧m2.sc=c'∧m2.e=m.e) (fun v _=>m.sn-(Go.RowKit.intOf v).toNat)
   case atStart=>exact⟨0,_,_,Nat.zero_le _,rfl,hR.out,hset0.out,rfl,rfl,rfl,rfl⟩
   case round=>
    clear hR hset0
    obtain⟨k,L', m2,hk,rfl,hC,hm2,e1,e2,e3,e4⟩:=hrel
    by_cases hkl:k<m.sn
    ·have hkm:k<m.ms.length:=by rw[hml.out]; exact hkl
     have hmap:m2.ms.map (·.x)=m.ms.map (·.x):=(TenE.mk.inj e4).2.2
     have hkm2:k<m2.ms.length:=by have:=congrArg List.length hmap; simp only[List.length_map] at this; omega
     have hs2:m2.ms[k]? =some m2.ms[k]:=List.getElem?_eq_getElem hkm2
     have hsx:m2.ms[k].x=m.ms[k].x:=by
      have:=congrArg (fun q=>q[k]?) hmap
      simpa [hkm,hkm2] using this
     have hsrc:=htd.out.1.below hC.bel
     obtain⟨sb,off,rfl,hsb,hcs⟩:=hsrc (by omega)
     have hg:=fun r (hr:r<3)=>hcs (k*3+r) _ ((flat_get SetM.cells_len m.ms k r hkm hr).trans (List.getElem?_eq_getElem (by rw[SetM.cells_len]; exact hr)))
     have s0:wr.cell? ⟨sb,off+k*3,none⟩=some (.string m.ms[k].v.name):=hg 0 (by omega)
     have s1:wr.cell? ⟨sb,off+k*3+1,none⟩=some (.slice m.ms[k].v.fa m.ms[k].v.fn m.ms[k].v.fc):=hg 1 (by omega)
     have s2:wr.cell? ⟨sb,off+k*3+2,none⟩=some (.slice m.ms[k].v.sa m.ms[k].v.sn m.ms[k].v.sc):=hg 2 (by omega)
     have hX:=(htd.out.2 m.ms[k] (List.getElem_mem hkm)).belowH hC.bel
     have hSh:=hid (hmsh.out m.ms[k] (List.getElem_mem hkm))
     rw[←hsx] at hX hSh
     replace hs2:=hid hs2
     replace hsx:=hid hsx
     clear hg hcs hsrc hmap
     generalize m2.ms[k]=s at *
     generalize m.ms[k]=s' at *
     obtain⟨v,x'⟩:=s'
     simp only at s0 s1 s2 hX
     clear hsx
     have b8:=below_alloc wr (.cells #[.string v.name,.slice v.fa v.fn v.fc,.slice v.sa v.sn v.sc] 84)
     have k8:CellsAt _ wr.heap.size #[.string v.name,.slice v.fa v.fn v.fc,.slice v.sa v.sn v.sc] 84:=cellsAt_alloc wr _ _
     have hX8:=hid (hX.below b8)
     replace b8:=hid b8
     replace k8:=hid k8
     replace hC:=hid hC
     clear hX
     go_upto_region 9 with fail
     clear s0 s1 s2
     have hz8:(wr.alloc (.cells #[.string v.name,.slice v.fa v.fn v.fc,.slice v.sa v.sn v.sc] 84)).heap.size=wr.heap.size+1:=by simp
     generalize wr.alloc (.cells #[.string v.name,.slice v.fa v.fn v.fc,.slice v.sa v.sn v.sc] 84)=w8 at *
     obtain⟨rb,hrb⟩:∃ rb,m2.sa=some ⟨rb,0,none⟩:=by
      rcases(hC.out.mine.own j m2 hm2 (by omega)).2 with⟨h0,h1⟩ | ⟨g,cap,cur,h0,_⟩
      ·omega
      ·simp only[Value.slice.injEq] at h0; exact⟨g,h0.1⟩
     obtain rfl:a'=some ⟨rb,0,none⟩:=by rw[←e1,hrb]
     have hC8:=hC.out.below b8.out
     have hown:=hC8.mine.own j m2 hm2 (by omega)
     rw[hrb,e2,e3] at hown
     have hrow:=hC8.mine.row
     have J:Hid (∀ (w9:World) (u:SetV) (lo:Nat) (mss:List SnapM),Below w8.heap.size w8 w9→w8.heap.size≤lo→SetNew lo (fun b=>lo≤b) w9 u s.x mss→CpAt K w.heap.size w (putK w9 rb (k*3) u) a n c ta tn tc (some ⟨tb,0,none⟩) tc' l (L'.set j { m2 with ms:=m2.ms.set k ⟨u,s.x⟩ }) (j+1)):=hid (fun w9 u lo mss b9 hlo hN=>hC8.lay hm2 hrb hs2.out b9 (hN.at.weaken (fun b _ q=>by omega)))
     have hjl:j<L'.length:=(List.getElem?_eq_some_iff.1 hm2).1
     have hJ2:Hid (∀ u:SetV,(L'.set j { m2 with ms:=m2.ms.set k ⟨u,s.x⟩ })[j]? =some { m2 with ms:=m2.ms.set k ⟨u,s.x⟩ }∧({ m2 with ms:=m2.ms.set k ⟨u,s.x⟩ }:TenM).e=m.e):=hid (fun u=>⟨List.getElem?_set_self hjl,by
      rw[←e4]
      obtain⟨h1,h2⟩:=List.getElem?_eq_some_iff.1 hs2.out
      simp only[TenM.e,TenE.mk.injEq,true_and]
      rw[List.map_set]
      apply List.ext_getElem?
      intro i
      rw[List.getElem?_set]
      split
      ·rename_i e
       subst e
       simp[h1,h2]
      ·rfl⟩)
     have t2:w8.cell? ⟨tb,j*3+2,none⟩=some (.slice (some ⟨rb,0,none⟩) m.sn c'):=(hrow.cellAt (j*3+2) (by rw[←hrow.1,tenCells_len]; omega)).trans (by
      obtain⟨h1,h2⟩:=List.getElem?_eq_some_iff.1 hm2
      have:=flat_get TenM.cells_len L' j 2 h1 (by omega)
      rw[h2] at this
      rw[show tenCells L'=L'.flatMap TenM.cells from rfl,this]
      simp[TenM.cells,hrb,e2,e3])
     have htb8:=(hrow.lt tb rfl).2
     have hrb8:=(hown.lt rb rfl).2
     have q0:=k8.out.cell 0
     have q1:=k8.out.cell 1
     have q2:=k8.out.cell 2
     simp at q0 q1 q2
     have g0:=hown.frozenAt (k*3)
     have g1:=hown.frozenAt (k*3+1)
     have g2:=hown.frozenAt (k*3+2)
     have hlk:(setCells m2.ms).length=m.sn*3:=by rw[setCells_len]; have:=hown.1; rw[setCells_len] at this; omega
     have r0:=hown.cellAt (k*3) (by omega)
     have r1:=hown.cellAt (k*3+1) (by omega)
     have r2:=hown.cellAt (k*3+2) (by omega)
     rw[List.getElem?_eq_getElem (by omega)] at r0 r1 r2
     generalize (setCells m2.ms)[k*3]=y0 at *
     generalize (setCells m2.ms)[k*3+1]=y1 at *
     generalize (setCells m2.ms)[k*3+2]=y2 at *
     have hk0:(0:Int)≤(k:Int):=by omega
     have hks:(k:Int)<(m.sn:Int):=by omega
     have hj0:(0:Int)≤(j:Int):=by omega
     have hjs:(j:Int)<(tn:Int):=by omega
     have hq8:=k8.out.lt
     replace e2:=hid e2
     replace e3:=hid e3
     replace e1:=hid e1
     replace e4:=hid e4
     clear hC8 hown hrow hC hm2 hlk hs2 hrb
     go_region_with (go_at_call 33; refine(copySet_lo (fun b=>b<w.heap.size) v s.x _ ?_ hSh.out).mono ?_; exact hX8.out.below (below_drew _ _); rintro e w9 ⟨⟨u,mss,lo,rfl,hlo,hN⟩,b9⟩; replace b9:Below w8.heap.size w8 w9:=(below_drew _ _).trans b9; replace hlo:w8.heap.size≤lo:=hlo; have t2':=(b9.cell (p:=⟨tb,j*3+2,none⟩) htb8).trans t2; have r0':=(b9.cell (p:=⟨rb,k*3,none⟩) hrb8).trans r0; have r1':=(b9.cell (p:=⟨rb,k*3+1,none⟩) hrb8).trans r1; have r2':=(b9.cell (p:=⟨rb,k*3+2,none⟩) hrb8).trans r2; have g0':=(b9.frozen (p:=⟨rb,k*3,none⟩) hrb8).trans g0; have g1':=(b9.frozen (p:=⟨rb,k*3+1,none⟩) hrb8).trans g1; have g2':=(b9.frozen (p:=⟨rb,k*3+2,none⟩) hrb8).trans g2; replace hN:=hid hN; replace b9:=hid b9)
     all_goals (
      go_wp2_with fail
      go_roundw
      case rel=>exact⟨k+1,_,_,by omega,by go_num,J.out _ _ _ _ b9.out hlo hN.out,(hJ2.out _).1,e1.out,e2.out,e3.out,(hJ2.out _).2⟩
      case measure=>simp[Go.RowKit.intOf]; omega)
    ·replace hC:=hid hC
     go_wp2_with fail
     go_roundw
     case rel=>exact⟨j+1,L', by omega,by go_num,hC.out⟩
     case measure=>simp[Go.RowKit.intOf]; omega
  ·obtain rfl:j=tn:=by omega
   have hsz:=hC.mine.sz
   have p0:=hC.box.cell 0
   simp at p0
   have hbx:=hC.box.lt
   have hstr:=hid (hst.out.below hC.bel)
   replace hC:=hid hC
   go_wp2_with fail
   refine(copy_any ⟨w.heap.size,0,none⟩ a n c B wr ⟨hbx,p0,hstr.out⟩ hn hF.out).mono ?_
   rintro e w9 ⟨b9,g,rfl,hg,hO⟩
   have hC9:=hC.out.below b9
   have r0:=hC9.res.cell 0
   have r1:=hC9.res.cell 1
   have g0:=hC9.res.frozen 0
   have g1:=hC9.res.frozen 1
   simp at r0 r1
   replace hC9:=hid hC9
   replace hO:=hid hO
   replace b9:=hid b9
   go_wp2_with fail
   clear r0 r1 g0 g1
   have k3:=(hC9.out.res.set 0 (.slice (some ⟨g,0,none⟩) n n)).set 1 (.slice ta' j tc')
   simp only[List.setIfInBounds_toArray,List.set_cons_succ,List.set_cons_zero] at k3
   have kk:Kept (w.heap.size+1) w9 ((w9.setCell ⟨w.heap.size+1,0,none⟩ (.slice (some ⟨g,0,none⟩) n n)).setCell ⟨w.heap.size+1,1,none⟩ (.slice ta' j tc')):=
    Kept.setCell (g:=w.heap.size+1) (Kept.setCell (g:=w.heap.size+1) (Kept.refl _ _) (p:=⟨w.heap.size+1,0,none⟩) rfl _) (p:=⟨w.heap.size+1,1,none⟩) rfl _
   have on:=Only.of_kept (M:=fun b=>b=w.heap.size+1) kk rfl
   have hlL:=hC9.out.mine.len
   have hmine:=hC9.out.mine.only on (fun b hb=>.inr ⟨by omega,fun f=>absurd f (by omega)⟩)
   refine bodyPost_ret (v:=.agg #[.slice (some ⟨g,0,none⟩) n n,.slice ta' j tc']) ?_ rfl ⟨⟨g,ta', tc', L,rfl,by omega,?_,hmine.base (by omega) (fun b f=>by omega) (by omega),hC9.out.eq,fun b hb=>?_⟩,hC9.out.bel.trans (kk.below (by omega))⟩
   ·exact results_cell_row rfl _ _ (w.heap.size+1) _ _ _ _ rfl k3 Tryz.underlying27 rfl (by kernel_rfl)
   ·exact hO.out.kept (by omega) kk
   ·have:=(hC.out.mine.ge hb).2; omega
end Go.Proofs.YtjafgnohlkkopaaGreatDoor

namespace Go.Proofs.YtjafgnohlkkopaaGreatDoor
open Go.RowKit
theorem cmpT_any (x:SetE) (v:SetV) (t:ByteArray) (w:World):
 Calls Tryz.prog 67 #[.agg #[.string x.name,.slice v.fa v.fn v.fc,.slice v.sa v.sn v.sc],.string t] w fun e w'=>e=.returned (.int .i64 (Lib.compareBytes x.nm t.data.toList))∧Below w.heap.size w w':=by
 have b0:=below_alloc w (.cells (Value.cells (.agg #[.string x.name,.slice v.fa v.fn v.fc,.slice v.sa v.sn v.sc])) 84)
 go_enter Tryz.func67,Tryz.ntmps67
 go_wp2_with fail
 refine(compare_any x.name t _).mono ?_
 rintro e w1 ⟨rfl,rfl⟩
 go_wp2_with fail
 go_ret
 exact⟨rfl,b0⟩
set_option maxHeartbeats 2000000 in
set_option maxRecDepth 100000 in
theorem searchT_any (Q:Nat→Prop) (a:Option Addr) (n c:Nat) (l:List SetE) (t:ByteArray) (w:World) (hn:n≤1000) (h:SetsAt Q w a n l) (ho:l.Pairwise fun a b=>a.nm<b.nm):
 Calls Tryz.prog 66 #[.slice a n c,.string t,.func (.func 67) #[] #[]] w fun e w'=>RetF SetE.nm l t.data.toList e∧Below w.heap.size w w':=by
 have hl:=hid h.1
 replace h:=hid h
 replace ho:=hid ho
 go_enter Tryz.func66,Tryz.ntmps66
 go_wp2_with fail
 go_loopw [9,10] (fun u v wr=>∃ i j:Nat,i≤j∧j≤n∧u=.int .i64 i∧v=.int .i64 j∧Below w.heap.size w wr∧(∀ x∈l.take i,x.nm<t.data.toList)∧∀ x∈l.drop j,¬x.nm<t.data.toList) (fun u v _=>(Go.RowKit.intOf v).toNat-(Go.RowKit.intOf u).toNat)
 case atStart=>exact⟨0,n,Nat.zero_le _,Nat.le_refl _,rfl,rfl,Below.refl _ _,by simp,by rw[List.drop_of_length_le (by rw[hl.out]; exact Nat.le_refl _)]; simp⟩
 case round=>
  obtain⟨i,j,hij,hjn,rfl,rfl,hbel,h1,h2⟩:=hrel
  replace h1:=hid h1
  replace h2:=hid h2
  by_cases hlt:i<j
  ·obtain⟨m,hm⟩:∃ m:Nat,m=(i+j) / 2:=⟨_,rfl⟩
   have hm':((i:Int)+(j:Int)) / 2=(m:Int):=by omega
   have hmi:i≤m∧m<j:=by omega
   clear hm
   have hml:m<l.length:=by rw[hl.out]; omega
   have h':=h.out.below hbel
   obtain⟨b,off,rfl⟩:∃ b off,a=some ⟨b,off,none⟩:=by
    obtain⟨b,off,e,_⟩:=h'.2 (by omega)
    exact⟨b,off,e⟩
   have hx:l[m]? =some (l.getD m SetE.zero):=by rw[List.getElem?_eq_getElem hml]; simp[List.getD,hml]
   obtain⟨v,hE⟩:=h'.set (i:=m) (by omega)
   have c2:=hE.c2
   have c0:=hE.c0
   rw[hE.ok.name] at c0
   have c1:=hE.c1
   replace hx:=hid hx
   clear hE h'
   generalize l.getD m SetE.zero=x at *
   go_wp2_with fail
   refine(cmpT_any x v t wr).mono ?_
   rintro e w1 ⟨rfl,b1⟩
   clear c0 c1 c2
   have hL:=found_left ho.out (t:=t.data.toList) hx.out
   have hR:=found_right ho.out (t:=t.data.toList) hx.out
   rw[←cb_lt] at hL hR
   generalize Lib.compareBytes x.nm t.data.toList=r at *
   replace hL:=hid hL
   replace hR:=hid hR
   replace hbel:=Below.tr hbel b1
   by_cases hr:r<0
   ·have hr':decide (r<0)=true:=by simp[hr]
    go_wp2_with fail
    go_roundw
    case rel=>exact⟨m+1,j,by omega,hjn,by go_num,rfl,hbel,hL.out hr,h2.out⟩
    case measure=>simp[Go.RowKit.intOf]; omega
   ·have hr':decide (r<0)=false:=by simp[hr]
    go_wp2_with fail
    go_roundw
    case rel=>exact⟨i,m,hmi.1,by omega,rfl,rfl,hbel,h1.out,hR.out hr⟩
    case measure=>simp[Go.RowKit.intOf]; omega
  ·obtain rfl:i=j:=by omega
   by_cases hin:i<n
   ·have hml:i<l.length:=by rw[hl.out]; omega
    have h':=h.out.below hbel
    obtain⟨b,off,rfl⟩:∃ b off,a=some ⟨b,off,none⟩:=by
     obtain⟨b,off,e,_⟩:=h'.2 (by omega)
     exact⟨b,off,e⟩
    have hx:l[i]? =some (l.getD i SetE.zero):=by rw[List.getElem?_eq_getElem hml]; simp[List.getD,hml]
    obtain⟨v,hE⟩:=h'.set (i:=i) (by omega)
    have c2:=hE.c2
    have c0:=hE.c0
    rw[hE.ok.name] at c0
    have c1:=hE.c1
    replace hx:=hid hx
    clear hE h'
    generalize l.getD i SetE.zero=x at *
    go_wp2_with fail
    refine(cmpT_any x v t wr).mono ?_
    rintro e w1 ⟨rfl,b1⟩
    clear c0 c1 c2
    have hq:=cb_eq x.nm t.data.toList
    generalize Lib.compareBytes x.nm t.data.toList=r at *
    have J:Hid (RetF SetE.nm l t.data.toList (.returned (.tuple #[.int .i64 i,.bool (r == 0)]))):=hid ⟨i,_,rfl,by rw[hl.out]; exact hjn,h1.out,h2.out,by
     rw[hx.out,beq_iff_eq,hq]
     constructor
     ·intro h; exact⟨x,rfl,h⟩
     ·rintro⟨y,e,h⟩; cases e; exact h⟩
    replace hbel:=Below.tr hbel b1
    clear hq
    go_wp2_with fail
    go_ret2
    exact⟨J.out,hbel⟩
   ·have J:Hid (RetF SetE.nm l t.data.toList (.returned (.tuple #[.int .i64 i,.bool false]))):=hid ⟨i,_,rfl,by rw[hl.out]; exact hjn,h1.out,h2.out,by
     rw[List.getElem?_eq_none (by rw[hl.out]; omega)]
     simp⟩
    go_wp2_with fail
    go_ret2
    exact⟨J.out,hbel⟩
theorem findT_any (Q:Nat→Prop) (a:Option Addr) (n c:Nat) (l:List SetE) (t:ByteArray) (w:World) (hn:n≤1000) (h:SetsAt Q w a n l) (ho:l.Pairwise fun a b=>a.nm<b.nm):
 Calls Tryz.prog 36 #[.slice a n c,.string t] w fun e w'=>RetF SetE.nm l t.data.toList e∧Below w.heap.size w w':=by
 go_enter Tryz.func36,Tryz.ntmps36
 go_wp2_with fail
 refine(searchT_any Q a n c l t w hn h ho).mono ?_
 rintro e w1 ⟨⟨p,b,rfl,hF⟩,b1⟩
 replace hF:=hid hF
 go_wp2_with fail
 go_ret2
 exact⟨⟨p,b,rfl,hF.out⟩,b1⟩
end Go.Proofs.YtjafgnohlkkopaaGreatDoor

namespace Go.Proofs.YtjafgnohlkkopaaGreatDoor
open Go.RowKit
structure PSt (H:Nat) (X:Nat→Prop) (w:World) (ob g n:Nat) (B:Nat→Blk) (ta:Option Addr) (tn tc:Nat) (L:List TenM):Prop where
 box:CellsAt w ob #[.slice (some ⟨g,0,none⟩) n n,.slice ta tn tc] 27
 lt:g<w.heap.size
 blocks:Blocks (fun b=>g<b∧¬RowsP (.slice ta tn tc) L tn b∧¬X b) w g 0 n B
 free:∀ i,i<n*4→w.frozen? ⟨g,i,none⟩=false
 gno:¬RowsP (.slice ta tn tc) L tn g∧¬X g
 mine:MineP H X w ta tn tc L tn
 hob:H≤ob
 hx:X ob
theorem PSt.own {H:Nat} {X:Nat→Prop} {w:World} {ob g n:Nat} {B:Nat→Blk} {ta:Option Addr} {tn tc:Nat} {L:List TenM} (h:PSt H X w ob g n B ta tn tc L):Own w g n B:=⟨h.lt,h.blocks.weaken (fun b _ q=>q.1),h.free⟩
theorem PSt.below {H:Nat} {X:Nat→Prop} {w w':World} {ob g n:Nat} {B:Nat→Blk} {ta:Option Addr} {tn tc:Nat} {L:List TenM} (h:PSt H X w ob g n B ta tn tc L) (b:Below w.heap.size w w'):PSt H X w' ob g n B ta tn tc L:=
 ⟨h.box.below b,Nat.lt_of_lt_of_le h.lt b.size,h.blocks.below b,(h.own.below b).free,h.gno,h.mine.below b,h.hob,h.hx⟩
theorem PSt.ptr {H:Nat} {X:Nat→Prop} {w:World} {ob g n:Nat} {B:Nat→Blk} {ta:Option Addr} {tn tc:Nat} {L:List TenM} (h:PSt H X w ob g n B ta tn tc L):PtrAt w ⟨ob,0,none⟩ (some ⟨g,0,none⟩) n n B:=⟨h.box.lt,by have:=h.box.cell 0; simpa using this,h.own.store⟩
theorem PSt.step {H:Nat} {X:Nat→Prop} {w w':World} {ob g n:Nat} {B:Nat→Blk} {ta:Option Addr} {tn tc:Nat} {L L':List TenM} {M:Nat→Prop} (h:PSt H X w ob g n B ta tn tc L) (on:Only M w w') (hM:∀ b,M b→RowsP (.slice ta tn tc) L tn b) (hm:MineP H X w' ta tn tc L' tn) (hR:∀ b,RowsP (.slice ta tn tc) L' tn b→RowsP (.slice ta tn tc) L tn b∨w.heap.size≤b):PSt H X w' ob g n B ta tn tc L':=by
 have hg:¬M g:=fun f=>h.gno.1 (hM g f)
 refine⟨on.cells h.box (fun f=>h.mine.rx ob (hM ob f) h.hx),Nat.lt_of_lt_of_le h.lt on.size,?_,fun i hi=>?_,⟨fun f=>?_,h.gno.2⟩,hm,h.hob,h.hx⟩
 ·refine(on.blocks (h.blocks.weaken (R:=fun b=>(g<b∧¬RowsP (.slice ta tn tc) L tn b∧¬X b)∧b<w.heap.size) (fun b hb q=>⟨q,hb⟩)) hg h.lt (fun b q f=>q.1.2.1 (hM b f))).weaken (fun b _ q=>⟨q.1.1,fun f=>?_,q.1.2.2⟩)
  rcases hR b f with f | f
  ·exact q.1.2.1 f
  ·have:=q.2; omega
 ·rw[World.frozen?_of_block (w:=w) (on.block g h.lt hg)]
  exact h.free i hi
 ·rcases hR g f with f | f
  ·exact h.gno.1 f
  ·have:=h.lt; omega
theorem PSt.swap {H:Nat} {X:Nat→Prop} {w w7:World} {ob g n g':Nat} {B C:Nat→Blk} {ta:Option Addr} {tn tc:Nat} {L:List TenM} (h:PSt H X w ob g n B ta tn tc L) (b7:Below w.heap.size w w7) (hO:Own w7 g' n C) (hg:w.heap.size≤g'):PSt H X (w7.setCell ⟨ob,0,none⟩ (.slice (some ⟨g', 0,none⟩) n n)) ob g' n C ta tn tc L:=by
 have h7:=h.below b7
 have kk:Kept ob w7 (w7.setCell ⟨ob,0,none⟩ (.slice (some ⟨g', 0,none⟩) n n)):=Kept.setCell (g:=ob) (Kept.refl _ _) (p:=⟨ob,0,none⟩) rfl _
 have hob:=h.box.lt
 have hO':=hO.kept (by omega) kk
 have hlen:=h.mine.len
 have k:=h7.box.set 0 (.slice (some ⟨g', 0,none⟩) n n)
 simp only[List.setIfInBounds_toArray,List.set_cons_zero] at k
 refine⟨k,hO'.lt,hO'.blocks.weaken (fun b _ q=>⟨q,fun f=>?_,fun x=>by have:=h.mine.xlt b x; omega⟩),hO'.free,⟨fun f=>?_,fun x=>by have:=h.mine.xlt _ x; omega⟩,h7.mine.only (Only.of_kept (M:=fun b=>b=ob) kk rfl) (fun b e=>.inr ⟨e▸h.hx,fun f=>absurd f (by omega)⟩),h.hob,h.hx⟩
 ·have:=(h.mine.ge f).2; omega
 ·have:=(h.mine.ge f).2; omega
theorem PSt.ten {H:Nat} {X:Nat→Prop} {w:World} {ob g n:Nat} {B:Nat→Blk} {tb tn tc:Nat} {L:List TenM} (h:PSt H X w ob g n B (some ⟨tb,0,none⟩) tn tc L) {i:Nat} {m:TenM} (hm:L[i]? =some m):w.cell? ⟨tb,i*3,none⟩=some (.int .i64 m.key)∧w.cell? ⟨tb,i*3+1,none⟩=some (.int .i64 m.quota)∧w.cell? ⟨tb,i*3+2,none⟩=some (.slice m.sa m.sn m.sc)∧w.frozen? ⟨tb,i*3+2,none⟩=false∧tb<w.heap.size:=by
 obtain⟨hi,rfl⟩:=List.getElem?_eq_some_iff.1 hm
 have hl:=h.mine.len
 exact⟨(h.mine.row.cellAt (i*3) (by omega)).trans (flat_get TenM.cells_len L i 0 hi (by omega)),(h.mine.row.cellAt (i*3+1) (by omega)).trans (flat_get TenM.cells_len L i 1 hi (by omega)),(h.mine.row.cellAt (i*3+2) (by omega)).trans (flat_get TenM.cells_len L i 2 hi (by omega)),h.mine.row.frozenAt _,(h.mine.row.lt tb rfl).2⟩
theorem PSt.sets {H:Nat} {X:Nat→Prop} {w:World} {ob g n:Nat} {B:Nat→Blk} {ta:Option Addr} {tn tc:Nat} {L:List TenM} (h:PSt H X w ob g n B ta tn tc L) {i:Nat} {m:TenM} (hm:L[i]? =some m):SetsAt (fun _=>True) w m.sa m.sn (m.ms.map (·.x)):=by
 obtain⟨hi,hmi⟩:=List.getElem?_eq_some_iff.1 hm
 have hl:=h.mine.len
 exact(sets_own (fun s hs=>h.mine.lists m (List.mem_of_getElem? hm) s hs) (h.mine.own i m hm (by omega))).weaken (fun _ _ _=>trivial)
theorem PSt.put {H:Nat} {X:Nat→Prop} {w w7:World} {ob g n:Nat} {B:Nat→Blk} {tb tn tc:Nat} {L:List TenM} {i:Nat} {m:TenM} {a':Option Addr} {n' c':Nat} {ms':List SetM} (h:PSt H X w ob g n B (some ⟨tb,0,none⟩) tn tc L) (hm:L[i]? =some m)
 (on:Only (fun b=>(Value.slice m.sa m.sn m.sc).ownBlock=some b) w w7) (ho:w7.ownsRow H 84 3 (.slice a' n' c') n' (setCells ms'))
 (hb:∀ b,(Value.slice a' n' c').ownBlock=some b→(Value.slice m.sa m.sn m.sc).ownBlock=some b∨w.heap.size≤b)
 (hnew:∀ s∈ms', s∈m.ms∨SetAt (fun b=>¬RowsP (.slice (some ⟨tb,0,none⟩) tn tc) L tn b∧¬X b) w s.v s.x∨SetAt (fun b=>w.heap.size≤b∧(Value.slice a' n' c').ownBlock≠some b) w7 s.v s.x):
 PSt H X (w7.setCell ⟨tb,i*3+2,none⟩ (.slice a' n' c')) ob g n B (some ⟨tb,0,none⟩) tn tc (L.set i { m with sa:=a', sn:=n', sc:=c', ms:=ms' }):=by
 obtain⟨hi,hmi⟩:=List.getElem?_eq_some_iff.1 hm
 have hl:=h.mine.len
 have hin:i<tn:=by omega
 have htop:=h.mine.top i m hm hin
 have htb:=h.mine.row.lt tb rfl
 have kk:Kept tb w7 (w7.setCell ⟨tb,i*3+2,none⟩ (.slice a' n' c')):=Kept.setCell (g:=tb) (Kept.refl _ _) (p:=⟨tb,i*3+2,none⟩) rfl _
 have onk:=Only.of_kept (M:=fun b=>b=tb) kk rfl
 have on2:Only (fun b=>b=tb∨(Value.slice m.sa m.sn m.sc).ownBlock=some b) w (w7.setCell ⟨tb,i*3+2,none⟩ (.slice a' n' c')):=(on.mono (fun b _ q=>.inr q)).trans (onk.mono (fun b _ q=>.inl q))
 have hne:∀ b,(Value.slice a' n' c').ownBlock=some b→b≠tb:=fun b f e=>by
  subst e
  rcases hb b f with f | f
  ·exact htop b f rfl
  ·omega
 have hmine:=h.mine.step (w':=w7.setCell ⟨tb,i*3+2,none⟩ (.slice a' n' c')) (m':={ m with sa:=a', sn:=n', sc:=c', ms:=ms' }) hm (.inl ⟨hin,rfl⟩) on2 (fun b q=>by
  rcases q with q | q
  ·subst q; exact .inl rfl
  ·exact .inr ⟨hin,q⟩) (by
  have h1:=((on.row h.mine.row (fun b hb f=>htop b f hb)).stored (i*3+2) (.slice a' n' c')).1
  have h2:(tenCells L).set (i*3+2) (.slice a' n' c')=tenCells (L.set i { m with sa:=a', sn:=n', sc:=c', ms:=ms' }):=flat_set TenM.cells_len L i 2 { m with sa:=a', sn:=n', sc:=c', ms:=ms' } _ hi (by omega) (by rw[hmi]; rfl)
  rw[←h2]
  exact h1) (onk.row ho (fun b f e=>hne b f e)) (fun b f=>by
  rcases hb b f with f | f
  ·exact .inl ⟨hin,f⟩
  ·exact .inr f) (fun s hs=>by
  rcases hnew s hs with f | f | f
  ·exact .inl f
  ·exact .inr (.inl f)
  ·exact .inr (.inr (onk.setAt f (fun b q e=>by subst e; have:=q.1; omega)))) ⟨rfl,rfl⟩
 refine h.step on2 (fun b q=>?_) hmine (fun b f=>?_)
 ·rcases q with q | q
  ·subst q; exact .inl rfl
  ·exact .inr ⟨i,m,hin,hm,q⟩
 ·rcases f with f | ⟨k,u,hk,hu,f⟩
  ·exact .inl (.inl f)
  ·by_cases e:k=i
   ·subst e
    rw[List.getElem?_set_self hi] at hu
    cases hu
    rcases hb b f with f | f
    ·exact .inl (.inr ⟨k,m,hk,hm,f⟩)
    ·exact .inr f
   ·rw[List.getElem?_set_ne (fun f=>e f.symm)] at hu
    exact .inl (.inr ⟨k,u,hk,hu,f⟩)
theorem PSt.lay {H:Nat} {X:Nat→Prop} {w w7:World} {ob g n:Nat} {B:Nat→Blk} {ta:Option Addr} {tn tc:Nat} {L:List TenM} {i k rb:Nat} {m:TenM} {u:SetV} {x:SetE} (h:PSt H X w ob g n B ta tn tc L) (hm:L[i]? =some m) (ha:m.sa=some ⟨rb,0,none⟩) (hk:k<m.ms.length) (b7:Below w.heap.size w w7) (hX:SetAt (fun b=>w.heap.size≤b) w7 u x):
 PSt H X (putK w7 rb (k*3) u) ob g n B ta tn tc (L.set i { m with ms:=m.ms.set k ⟨u,x⟩ }):=by
 obtain⟨hi,hmi⟩:=List.getElem?_eq_some_iff.1 hm
 have hl:=h.mine.len
 have hin:i<tn:=by omega
 have on:Only (fun b=>b=rb) w (putK w7 rb (k*3) u):=(Only.of_below b7).trans (Only.of_kept (kept_putK w7 rb (k*3) u) rfl)
 refine h.step on (fun b e=>.inr ⟨i,m,hin,hm,by subst e; rw[ha]; rfl⟩) (h.mine.lay hm hin ha hk b7 hX) (fun b f=>.inl ?_)
 rcases f with f | ⟨q,v,hq,hv,f⟩
 ·exact .inl f
 ·by_cases e:q=i
  ·subst e
   rw[List.getElem?_set_self hi] at hv
   cases hv
   exact .inr ⟨q,m,hq,hm,f⟩
  ·rw[List.getElem?_set_ne (fun f=>e f.symm)] at hv
   exact .inr ⟨q,v,hq,hv,f⟩
theorem PSt.kept {H:Nat} {X:Nat→Prop} {w w':World} {ob g n q:Nat} {B:Nat→Blk} {ta:Option Addr} {tn tc:Nat} {L:List TenM} (h:PSt H X w ob g n B ta tn tc L) (kk:Kept q w w') (hq:X q) (hne:q≠ob):PSt H X w' ob g n B ta tn tc L:=by
 have on:=Only.of_kept (M:=fun b=>b=q) kk rfl
 have hlen:=h.mine.len
 have hg:g≠q:=fun e=>h.gno.2 (e▸hq)
 refine⟨on.cells h.box (fun e=>hne e.symm),Nat.lt_of_lt_of_le h.lt on.size,on.blocks h.blocks hg h.lt (fun b qb e=>qb.2.2 (e▸hq)),fun i hi=>?_,h.gno,h.mine.only on (fun b e=>.inr ⟨e▸hq,fun f=>absurd f (by omega)⟩),h.hob,h.hx⟩
 rw[World.frozen?_of_block (w:=w) (on.block g h.lt hg)]
 exact h.free i hi
theorem PSt.clear {H:Nat} {X Y:Nat→Prop} {w w':World} {ob g n:Nat} {B:Nat→Blk} {ta:Option Addr} {tn tc:Nat} {L:List TenM} (h:PSt H X w ob g n B ta tn tc L) (hb:Below w.heap.size w w') (hY:∀ b,Y b→X b∨(w.heap.size≤b∧b<w'.heap.size)) (hy:Y ob):PSt H Y w' ob g n B ta tn tc L:=by
 have h1:=h.below hb
 refine⟨h1.box,h1.lt,?_,h1.free,⟨h1.gno.1,fun y=>?_⟩,h.mine.clear hb hY,h.hob,hy⟩
 ·have hw:Blocks (fun b=>(g<b∧¬RowsP (.slice ta tn tc) L tn b∧¬X b)∧b<w.heap.size) w g 0 n B:=h.blocks.weaken (fun b hb q=>⟨q,hb⟩)
  exact(hw.below hb).weaken (fun b _ q=>⟨q.1.1,q.1.2.1,fun y=>by
   rcases hY b y with f | f
   ·exact q.1.2.2 f
   ·have:=q.2; omega⟩)
 ·rcases hY g y with f | f
  ·exact h.gno.2 f
  ·have:=h.lt; omega
end Go.Proofs.YtjafgnohlkkopaaGreatDoor
