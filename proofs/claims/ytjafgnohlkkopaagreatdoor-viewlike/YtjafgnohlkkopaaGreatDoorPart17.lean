/-
  SetK, SetO, SetQ in one text. Nothing here is trusted.
-/
import Derived.Test.YtjafgnohlkkopaaGreatDoorPart12
import Derived.Test.YtjafgnohlkkopaaGreatDoorPart15
import Derived.Test.YtjafgnohlkkopaaGreatDoorPart16
set_option linter.unusedVariables false
namespace Go.Proofs.YtjafgnohlkkopaaGreatDoor
open Go.RowKit
theorem flat_set {α β:Type} {f:α→List β} {k:Nat} (hk:∀ x,(f x).length=k):∀ (l:List α) (i r:Nat) (y:α) (u:β) (hi:i<l.length),r<k→f y=(f l[i]).set r u→(l.flatMap f).set (i*k+r) u=(l.set i y).flatMap f
 | [],i,r,y,u,hi,_,_=>absurd hi (by simp)
 | x::l,0,r,y,u,hi,hr,e=>by
   simp only[List.getElem_cons_zero] at e
   rw[List.flatMap_cons,Nat.zero_mul,Nat.zero_add,List.set_append,if_pos (by rw[hk]; exact hr),List.set_cons_zero,List.flatMap_cons,e]
 | x::l,i+1,r,y,u,hi,hr,e=>by
   simp only[List.getElem_cons_succ] at e
   have:=flat_set hk l i r y u (by simpa using hi) hr e
   rw[List.flatMap_cons,List.set_append,if_neg (by rw[hk,Nat.add_mul]; omega),List.set_cons_succ,List.flatMap_cons,hk,show (i+1)*k+r-k=i*k+r by rw[Nat.add_mul]; omega,this]
def SetV.mine (v:SetV) (b:Nat):Prop:=(Value.slice v.fa v.fn v.fc).ownBlock=some b∨(Value.slice v.sa v.sn v.sc).ownBlock=some b
structure SetNew (base:Nat) (L:Nat→Prop) (w:World) (v:SetV) (x:SetE) (ms:List SnapM):Prop where
 name:v.name=x.name
 small:x.name.size≤maxLen
 files:w.ownsRow base 106 3 (.slice v.fa v.fn v.fc) v.fn (entCells x.files)
 snaps:w.ownsRow base 113 2 (.slice v.sa v.sn v.sc) v.sn (snapCells ms)
 eq:ms.map (·.e)=x.snaps
 ok:∀ e∈x.files,e.ok
 lists:∀ m∈ms,m.At (fun b=>L b∧¬v.mine b) w
 apart:∀ b,(Value.slice v.fa v.fn v.fc).ownBlock=some b→(Value.slice v.sa v.sn v.sc).ownBlock≠some b
theorem row_caps {w:World} {base:Nat} {e:TypeId} {size n c:Nat} {a:Option Addr} {xs:List Value} (h:w.ownsRow base e size (.slice a n c) n xs):n≤c:=by
 rcases h.2 with⟨h0,_⟩ | ⟨g,cap,cur,h0,_,_,h1,_⟩
 ·simp only[Value.slice.injEq] at h0; omega
 ·simp only[Value.slice.injEq] at h0; omega
theorem SetNew.at {base:Nat} {L:Nat→Prop} {w:World} {v:SetV} {x:SetE} {ms:List SnapM} (h:SetNew base L w v x ms):SetAt (fun b=>base≤b∨L b) w v x:=by
 refine⟨h.name,h.small,(ents_own h.ok h.files).weaken (fun b _ q=>.inl q.1),?_,row_caps h.files,row_caps h.snaps⟩
 have:=snaps_own h.lists h.snaps
 rw[h.eq] at this
 exact this.weaken (fun b _ q=>by
  rcases q with q | q
  ·exact .inr q.1
  ·exact .inl q.1)
theorem SetNew.only {base:Nat} {L M:Nat→Prop} {w w':World} {v:SetV} {x:SetE} {ms:List SnapM} (h:SetNew base L w v x ms) (ho:Only M w w') (hm:∀ b,v.mine b→¬M b) (hl:∀ b,L b→¬M b):SetNew base L w' v x ms:=
 ⟨h.name,h.small,ho.row h.files (fun b hb=>hm b (.inl hb)),ho.row h.snaps (fun b hb=>hm b (.inr hb)),h.eq,h.ok,fun m hmm=>ho.snap (h.lists m hmm) (fun b q=>hl b q.1),h.apart⟩
theorem SetNew.below {base:Nat} {L:Nat→Prop} {w w':World} {v:SetV} {x:SetE} {ms:List SnapM} (h:SetNew base L w v x ms) (hb:Below w.heap.size w w'):SetNew base L w' v x ms:=h.only (M:=fun _=>False) (Only.of_below hb) (fun _ _ m=>m) (fun _ _ m=>m)
theorem SnapM.At.weaken {Q R:Nat→Prop} {w:World} {m:SnapM} (h:m.At Q w) (hq:∀ b,b<w.heap.size→Q b→R b):m.At R w:=⟨h.files.weaken hq,h.caps,h.small⟩
theorem SetNew.weaken {base:Nat} {L L':Nat→Prop} {w:World} {v:SetV} {x:SetE} {ms:List SnapM} (h:SetNew base L w v x ms) (hl:∀ b,b<w.heap.size→L b→L' b):SetNew base L' w v x ms:=
 ⟨h.name,h.small,h.files,h.snaps,h.eq,h.ok,fun m hm=>(h.lists m hm).weaken (fun b hb q=>⟨hl b hb q.1,q.2⟩),h.apart⟩
theorem SetNew.mine_ge {base:Nat} {L:Nat→Prop} {w:World} {v:SetV} {x:SetE} {ms:List SnapM} (h:SetNew base L w v x ms) {b:Nat} (hb:v.mine b):base≤b∧b<w.heap.size:=by
 rcases hb with hb | hb
 ·exact h.files.lt b hb
 ·exact h.snaps.lt b hb
structure CopyTo (H:Nat) (w wr:World) (x:SetE) (fa:Option Addr) (fn fc:Nat) (sa:Option Addr) (sn sc j:Nat) (ms:List SnapM):Prop where
 box:CellsAt wr H #[.string x.name,.slice fa fn fc,.slice sa sn sc] 84
 res:CellsAt wr (H+1) #[.string ⟨#[]⟩,.slice none 0 0,.slice none 0 0] 84
 files:wr.ownsRow (H+2) 106 3 (.slice fa fn fc) fn (entCells x.files)
 snaps:wr.ownsRow (H+2) 113 2 (.slice sa sn sc) sn (snapCells ms)
 eq:ms.map (·.e)=x.snaps
 done:∀ i m,ms[i]? =some m→i<j→m.At (fun b=>H+2≤b∧(Value.slice fa fn fc).ownBlock≠some b∧(Value.slice sa sn sc).ownBlock≠some b) wr
 todo:∀ i m,ms[i]? =some m→j≤i→m.At (fun b=>b<H) wr
 apart:∀ b,(Value.slice fa fn fc).ownBlock=some b→(Value.slice sa sn sc).ownBlock≠some b
 bel:Below H w wr
 sz:H+2≤wr.heap.size
theorem CopyTo.next {H:Nat} {w wr w7:World} {x:SetE} {fa:Option Addr} {fn fc:Nat} {sb sn sc j:Nat} {ms:List SnapM} {m:SnapM} {a':Option Addr} {c':Nat} (h:CopyTo H w wr x fa fn fc (some ⟨sb,0,none⟩) sn sc j ms) (hm:ms[j]? =some m) (hok:∀ e∈m.e.files,e.ok) (b7:Below wr.heap.size wr w7) (hc:m.fn≤c') (ho:w7.ownsRow wr.heap.size 106 3 (.slice a' m.fn c') m.fn (entCells m.e.files)):
 CopyTo H w (w7.setCell ⟨sb,j*2+1,none⟩ (.slice a' m.fn c')) x fa fn fc (some ⟨sb,0,none⟩) sn sc (j+1) (ms.set j { m with fa:=a', fc:=c' }):=by
 obtain⟨hj,hmj⟩:=List.getElem?_eq_some_iff.1 hm
 have hsb:=h.snaps.lt sb rfl
 have kk:Kept sb w7 (w7.setCell ⟨sb,j*2+1,none⟩ (.slice a' m.fn c')):=Kept.setCell (g:=sb) (Kept.refl _ _) (p:=⟨sb,j*2+1,none⟩) rfl _
 have hb:=h.bel.trans ((b7.mono (show H≤wr.heap.size by have:=h.sz; omega)).trans (kk.below (show H≤sb by omega)))
 have hon:Only (fun b=>b=sb) wr (w7.setCell ⟨sb,j*2+1,none⟩ (.slice a' m.fn c')):=(Only.of_below b7).trans (Only.of_kept kk rfl)
 refine⟨hon.cells h.box (by omega),hon.cells h.res (by omega),hon.row h.files (fun k hk e=>?_),?_,?_,?_,?_,h.apart,hb,?_⟩
 ·subst e
  exact h.apart _ hk rfl
 ·have h1:=((row_below h.snaps b7).stored (j*2+1) (.slice a' m.fn c')).1
  have h2:(snapCells ms).set (j*2+1) (.slice a' m.fn c')=snapCells (ms.set j { m with fa:=a', fc:=c' }):=flat_set SnapM.cells_len ms j 1 { m with fa:=a', fc:=c' } _ hj (by omega) (by rw[hmj]; rfl)
  rw[←h2]
  exact h1
 ·rw[List.map_set,←h.eq]
  apply List.ext_getElem?
  intro i
  rw[List.getElem?_set]
  split
  ·rename_i e
   subst e
   simp[hj,hmj]
  ·rfl
 ·intro i mi hi hij
  by_cases e:i=j
  ·subst e
   rw[List.getElem?_set_self (by simpa using hj)] at hi
   cases hi
   have hE:=ents_own hok ho
   have hsm:=(h.todo i m hm (Nat.le_refl _)).small
   refine⟨?_,hc,hsm⟩
   have hfr:=(Only.of_kept (M:=fun b=>b=sb) kk rfl).ents hE (fun k q e=>by subst e; have:=q.1; omega)
   refine hfr.weaken (fun b _ q=>⟨?_,fun f=>?_,fun f=>?_⟩)
   ·have:=q.1; have:=h.sz; omega
   ·have:=(h.files.lt b f).2; have:=q.1; omega
   ·have:=(h.snaps.lt b f).2; have:=q.1; omega
  ·rw[List.getElem?_set_ne (fun f=>e f.symm)] at hi
   exact hon.snap (h.done i mi hi (by omega)) (fun b q f=>by subst f; exact q.2.2 rfl)
 ·intro i mi hi hij
  rw[List.getElem?_set_ne (by omega)] at hi
  exact hon.snap (h.todo i mi hi (by omega)) (fun b q f=>by subst f; omega)
 ·have h1:=kk.size
  have h2:=b7.size
  have h3:=h.sz
  omega
def SrcAt (H:Nat) (w:World) (a:Option Addr) (n:Nat) (cs:List Value):Prop:=0<n→∃ b off,a=some ⟨b,off,none⟩∧b<H∧∀ j u,cs[j]? =some u→w.cell? ⟨b,off+j,none⟩=some u
theorem SrcAt.src {H:Nat} {w:World} {a:Option Addr} {n:Nat} {cs:List Value} (h:SrcAt H w a n cs) (hH:H≤w.heap.size):0<n→∃ b off,a=some ⟨b,off,none⟩∧b<w.heap.size∧∀ j u,cs[j]? =some u→w.cell? ⟨b,off+j,none⟩=some u:=fun hp=>by
 obtain⟨b,off,e,hlt,hc⟩:=h hp
 exact⟨b,off,e,by omega,hc⟩
theorem SrcAt.below {H:Nat} {w w':World} {a:Option Addr} {n:Nat} {cs:List Value} (h:SrcAt H w a n cs) (hb:Below H w w'):SrcAt H w' a n cs:=fun hp=>by
 obtain⟨b,off,e,hlt,hc⟩:=h hp
 exact⟨b,off,e,hlt,fun j u hj=>(hb.cell (p:=⟨b,off+j,none⟩) hlt).trans (hc j u hj)⟩
theorem EntsAt.srcAt {Q:Nat→Prop} {w:World} {a:Option Addr} {n:Nat} {l:List Ent} (h:EntsAt Q w a n l):SrcAt w.heap.size w a n (entCells l):=fun hp=>by
 obtain⟨b,off,rfl,hlt,_⟩:=h.2.2 hp
 exact⟨b,off,rfl,hlt,h.cells⟩
def RetX (base:Nat) (L:Nat→Prop) (e:Ending) (w:World) (x:SetE):Prop:=∃ v ms,e=.returned v.val∧SetNew base L w v x ms
set_option maxHeartbeats 4000000 in
set_option maxRecDepth 100000 in
theorem copySet_any (Q:Nat→Prop) (v:SetV) (x:SetE) (w:World) (hX:SetAt Q w v x) (h6:x.files.length≤6) (h3:x.snaps.length≤3) (hs6:∀ s∈x.snaps,s.files.length≤6):
 Calls Tryz.prog 33 #[v.val] w fun e w'=>RetX (w.heap.size+2) (fun b=>w.heap.size+2≤b) e w' x∧Below w.heap.size w w':=by
 obtain⟨vn,fa,fn,fc,sa,sn,sc⟩:=v
 obtain⟨hnm,hsm,hFi,hSn,hcap⟩:=hX
 simp only at hnm hFi hSn
 subst hnm
 unfold SetV.val
 simp only
 have b0:=below_two w (.cells #[.string x.name,.slice fa fn fc,.slice sa sn sc] 84) (.cells #[.string ⟨#[]⟩,.slice none 0 0,.slice none 0 0] 84)
 have k0:CellsAt _ w.heap.size #[.string x.name,.slice fa fn fc,.slice sa sn sc] 84:=(cellsAt_alloc w _ _).below (below_alloc _ (.cells #[.string ⟨#[]⟩,.slice none 0 0,.slice none 0 0] 84))
 have k1:=cellsAt_alloc2 w (.cells #[.string x.name,.slice fa fn fc,.slice sa sn sc] 84) #[.string ⟨#[]⟩,.slice none 0 0,.slice none 0 0] 84
 have hz0:((w.alloc (.cells #[.string x.name,.slice fa fn fc,.slice sa sn sc] 84)).alloc (.cells #[.string ⟨#[]⟩,.slice none 0 0,.slice none 0 0] 84)).heap.size=w.heap.size+2:=by simp
 have hsl:=hid hSn.1
 have hfl:=hid hFi.1
 have hoks:=hid hFi.2.1
 have hfn:fn≤6:=by rw[←hFi.1]; exact h6
 have hsn:sn≤3:=by rw[←hSn.1]; exact h3
 have hcsE:=hid (hFi.srcAt.below b0)
 obtain⟨ms,hms1,hms2,hms3⟩:=(hSn.weaken (R:=fun b=>b<w.heap.size) (fun b hb _=>hb)).rows
 have hms3':SrcAt w.heap.size w sa sn (snapCells ms):=hms3
 have hms2':∀ m∈ms,m.At (fun b=>b<w.heap.size) w:=hms2
 replace hms1:=hid hms1
 replace hms2:=hid hms2'
 replace hms3:=hid hms3'
 replace k0:=hid k0
 replace k1:=hid k1
 replace hs6:=hid hs6
 clear hcap h6 h3 hSn hFi hms2' hms3'
 go_enter Tryz.func33,Tryz.ntmps33
 go_wp2_with fail
 generalize (w.alloc (.cells #[.string x.name,.slice fa fn fc,.slice sa sn sc] 84)).alloc (.cells #[.string ⟨#[]⟩,.slice none 0 0,.slice none 0 0] 84)=w0 at *
 refine(cloneE_any fa fn fc (entCells x.files) w0 (by omega) (by rw[entCells_len,hfl.out]) (entCells_one _) (hcsE.out.src b0.size)).mono ?_
 rintro e w1 ⟨b1,fa', fc', rfl,hfc,hoF⟩
 have x0:=(b1.cell (p:=⟨w.heap.size,0,none⟩) k0.out.lt).trans (k0.out.cell 0)
 have x1:=(b1.cell (p:=⟨w.heap.size,1,none⟩) k0.out.lt).trans (k0.out.cell 1)
 have x2:=(b1.cell (p:=⟨w.heap.size,2,none⟩) k0.out.lt).trans (k0.out.cell 2)
 have f1:=(k0.out.below b1).frozen 1
 simp at x0 x1 x2
 replace k0:=hid (k0.out.below b1)
 replace k1:=hid (k1.out.below b1)
 replace hoF:=hid hoF
 go_wp2_with fail
 have kk:=Kept.setCell (g:=w.heap.size) (Kept.refl _ w1) (p:=⟨w.heap.size,1,none⟩) rfl (.slice fa' fn fc')
 have bb1:=Below.tr b0 b1
 have k0':=k0.out.set 1 (.slice fa' fn fc')
 have k1':=k1.out.past (a:=⟨w.heap.size,1,none⟩) (by simp) (.slice fa' fn fc')
 have on1:Only (fun b=>b=w.heap.size) w0 (w1.setCell ⟨w.heap.size,1,none⟩ (.slice fa' fn fc')):=(Only.of_below b1).trans (Only.of_kept kk rfl)
 have hoF':=(Only.of_kept (M:=fun b=>b=w.heap.size) kk rfl).row hoF.out (fun b hb e=>by subst e; have:=(hoF.out.lt _ hb).1; omega)
 have bb2:Below w.heap.size w (w1.setCell ⟨w.heap.size,1,none⟩ (.slice fa' fn fc')):=bb1.trans (kk.below (Nat.le_refl _))
 have hz2:w.heap.size+2≤(w1.setCell ⟨w.heap.size,1,none⟩ (.slice fa' fn fc')).heap.size:=by rw[kk.size]; have:=b1.size; omega
 simp only[List.setIfInBounds_toArray,List.set_cons_succ,List.set_cons_zero] at k0'
 clear x0 x1 x2 f1 kk b1 k0 k1 hoF bb1
 generalize w1.setCell ⟨w.heap.size,1,none⟩ (.slice fa' fn fc')=w2 at *
 have hml:ms.length=sn:=by rw[←hsl.out,←hms1.out,List.length_map]
 have x2:=k0'.cell 2
 simp at x2
 replace k0':=hid k0'
 replace k1':=hid k1'
 replace hoF':=hid hoF'
 go_wp2_with fail
 refine(cloneS_any sa sn sc (snapCells ms) w2 (by omega) (by rw[snapCells_len,hml]) (snapCells_one _) ((hms3.out.below bb2).src (by omega))).mono ?_
 rintro e w3 ⟨b3,sa', sc', rfl,hsc,hoS⟩
 clear x2
 have x2:=((k0'.out.below b3).cell 2)
 have f2:=(k0'.out.below b3).frozen 2
 simp at x2
 replace hoS:=hid hoS
 go_wp2_with fail
 have kk:=Kept.setCell (g:=w.heap.size) (Kept.refl _ w3) (p:=⟨w.heap.size,2,none⟩) rfl (.slice sa' sn sc')
 have hC:CopyTo w.heap.size w (w3.setCell ⟨w.heap.size,2,none⟩ (.slice sa' sn sc')) x fa' fn fc' sa' sn sc' 0 ms:=by
  have k0'':=(k0'.out.below b3).set 2 (.slice sa' sn sc')
  simp only[List.setIfInBounds_toArray,List.set_cons_succ,List.set_cons_zero] at k0''
  have on3:Only (fun b=>b=w.heap.size) w2 (w3.setCell ⟨w.heap.size,2,none⟩ (.slice sa' sn sc')):=(Only.of_below b3).trans (Only.of_kept kk rfl)
  have bb3:Below w.heap.size w (w3.setCell ⟨w.heap.size,2,none⟩ (.slice sa' sn sc')):=bb2.trans ((b3.mono (by omega)).trans (kk.below (Nat.le_refl _)))
  refine⟨k0'', on3.cells k1'.out (by omega),ownsRow_base (by omega) (on3.row hoF'.out (fun b hb e=>by subst e; have:=(hoF'.out.lt _ hb).1; omega)),ownsRow_base hz2 ((Only.of_kept (M:=fun b=>b=w.heap.size) kk rfl).row hoS.out (fun b hb e=>by subst e; have:=(hoS.out.lt _ hb).1; omega)),hms1.out,fun i m _ hi=>absurd hi (by omega),fun i m hi _=>?_,fun b hb hb2=>?_,bb3,?_⟩
  ·have hm:=hms2.out m (List.mem_of_getElem? hi)
   exact⟨⟨hm.files.1,hm.files.2.1,fun hp=>by
    obtain⟨b,off,e,hlt,hq,hc⟩:=hm.files.2.2 hp
    exact⟨b,off,e,by have:=bb3.size; omega,hq,fun k hk=>⟨(bb3.cell (p:=⟨b,off+k*3,none⟩) hq).trans (hc k hk).c0,(bb3.cell (p:=⟨b,off+k*3+1,none⟩) hq).trans (hc k hk).c1,(bb3.cell (p:=⟨b,off+k*3+2,none⟩) hq).trans (hc k hk).c2⟩⟩⟩,hm.caps,hm.small⟩
  ·have h1:=(hoF'.out.lt b hb).2
   have h2:=(hoS.out.lt b hb2).1
   omega
  ·rw[kk.size]; have:=b3.size; omega
 clear x2 f2 kk k0' k1' hoF' hoS b3 hz2 bb2 on1 hcsE hms2 hms3
 generalize w3.setCell ⟨w.heap.size,2,none⟩ (.slice sa' sn sc')=w4 at *
 have y2:=hC.box.cell 2
 simp at y2
 replace hC:=hid hC
 go_wp2_with fail
 clear y2
 go_loopw [15] (fun v wr=>∃ (j:Nat) (ms:List SnapM),j≤sn∧v=.int .i64 j∧CopyTo w.heap.size w wr x fa' fn fc' sa' sn sc' j ms) (fun v _=>sn-(Go.RowKit.intOf v).toNat)
 case atStart=>exact⟨0,ms,Nat.zero_le _,rfl,hC.out⟩
 case round=>
  clear hC hms1 hml
  obtain⟨j,ms,hj,rfl,hC⟩:=hrel
  have hml:ms.length=sn:=by rw[←hsl.out,←hC.eq,List.length_map]
  by_cases hlt:j<sn
  ·have hjl:j<ms.length:=by omega
   obtain⟨sb,rfl⟩:∃ sb,sa'=some ⟨sb,0,none⟩:=by
    rcases hC.snaps.2 with⟨h0,h1⟩ | ⟨g,cap,cur,h0,_⟩
    ·omega
    ·simp only[Value.slice.injEq] at h0; exact⟨g,h0.1⟩
   have hx:ms[j]? =some ms[j]:=List.getElem?_eq_getElem hjl
   have hme:ms[j].e∈x.snaps:=by rw[←hC.eq]; exact List.mem_map_of_mem (List.getElem_mem hjl)
   have hg6:=hs6.out _ hme
   have hAt:=hC.todo j _ hx (Nat.le_refl _)
   have c1:wr.cell? ⟨sb,j*2+1,none⟩=some (.slice ms[j].fa ms[j].fn ms[j].fc):=(hC.snaps.cellAt (j*2+1) (by omega)).trans (flat_get SnapM.cells_len ms j 1 hjl (by omega))
   have fr:=hC.snaps.frozenAt (j*2+1)
   have y2:=hC.box.cell 2
   simp at y2
   have hgl:=hAt.files.1
   have hgn:ms[j].fn≤6:=by omega
   have hgok:=hid hAt.files.2.1
   have hgs:=hid hAt.files.srcAt
   replace hx:=hid hx
   generalize ms[j]=m at *
   have hsb:=hC.snaps.lt sb rfl
   have hj0:(0:Int)≤(j:Int):=by omega
   have hjs:(j:Int)<(sn:Int):=by omega
   have hbx:=hC.box.lt
   have J:Hid (∀ (w7:World) (a':Option Addr) (c':Nat),Below wr.heap.size wr w7→m.fn≤c'→w7.ownsRow wr.heap.size 106 3 (.slice a' m.fn c') m.fn (entCells m.e.files)→CopyTo w.heap.size w (w7.setCell ⟨sb,j*2+1,none⟩ (.slice a' m.fn c')) x fa' fn fc' (some ⟨sb,0,none⟩) sn sc' (j+1) (ms.set j { m with fa:=a', fc:=c' })):=hid (fun w7 a' c' b7 hc ho=>hC.next hx.out hgok.out b7 hc ho)
   clear hC hAt
   go_upto_region 6 with fail
   go_region_with (go_at_call 61; refine(cloneE_any m.fa m.fn m.fc (entCells m.e.files) _ (by omega) (by rw[entCells_len,hgl]) (entCells_one _) ?_).mono ?_; exact hgs.out.src (Nat.le_refl _); rintro e w7 ⟨b7,a', c', rfl,hc,ho⟩; replace b7:Below wr.heap.size wr w7:=(below_drew _ _).trans b7; have z2:=(b7.cell (p:=⟨w.heap.size,2,none⟩) hbx).trans y2; have d1:=(b7.cell (p:=⟨sb,j*2+1,none⟩) hsb.2).trans c1; have e1:=(b7.frozen (p:=⟨sb,j*2+1,none⟩) hsb.2).trans fr; replace ho:=hid ho; replace b7:=hid b7)
   all_goals (
    go_wp2_with fail
    go_roundw
    case rel=>exact⟨j+1,_,by omega,by go_num,J.out _ _ _ b7.out hc ho.out⟩
    case measure=>simp[Go.RowKit.intOf]; omega)
  ·obtain rfl:j=sn:=by omega
   have y0:=hC.box.cell 0
   have y1:=hC.box.cell 1
   have y2:=hC.box.cell 2
   have r0:=hC.res.cell 0
   have r1:=hC.res.cell 1
   have r2:=hC.res.cell 2
   have g0:=hC.res.frozen 0
   have g1:=hC.res.frozen 1
   have g2:=hC.res.frozen 2
   simp at y0 y1 y2 r0 r1 r2
   replace hC:=hid hC
   go_wp2_with fail
   clear y0 y1 y2 r0 r1 r2 g0 g1 g2
   have k3:=((hC.out.res.set 0 (.string x.name)).set 1 (.slice fa' fn fc')).set 2 (.slice sa' j sc')
   simp only[List.setIfInBounds_toArray,List.set_cons_succ,List.set_cons_zero] at k3
   have kk:Kept (w.heap.size+1) wr (((wr.setCell ⟨w.heap.size+1,0,none⟩ (.string x.name)).setCell ⟨w.heap.size+1,1,none⟩ (.slice fa' fn fc')).setCell ⟨w.heap.size+1,2,none⟩ (.slice sa' j sc')):=
    Kept.setCell (g:=w.heap.size+1) (Kept.setCell (g:=w.heap.size+1) (Kept.setCell (g:=w.heap.size+1) (Kept.refl _ _) (p:=⟨w.heap.size+1,0,none⟩) rfl _) (p:=⟨w.heap.size+1,1,none⟩) rfl _) (p:=⟨w.heap.size+1,2,none⟩) rfl _
   have on:=Only.of_kept (M:=fun b=>b=w.heap.size+1) kk rfl
   refine bodyPost_ret (v:=.agg #[.string x.name,.slice fa' fn fc', .slice sa' j sc']) ?_ rfl ⟨⟨⟨x.name,fa', fn,fc', sa', j,sc'⟩,ms,rfl,rfl,hsm,?_,?_,hC.out.eq,hoks.out,fun m hm=>?_,hC.out.apart⟩,hC.out.bel.trans (kk.below (by omega))⟩
   ·exact results_cell_row rfl _ _ (w.heap.size+1) _ _ _ _ rfl k3 Tryz.underlying84 rfl (by kernel_rfl)
   ·exact on.row hC.out.files (fun b hb e=>by subst e; have:=(hC.out.files.lt _ hb).1; omega)
   ·exact on.row hC.out.snaps (fun b hb e=>by subst e; have:=(hC.out.snaps.lt _ hb).1; omega)
   ·obtain⟨i,hi,rfl⟩:=List.mem_iff_getElem.1 hm
    refine(on.snap (hC.out.done i _ (List.getElem?_eq_getElem hi) (by omega)) (fun b q e=>by subst e; have:=q.1; omega)).weaken (fun b _ q=>⟨q.1,fun f=>?_⟩)
    rcases f with f | f
    ·exact q.2.1 f
    ·exact q.2.2 f
end Go.Proofs.YtjafgnohlkkopaaGreatDoor

namespace Go.Proofs.YtjafgnohlkkopaaGreatDoor
open Go.RowKit
structure SetP (base:Nat) (L:Nat→Prop) (w:World) (yb:Nat) (v:SetV) (x:SetE) (ms:List SnapM):Prop where
 box:CellsAt w yb #[.string x.name,.slice v.fa v.fn v.fc,.slice v.sa v.sn v.sc] 84
 new:SetNew base L w v x ms
 ny:¬v.mine yb
 nl:¬L yb
theorem SetP.below {base:Nat} {L:Nat→Prop} {w w':World} {yb:Nat} {v:SetV} {x:SetE} {ms:List SnapM} (h:SetP base L w yb v x ms) (b:Below w.heap.size w w'):SetP base L w' yb v x ms:=⟨h.box.below b,h.new.below b,h.ny,h.nl⟩
def Mine (yb:Nat) (v:SetV) (b:Nat):Prop:=b=yb∨v.mine b
theorem SetP.files {base:Nat} {L:Nat→Prop} {w w1:World} {yb:Nat} {v:SetV} {x:SetE} {ms:List SnapM} (h:SetP base L w yb v x ms) {fa:Option Addr} {fn fc:Nat} {l:List Ent} (on:Only (fun b=>(Value.slice v.fa v.fn v.fc).ownBlock=some b) w w1) (hr:w1.ownsRow base 106 3 (.slice fa fn fc) fn (entCells l)) (hok:∀ e∈l,e.ok)
 (hm:∀ b,(Value.slice fa fn fc).ownBlock=some b→(Value.slice v.fa v.fn v.fc).ownBlock=some b∨w.heap.size≤b):
 SetP base L (w1.setCell ⟨yb,1,none⟩ (.slice fa fn fc)) yb { v with fa:=fa,fn:=fn,fc:=fc } { x with files:=l } ms∧Only (Mine yb v) w (w1.setCell ⟨yb,1,none⟩ (.slice fa fn fc))∧∀ b,({ v with fa:=fa,fn:=fn,fc:=fc }:SetV).mine b→v.mine b∨w.heap.size≤b:=by
 have kk:Kept yb w1 (w1.setCell ⟨yb,1,none⟩ (.slice fa fn fc)):=Kept.setCell (g:=yb) (Kept.refl _ _) (p:=⟨yb,1,none⟩) rfl _
 have hyl:=h.box.lt
 have on3:Only (fun b=>b=yb∨(Value.slice v.fa v.fn v.fc).ownBlock=some b) w (w1.setCell ⟨yb,1,none⟩ (.slice fa fn fc)):=(on.mono (fun b _ hb=>.inr hb)).trans (Only.of_kept kk (.inl rfl))
 have hmine:∀ b,({ v with fa:=fa,fn:=fn,fc:=fc }:SetV).mine b→v.mine b∨w.heap.size≤b:=by
  rintro b (hb | hb)
  ·rcases hm b hb with hb | hb
   ·exact .inl (.inl hb)
   ·exact .inr hb
  ·exact .inl (.inr hb)
 have hnyf:(Value.slice fa fn fc).ownBlock≠some yb:=fun e=>by
  rcases hm yb e with e | e
  ·exact h.ny (.inl e)
  ·omega
 refine⟨⟨?_,⟨h.new.name,h.new.small,?_,?_,h.new.eq,hok,fun m hmm=>?_,fun b hb hb2=>?_⟩,?_,h.nl⟩,on3.mono (fun b _ hb=>?_),hmine⟩
 ·have:=(on.cells h.box (fun e=>h.ny (.inl e))).set 1 (.slice fa fn fc)
  simp only[List.setIfInBounds_toArray,List.set_cons_succ,List.set_cons_zero] at this
  exact this
 ·exact(Only.of_kept (M:=fun b=>b=yb) kk rfl).row hr (fun b hb e=>hnyf (e▸hb))
 ·exact on3.row h.new.snaps (fun b hb e=>by
   rcases e with e | e
   ·exact h.ny (.inr (e▸hb))
   ·exact h.new.apart b e hb)
 ·have h1:=(h.new.lists m hmm).weaken (R:=fun b=>(L b∧¬({ v with fa:=fa,fn:=fn,fc:=fc }:SetV).mine b)∧¬v.mine b) (fun b hb q=>⟨⟨q.1,fun f=>by
   rcases hmine b f with f | f
   ·exact q.2 f
   ·omega⟩,q.2⟩)
  refine(on3.snap h1 (fun b q e=>?_)).weaken (fun b _ q=>q.1)
  rcases e with e | e
  ·exact h.nl (e▸q.1.1)
  ·exact q.2 (.inl e)
 ·rcases hm b hb with hb | hb
  ·exact h.new.apart b hb hb2
  ·have:=(h.new.snaps.lt b hb2).2; omega
 ·rintro (e | e)
  ·exact hnyf e
  ·exact h.ny (.inr e)
 ·rcases hb with hb | hb
  ·exact .inl hb
  ·exact .inr (.inl hb)
theorem SetP.snaps {base:Nat} {L:Nat→Prop} {w w1:World} {yb:Nat} {v:SetV} {x:SetE} {ms:List SnapM} (h:SetP base L w yb v x ms) {sa:Option Addr} {sn sc:Nat} {ms':List SnapM} {l:List SnapE} (on:Only (fun b=>(Value.slice v.sa v.sn v.sc).ownBlock=some b) w w1) (hr:w1.ownsRow base 113 2 (.slice sa sn sc) sn (snapCells ms')) (he:ms'.map (·.e)=l)
 (hl:∀ m∈ms', m∈ms∨m.At (fun b=>w.heap.size≤b∧(Value.slice sa sn sc).ownBlock≠some b) w1) (hm:∀ b,(Value.slice sa sn sc).ownBlock=some b→(Value.slice v.sa v.sn v.sc).ownBlock=some b∨w.heap.size≤b):
 SetP base (fun b=>L b∨w.heap.size≤b) (w1.setCell ⟨yb,2,none⟩ (.slice sa sn sc)) yb { v with sa:=sa,sn:=sn,sc:=sc } { x with snaps:=l } ms'∧Only (Mine yb v) w (w1.setCell ⟨yb,2,none⟩ (.slice sa sn sc))∧∀ b,({ v with sa:=sa,sn:=sn,sc:=sc }:SetV).mine b→v.mine b∨w.heap.size≤b:=by
 have kk:Kept yb w1 (w1.setCell ⟨yb,2,none⟩ (.slice sa sn sc)):=Kept.setCell (g:=yb) (Kept.refl _ _) (p:=⟨yb,2,none⟩) rfl _
 have hyl:=h.box.lt
 have on3:Only (fun b=>b=yb∨(Value.slice v.sa v.sn v.sc).ownBlock=some b) w (w1.setCell ⟨yb,2,none⟩ (.slice sa sn sc)):=(on.mono (fun b _ hb=>.inr hb)).trans (Only.of_kept kk (.inl rfl))
 have hmine:∀ b,({ v with sa:=sa,sn:=sn,sc:=sc }:SetV).mine b→v.mine b∨w.heap.size≤b:=by
  rintro b (hb | hb)
  ·exact .inl (.inl hb)
  ·rcases hm b hb with hb | hb
   ·exact .inl (.inr hb)
   ·exact .inr hb
 have hnys:(Value.slice sa sn sc).ownBlock≠some yb:=fun e=>by
  rcases hm yb e with e | e
  ·exact h.ny (.inr e)
  ·omega
 refine⟨⟨?_,⟨h.new.name,h.new.small,?_,?_,he,h.new.ok,fun m hmm=>?_,fun b hb hb2=>?_⟩,?_,?_⟩,on3.mono (fun b _ hb=>?_),hmine⟩
 ·have:=(on.cells h.box (fun e=>h.ny (.inr e))).set 2 (.slice sa sn sc)
  simp only[List.setIfInBounds_toArray,List.set_cons_succ,List.set_cons_zero] at this
  exact this
 ·exact on3.row h.new.files (fun b hb e=>by
   rcases e with e | e
   ·exact h.ny (.inl (e▸hb))
   ·exact h.new.apart b hb e)
 ·exact(Only.of_kept (M:=fun b=>b=yb) kk rfl).row hr (fun b hb e=>hnys (e▸hb))
 ·rcases hl m hmm with hmo | hmn
  ·have h1:=(h.new.lists m hmo).weaken (R:=fun b=>(L b∧¬({ v with sa:=sa,sn:=sn,sc:=sc }:SetV).mine b)∧¬v.mine b) (fun b hb q=>⟨⟨q.1,fun f=>by
    rcases hmine b f with f | f
    ·exact q.2 f
    ·omega⟩,q.2⟩)
   refine(on3.snap h1 (fun b q e=>?_)).weaken (fun b _ q=>⟨.inl q.1.1,q.1.2⟩)
   rcases e with e | e
   ·exact h.nl (e▸q.1.1)
   ·exact q.2 (.inr e)
  ·refine((Only.of_kept (M:=fun b=>b=yb) kk rfl).snap hmn (fun b q e=>by subst e; have:=q.1; omega)).weaken (fun b _ q=>⟨.inr q.1,fun f=>?_⟩)
   rcases f with f | f
   ·have:=(h.new.files.lt b f).2; have:=q.1; omega
   ·exact q.2 f
 ·rcases hm b hb2 with hb2 | hb2
  ·exact h.new.apart b hb hb2
  ·have:=(h.new.files.lt b hb).2; omega
 ·rintro (e | e)
  ·exact h.ny (.inl e)
  ·exact hnys e
 ·rintro (e | e)
  ·exact h.nl e
  ·omega
 ·rcases hb with hb | hb
  ·exact .inl hb
  ·exact .inr (.inr hb)
theorem SetP.weaken {base:Nat} {L L':Nat→Prop} {w:World} {yb:Nat} {v:SetV} {x:SetE} {ms:List SnapM} (h:SetP base L w yb v x ms) (hl:∀ b,b<w.heap.size→L b→L' b) (hn:¬L' yb):SetP base L' w yb v x ms:=⟨h.box,h.new.weaken hl,h.ny,hn⟩
def RetDo (base:Nat) (L:Nat→Prop) (w:World) (yb:Nat) (v:SetV) (ok:Prop) (bad:Int→Prop) (R:SetE→Prop) (e:Ending) (w':World):Prop:=
 Only (Mine yb v) w w'∧((∃ e':Int,e=.returned (.int .i64 e')∧e'≠0∧¬ok∧bad e')∨
  (e=.returned (.int .i64 0)∧ok∧∃ v' y ms', R y∧SetP base (fun b=>L b∨w.heap.size≤b) w' yb v' y ms'∧∀ b,v'.mine b→v.mine b∨w.heap.size≤b))
theorem found_some {α:Type} {f:α→List UInt8} {l:List α} {t:List UInt8} {p:Nat} {b:Bool} (ho:l.Pairwise fun a b=>f a<f b) (h:Found f l t p b):b=true↔∃ x∈l,f x=t:=by
 rw[h.there]
 constructor
 ·rintro⟨x,hx,e⟩
  exact⟨x,List.mem_of_getElem? hx,e⟩
 ·rintro⟨x,hx,e⟩
  obtain⟨k,hk,rfl⟩:=List.mem_iff_getElem.1 hx
  have hkp:p≤k:=by
   rcases Nat.lt_or_ge k p with hlt | hge
   ·have h1:=h.ahead l[k] (by rw[List.mem_iff_getElem]; exact⟨k,by rw[List.length_take]; omega,by rw[List.getElem_take]⟩)
    rw[e] at h1
    exact absurd h1 (nm_irrefl _)
   ·exact hge
  by_cases ek:k=p
  ·subst ek
   exact⟨l[k],List.getElem?_eq_getElem hk,e⟩
  ·have h1:=List.pairwise_iff_getElem.1 ho p k (by omega) hk (by omega)
   rw[e] at h1
   exact absurd h1 (h.behind l[p] (by rw[List.mem_iff_getElem]; exact⟨0,by rw[List.length_drop]; omega,by rw[List.getElem_drop]; rfl⟩))
theorem found_none {α:Type} {f:α→List UInt8} {l:List α} {t:List UInt8} {p:Nat} (ho:l.Pairwise fun a b=>f a<f b) (h:Found f l t p false):∀ x∈l.drop p,t<f x:=fun x hx=>by
 have h1:=h.behind x hx
 rcases nm_tri (f x) t with h2 | h2 | h2
 ·exact absurd h2 h1
 ·exact absurd ((found_some ho h).2 ⟨x,List.mem_of_mem_drop hx,h2⟩) Bool.false_ne_true
 ·exact h2
theorem found_at {α:Type} {f:α→List UInt8} {l:List α} {t:List UInt8} {p:Nat} (h:Found f l t p true):∃ h:p<l.length,f l[p]=t:=by
 obtain⟨x,hx,e⟩:=h.there.1 rfl
 obtain⟨hp,rfl⟩:=List.getElem?_eq_some_iff.1 hx
 exact⟨hp,e⟩
theorem SetP.entsAt {base:Nat} {L:Nat→Prop} {w:World} {yb:Nat} {v:SetV} {x:SetE} {ms:List SnapM} (h:SetP base L w yb v x ms):EntsAt (fun b=>base≤b∧(Value.slice v.fa v.fn v.fc).ownBlock=some b) w v.fa v.fn x.files:=ents_own h.new.ok h.new.files
theorem SetP.snapsAt {base:Nat} {L:Nat→Prop} {w:World} {yb:Nat} {v:SetV} {x:SetE} {ms:List SnapM} (h:SetP base L w yb v x ms):∃ Q,SnapsAt Q w v.sa v.sn x.snaps:=⟨_,by have:=snaps_own h.new.lists h.new.snaps; rwa [h.new.eq] at this⟩
theorem own_len (a:Option Addr) (n c n' c':Nat):(Value.slice a n c).ownBlock=(Value.slice a n' c').ownBlock:=by cases a<;>rfl
theorem entCells_erase (l:List Ent) (i:Nat):(entCells l).take (i*3)++(entCells l).drop ((i+1)*3)=entCells (l.eraseIdx i):=by
 unfold entCells
 rw[flat_take Ent.cells_len,flat_drop Ent.cells_len,flat_erase]
theorem entCells_insert (l:List Ent) (i:Nat) (x:Ent):(entCells l).take (i*3)++(x.cells++(entCells l).drop (i*3))=entCells (l.take i++x::l.drop i):=by
 unfold entCells
 rw[flat_take Ent.cells_len,flat_drop Ent.cells_len,flat_insert]
theorem snapCells_erase (l:List SnapM) (i:Nat):(snapCells l).take (i*2)++(snapCells l).drop ((i+1)*2)=snapCells (l.eraseIdx i):=by
 unfold snapCells
 rw[flat_take SnapM.cells_len,flat_drop SnapM.cells_len,flat_erase]
theorem snapCells_insert (l:List SnapM) (i:Nat) (x:SnapM):(snapCells l).take (i*2)++(x.cells++(snapCells l).drop (i*2))=snapCells (l.take i++x::l.drop i):=by
 unfold snapCells
 rw[flat_take SnapM.cells_len,flat_drop SnapM.cells_len,flat_insert]
set_option maxHeartbeats 1000000 in
set_option maxRecDepth 100000 in
theorem remove_any (base:Nat) (L:Nat→Prop) (yb:Nat) (v:SetV) (x:SetE) (ms:List SnapM) (nm:ByteArray) (w:World) (hP:SetP base L w yb v x ms) (hS:Shape x):
 Calls Tryz.prog 122 #[.pointer (some ⟨yb,0,none⟩),.string nm] w fun e w'=>
  RetDo base L w yb v (∃ f∈x.files,f.nm=nm.data.toList) (fun e=>e=5) (fun y=>∃ p,∃ h:p<x.files.length,x.files[p].nm=nm.data.toList∧y={ x with files:=x.files.eraseIdx p }) e w':=by
 have hfn:v.fn≤6:=by rw[←hP.entsAt.1]; exact hS.few
 have ho:=hS.order
 have y1:=hP.box.cell 1
 simp at y1
 have hfr:=hP.box.frozen 1
 go_enter Tryz.func122,Tryz.ntmps122
 replace hP:=hid hP
 replace ho:=hid ho
 replace hS:=hid hS
 go_wp2_with fail
 refine(findE_any _ v.fa v.fn v.fc x.files nm w (by omega) hP.out.entsAt ho.out).mono ?_
 rintro e w1 ⟨⟨p,b,rfl,hF⟩,b1⟩
 have hb:=hid (found_some ho.out hF)
 replace hP:=hid (hP.out.below b1)
 have y2:=(b1.cell (p:=⟨yb,1,none⟩) (cell_lt y1)).trans y1
 cases b
 ·replace hF:=hid hF
  go_wp2_with fail
  go_ret
  exact⟨Only.of_below b1,.inl ⟨5,rfl,by omega,fun f=>Bool.false_ne_true (hb.out.2 f),rfl⟩⟩
 ·obtain⟨hp,hpn⟩:=found_at hF
  have hpn':p<v.fn:=by have:=hP.out.entsAt.1; omega
  replace hF:=hid hF
  replace hpn:=hid hpn
  have hyes:=hid (hb.out.1 rfl)
  go_wp2_with fail
  refine(deleteE_own v.fa v.fn v.fc p base (entCells x.files) w1 hpn' hP.out.new.files (entCells_one _)).mono ?_
  rintro e w2 ⟨rfl,hr,on⟩
  rw[entCells_erase] at hr
  obtain⟨hP', on', hm'⟩:=hP.out.files (fa:=v.fa) (fn:=v.fn-1) (fc:=v.fc) on hr (fun e he=>hP.out.new.ok e ((List.eraseIdx_sublist _ _).subset he)) (fun b hb=>.inl ((own_len v.fa v.fn v.fc (v.fn-1) v.fc).trans hb))
  have z1:=(on.cells hP.out.box (fun e=>hP.out.ny (.inl e))).cell 1
  have z2:=(on.cells hP.out.box (fun e=>hP.out.ny (.inl e))).frozen 1
  simp at z1
  have J:Hid (RetDo base L w yb v (∃ f∈x.files,f.nm=nm.data.toList) (fun e=>e=5) (fun y=>∃ p,∃ h:p<x.files.length,x.files[p].nm=nm.data.toList∧y={ x with files:=x.files.eraseIdx p }) (.returned (.int .i64 0)) (w2.setCell ⟨yb,1,none⟩ (.slice v.fa (v.fn-1) v.fc))):=hid ⟨(Only.of_below b1).trans on', .inr ⟨rfl,hyes.out,_,_,_,⟨p,hp,hpn.out,rfl⟩,hP'.weaken (fun b _ h=>.inl h) (fun f=>by
   rcases f with f | f
   ·exact hP'.nl f
   ·have:=hP.out.box.lt; have:=cell_lt y1; omega),fun b hb=>by
   rcases hm' b hb with h | h
   ·exact .inl h
   ·exact .inr (Nat.le_trans b1.size h)⟩⟩
  clear hP' on' hm' on hr y1 y2 hfr
  go_wp2_with fail
  go_ret
  exact J.out
end Go.Proofs.YtjafgnohlkkopaaGreatDoor

namespace Go.Proofs.YtjafgnohlkkopaaGreatDoor
open Go.RowKit
theorem retDo_of {base:Nat} {L L':Nat→Prop} {w w1 w2:World} {yb:Nat} {v v':SetV} {ok:Prop} {bad:Int→Prop} {R:SetE→Prop} {y:SetE} {ms:List SnapM} (b1:Below w.heap.size w w1) (hyl:yb<w.heap.size) (hnl:¬L yb) (hok:ok) (hR:R y) (hP:SetP base L' w2 yb v' y ms) (hL:∀ b,L' b→L b∨w.heap.size≤b) (on:Only (Mine yb v) w1 w2) (hm:∀ b,v'.mine b→v.mine b∨w1.heap.size≤b):
 RetDo base L w yb v ok bad R (.returned (.int .i64 0)) w2:=by
 refine⟨(Only.of_below b1).trans on,.inr ⟨rfl,hok,_,_,_,hR,hP.weaken (fun b _ h=>hL b h) (fun f=>?_),fun b hb=>?_⟩⟩
 ·rcases f with f | f
  ·exact hnl f
  ·omega
 ·rcases hm b hb with h | h
  ·exact .inl h
  ·exact .inr (Nat.le_trans b1.size h)
theorem map_erase {α β:Type} (f:α→β) (l:List α) (i:Nat):(l.eraseIdx i).map f=(l.map f).eraseIdx i:=by
 rw[List.eraseIdx_eq_take_drop_succ,List.eraseIdx_eq_take_drop_succ,List.map_append,List.map_take,List.map_drop]
def OldNo (nm:ByteArray) (e':Int):Prop:=(¬IsName nm∧e'=1)∨(IsName nm∧e'=5)
def RetOld (l:List SnapE) (nm:ByteArray) (e:Ending):Prop:=∃ (q:Nat) (e':Int),e=.returned (.tuple #[.int .i64 q,.int .i64 e'])∧
 ((e'≠0∧¬(IsName nm∧∃ s∈l,s.nm=nm.data.toList)∧OldNo nm e')∨(e'=0∧(IsName nm∧∃ s∈l,s.nm=nm.data.toList)∧∃ h:q<l.length,l[q].nm=nm.data.toList))
set_option maxHeartbeats 1000000 in
set_option maxRecDepth 100000 in
theorem oldSnap_any (base:Nat) (L:Nat→Prop) (yb:Nat) (v:SetV) (x:SetE) (ms:List SnapM) (nm:ByteArray) (w:World) (hP:SetP base L w yb v x ms) (hS:Shape x) (hnm:nm.size≤maxLen):
 Calls Tryz.prog 153 #[.pointer (some ⟨yb,0,none⟩),.string nm] w fun e w'=>RetOld x.snaps nm e∧Below w.heap.size w w':=by
 obtain⟨Q,hSn⟩:=hP.snapsAt
 have hsn:v.sn≤3:=by rw[←hSn.1]; exact hS.fewS
 have ho:=hS.orderS
 have y2:=hP.box.cell 2
 simp at y2
 replace hP:=hid hP
 replace ho:=hid ho
 replace hS:=hid hS
 replace hSn:=hid hSn
 go_enter Tryz.func153,Tryz.ntmps153
 go_wp2_with fail
 refine(name_any nm w hnm).mono ?_
 rintro e w1 ⟨⟨t,rfl,ht⟩,rfl⟩
 have hN:=hid ht
 cases t
 ·have hno:Hid (¬IsName nm):=hid (fun f=>Bool.false_ne_true (ht.2 f))
  clear ht hN
  go_wp2_with fail
  go_ret2
  exact⟨⟨0,1,rfl,.inl ⟨by omega,fun f=>hno.out f.1,.inl ⟨hno.out,rfl⟩⟩⟩,Below.refl _ _⟩
 ·have hyes:Hid (IsName nm):=hid (ht.1 rfl)
  clear ht hN
  go_wp2_with fail
  refine(findS_any Q v.sa v.sn v.sc x.snaps nm w1 (by omega) hSn.out ho.out).mono ?_
  rintro e w2 ⟨⟨p,b,rfl,hF⟩,b1⟩
  have hb:=found_some ho.out hF
  cases b
  ·have hno:Hid (¬∃ s∈x.snaps,s.nm=nm.data.toList):=hid (fun f=>Bool.false_ne_true (hb.2 f))
   clear hb hF
   go_wp2_with fail
   go_ret2
   exact⟨⟨0,5,rfl,.inl ⟨by omega,fun f=>hno.out f.2,.inr ⟨hyes.out,rfl⟩⟩⟩,b1⟩
  ·have hth:=hid (hb.1 rfl)
   have hat:=hid (found_at hF)
   clear hb hF
   go_wp2_with fail
   go_ret2
   exact⟨⟨p,0,rfl,.inr ⟨rfl,⟨hyes.out,hth.out⟩,hat.out⟩⟩,b1⟩
set_option maxHeartbeats 1000000 in
set_option maxRecDepth 100000 in
theorem forget_any (base:Nat) (L:Nat→Prop) (yb:Nat) (v:SetV) (x:SetE) (ms:List SnapM) (nm:ByteArray) (w:World) (hP:SetP base L w yb v x ms) (hS:Shape x) (hnm:nm.size≤maxLen):
 Calls Tryz.prog 125 #[.pointer (some ⟨yb,0,none⟩),.string nm] w fun e w'=>
  RetDo base L w yb v (IsName nm∧∃ s∈x.snaps,s.nm=nm.data.toList) (OldNo nm) (fun y=>∃ q,∃ h:q<x.snaps.length,x.snaps[q].nm=nm.data.toList∧y={ x with snaps:=x.snaps.eraseIdx q }) e w':=by
 have hyl:=hP.box.lt
 have hnl:=hid hP.nl
 replace hP:=hid hP
 replace hS:=hid hS
 go_enter Tryz.func125,Tryz.ntmps125
 go_wp2_with fail
 refine(oldSnap_any base L yb v x ms nm w hP.out hS.out hnm).mono ?_
 rintro e w1 ⟨⟨q,e', rfl,hcase⟩,b1⟩
 replace hP:=hid (hP.out.below b1)
 rcases hcase with⟨he,hno⟩ | ⟨rfl,hyes,hq,hqn⟩
 ·have he':(e' == 0)=false:=by simp[he]
  replace hno:=hid hno
  go_wp2_with fail
  go_ret
  exact⟨Only.of_below b1,.inl ⟨e', rfl,he,hno.out⟩⟩
 ·replace hyes:=hid hyes
  replace hqn:=hid hqn
  have hml:ms.length=v.sn:=by have:=hP.out.new.snaps.1; rw[snapCells_len] at this; omega
  have hqs:q<v.sn:=by rw[←hml,←List.length_map (f:=SnapM.e),hP.out.new.eq]; exact hq
  have hsn3:v.sn≤3:=by rw[←hml,←List.length_map (f:=SnapM.e),hP.out.new.eq]; exact hS.out.fewS
  have y2:=hP.out.box.cell 2
  simp at y2
  go_wp2_with fail
  refine(deleteS_own v.sa v.sn v.sc q base (snapCells ms) w1 hqs hP.out.new.snaps (snapCells_one _)).mono ?_
  rintro e w2 ⟨rfl,hr,on⟩
  rw[snapCells_erase] at hr
  obtain⟨hP', on', hm'⟩:=hP.out.snaps (sa:=v.sa) (sn:=v.sn-1) (sc:=v.sc) (ms':=ms.eraseIdx q) (l:=x.snaps.eraseIdx q) on hr (by rw[map_erase,hP.out.new.eq]) (fun m hm=>.inl ((List.eraseIdx_sublist _ _).subset hm)) (fun b hb=>.inl ((own_len v.sa v.sn v.sc (v.sn-1) v.sc).trans hb))
  have z1:=(on.cells hP.out.box (fun e=>hP.out.ny (.inr e))).cell 2
  have z2:=(on.cells hP.out.box (fun e=>hP.out.ny (.inr e))).frozen 2
  simp at z1
  have J:=hid (retDo_of (bad:=OldNo nm) (L:=L) (ok:=IsName nm∧∃ s∈x.snaps,s.nm=nm.data.toList) (R:=fun y=>∃ q,∃ h:q<x.snaps.length,x.snaps[q].nm=nm.data.toList∧y={ x with snaps:=x.snaps.eraseIdx q }) b1 hyl hnl.out hyes.out ⟨q,hq,hqn.out,rfl⟩ hP' (fun b hb=>by
   rcases hb with h | h
   ·exact .inl h
   ·exact .inr (Nat.le_trans b1.size h)) on' hm')
  clear hP' on' hm' on hr y2
  go_wp2_with fail
  go_ret
  exact J.out
set_option maxHeartbeats 1000000 in
set_option maxRecDepth 100000 in
theorem back_any (base:Nat) (L:Nat→Prop) (yb:Nat) (v:SetV) (x:SetE) (ms:List SnapM) (nm:ByteArray) (w:World) (hP:SetP base L w yb v x ms) (hS:Shape x) (hnm:nm.size≤maxLen) (hbw:base≤w.heap.size):
 Calls Tryz.prog 126 #[.pointer (some ⟨yb,0,none⟩),.string nm] w fun e w'=>
  RetDo base L w yb v (IsName nm∧∃ s∈x.snaps,s.nm=nm.data.toList) (OldNo nm) (fun y=>∃ q,∃ h:q<x.snaps.length,x.snaps[q].nm=nm.data.toList∧y={ x with files:=x.snaps[q].files }) e w':=by
 have hyl:=hP.box.lt
 have hnl:=hid hP.nl
 replace hP:=hid hP
 replace hS:=hid hS
 go_enter Tryz.func126,Tryz.ntmps126
 go_wp2_with fail
 refine(oldSnap_any base L yb v x ms nm w hP.out hS.out hnm).mono ?_
 rintro e w1 ⟨⟨q,e', rfl,hcase⟩,b1⟩
 replace hP:=hid (hP.out.below b1)
 rcases hcase with⟨he,hno⟩ | ⟨rfl,hyes,hq,hqn⟩
 ·have he':(e' == 0)=false:=by simp[he]
  replace hno:=hid hno
  go_wp2_with fail
  go_ret
  exact⟨Only.of_below b1,.inl ⟨e', rfl,he,hno.out⟩⟩
 ·replace hyes:=hid hyes
  have hml:ms.length=v.sn:=by have:=hP.out.new.snaps.1; rw[snapCells_len] at this; omega
  have hql:q<ms.length:=by rw[←List.length_map (f:=SnapM.e),hP.out.new.eq]; exact hq
  have hqs:q<v.sn:=by omega
  have hsn3:v.sn≤3:=by rw[←hml,←List.length_map (f:=SnapM.e),hP.out.new.eq]; exact hS.out.fewS
  have hqe:x.snaps[q]=ms[q].e:=by simp only[←hP.out.new.eq,List.getElem_map]
  have y2:=hP.out.box.cell 2
  simp at y2
  obtain⟨sb,hsb⟩:∃ sb,v.sa=some ⟨sb,0,none⟩:=by
   rcases hP.out.new.snaps.2 with⟨h0,h1⟩ | ⟨g,cap,cur,h0,_⟩
   ·omega
   ·simp only[Value.slice.injEq] at h0; exact⟨g,h0.1⟩
  have hrow:=hP.out.new.snaps
  rw[hsb] at hrow y2
  have c1:w1.cell? ⟨sb,q*2+1,none⟩=some (.slice ms[q].fa ms[q].fn ms[q].fc):=(hrow.cellAt (q*2+1) (by omega)).trans (flat_get SnapM.cells_len ms q 1 hql (by omega))
  have hAt:=hP.out.new.lists ms[q] (List.getElem_mem hql)
  have hg6:ms[q].e.files.length≤6:=(hS.out.filesS ms[q].e (by rw[←hqe]; exact List.getElem_mem hq)).1
  rw[hqe] at hqn
  have hfl:=hAt.files.1
  have hgok:=hid hAt.files.2.1
  have hgs:=hid hAt.files.srcAt
  have hR:Hid (∃ k,∃ h:k<x.snaps.length,x.snaps[k].nm=nm.data.toList∧({ x with files:=ms[q].e.files }:SetE)={ x with files:=x.snaps[k].files }):=hid ⟨q,hq,by rw[hqe]; exact hqn,by rw[hqe]⟩
  clear hrow hAt hqn hqe
  generalize ms[q]=m at *
  have hgn:m.fn≤6:=by omega
  go_wp2_with fail
  refine(cloneE_any m.fa m.fn m.fc (entCells m.e.files) w1 (by omega) (by rw[entCells_len,hfl]) (entCells_one _) (hgs.out.src (Nat.le_refl _))).mono ?_
  rintro e w2 ⟨b2,a', c', rfl,hc,hr⟩
  obtain⟨hP', on', hm'⟩:=hP.out.files (fa:=a') (fn:=m.fn) (fc:=c') (l:=m.e.files) (Only.of_below b2) (ownsRow_base (Nat.le_trans hbw b1.size) hr) hgok.out (fun b hb=>.inr (hr.lt b hb).1)
  have z1:=(hP.out.box.below b2).cell 1
  have z2:=(hP.out.box.below b2).frozen 1
  simp at z1
  have J:=hid (retDo_of (bad:=OldNo nm) (L:=L) (ok:=IsName nm∧∃ s∈x.snaps,s.nm=nm.data.toList) (R:=fun y=>∃ q,∃ h:q<x.snaps.length,x.snaps[q].nm=nm.data.toList∧y={ x with files:=x.snaps[q].files }) b1 hyl hnl.out hyes.out hR.out hP' (fun b hb=>.inl hb) on' hm')
  clear hP' on' hm' hr y2 c1
  go_wp2_with fail
  go_ret
  exact J.out
end Go.Proofs.YtjafgnohlkkopaaGreatDoor
