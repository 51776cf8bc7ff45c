import Derived.Test.YtjafgnohlkkopaaGreatDoorPart14
import Derived.Test.YtjafgnohlkkopaaGreatDoorPart08
set_option linter.unusedVariables false
set_option maxHeartbeats 8000000
set_option maxRecDepth 100000
namespace Go.Proofs.YtjafgnohlkkopaaGreatDoor
open Go.RowKit
structure nL (base:Nat)(L:Nat->Prop)(w:World)(yb:Nat)(v:cB)(x:aK)(ms:List aZ):Prop where
 box:aC w yb #[.string x.name,.slice v.fa v.fn v.fc,.slice v.sa v.sn v.sc] 84
 new:fQ base L w v x ms
 ny:¬v.mine yb
 nl:¬L yb
theorem nL.below {base:Nat}{L:Nat->Prop}{w w':World}{yb:Nat}{v:cB}{x:aK}{ms:List aZ}(h:nL base L w yb v x ms)(b:Below w.heap.size w w'):nL base L w' yb v x ms:=⟨h.box.below b,h.new.below b,h.ny,h.nl⟩
def Mine (yb:Nat)(v:cB)(b:Nat):Prop:=b=yb\/v.mine b
theorem nL.files {base:Nat}{L:Nat->Prop}{w w1:World}{yb:Nat}{v:cB}{x:aK}{ms:List aZ}(h:nL base L w yb v x ms){fa:Option Addr}{fn fc:Nat}{l:List Ent}(on:Only (fun b=>(Value.slice v.fa v.fn v.fc).ownBlock=some b) w w1)(hr:w1.ownsRow base 106 3 (.slice fa fn fc) fn (bK l))(hok:∀ e∈l,e.ok)
 (hm:∀ b,(Value.slice fa fn fc).ownBlock=some b->(Value.slice v.fa v.fn v.fc).ownBlock=some b\/w.heap.size<=b):
 nL base L (w1.setCell ⟨yb,1,none⟩ (.slice fa fn fc)) yb { v with fa:=fa,fn:=fn,fc:=fc } { x with files:=l } ms/\Only (Mine yb v) w (w1.setCell ⟨yb,1,none⟩ (.slice fa fn fc))/\∀ b,({ v with fa:=fa,fn:=fn,fc:=fc }:cB).mine b->v.mine b\/w.heap.size<=b:=by
 have kk:Kept yb w1 (w1.setCell ⟨yb,1,none⟩ (.slice fa fn fc)):=Kept.setCell (g:=yb) (Kept.refl _ _) (p:=⟨yb,1,none⟩) rfl _
 have hyl:=h.box.lt
 have on3:Only (fun b=>b=yb\/(Value.slice v.fa v.fn v.fc).ownBlock=some b) w (w1.setCell ⟨yb,1,none⟩ (.slice fa fn fc)):=(on.mono (fun b _ hb=>.inr hb)).trans (Only.of_kept kk (.inl rfl))
 have hmine:∀ b,({ v with fa:=fa,fn:=fn,fc:=fc }:cB).mine b->v.mine b\/w.heap.size<=b:=by
  rintro b (hb | hb)
  ·rcases hm b hb with hb | hb
   ·exact .inl (.inl hb)
   ·exact .inr hb
  ·exact .inl (.inr hb)
 have hnyf:(Value.slice fa fn fc).ownBlock≠some yb:=fun e=>by
  rcases hm yb e with e | e
  ·exact h.ny (.inl e)
  ·omega
 refine⟨⟨?_,⟨h.new.name,h.new.small,?_,?_,h.new.eq,hok,fun m hmm=>?_,fun b hb hb2=>?_⟩,?_,h.nl⟩,on3.mono (fun b _ hb=>?_),hmine⟩
 ·have:=(on.cells h.box (fun e=>h.ny (.inl e))).set 1 (.slice fa fn fc)
  simp only[List.setIfInBounds_toArray,List.set_cons_succ,List.set_cons_zero] at this
  exact this
 ·exact(Only.of_kept (M:=fun b=>b=yb) kk rfl).row hr (fun b hb e=>hnyf (e▸hb))
 ·exact on3.row h.new.snaps (fun b hb e=>by
   rcases e with e | e
   ·exact h.ny (.inr (e▸hb))
   ·exact h.new.apart b e hb)
 ·have h1:=(h.new.lists m hmm).weaken (R:=fun b=>(L b/\¬({ v with fa:=fa,fn:=fn,fc:=fc }:cB).mine b)/\¬v.mine b) (fun b hb q=>⟨⟨q.1,fun f=>by
   rcases hmine b f with f | f
   ·exact q.2 f
   ·omega⟩,q.2⟩)
  refine(on3.snap h1 (fun b q e=>?_)).weaken (fun b _ q=>q.1)
  rcases e with e | e
  ·exact h.nl (e▸q.1.1)
  ·exact q.2 (.inl e)
 ·rcases hm b hb with hb | hb
  ·exact h.new.apart b hb hb2
  ·have:=(h.new.snaps.lt b hb2).2; omega
 ·rintro (e | e)
  ·exact hnyf e
  ·exact h.ny (.inr e)
 ·rcases hb with hb | hb
  ·exact .inl hb
  ·exact .inr (.inl hb)
theorem nL.snaps {base:Nat}{L:Nat->Prop}{w w1:World}{yb:Nat}{v:cB}{x:aK}{ms:List aZ}(h:nL base L w yb v x ms){sa:Option Addr}{sn sc:Nat}{ms':List aZ}{l:List bD}(on:Only (fun b=>(Value.slice v.sa v.sn v.sc).ownBlock=some b) w w1)(hr:w1.ownsRow base 113 2 (.slice sa sn sc) sn (dC ms'))(he:ms'.map (·.e)=l)
 (hl:∀ m∈ms', m∈ms\/m.At (fun b=>w.heap.size<=b/\(Value.slice sa sn sc).ownBlock≠some b) w1) (hm:∀ b,(Value.slice sa sn sc).ownBlock=some b->(Value.slice v.sa v.sn v.sc).ownBlock=some b\/w.heap.size<=b):
 nL base (fun b=>L b\/w.heap.size<=b) (w1.setCell ⟨yb,2,none⟩ (.slice sa sn sc)) yb { v with sa:=sa,sn:=sn,sc:=sc } { x with snaps:=l } ms'/\Only (Mine yb v) w (w1.setCell ⟨yb,2,none⟩ (.slice sa sn sc))/\∀ b,({ v with sa:=sa,sn:=sn,sc:=sc }:cB).mine b->v.mine b\/w.heap.size<=b:=by
 have kk:Kept yb w1 (w1.setCell ⟨yb,2,none⟩ (.slice sa sn sc)):=Kept.setCell (g:=yb) (Kept.refl _ _) (p:=⟨yb,2,none⟩) rfl _
 have hyl:=h.box.lt
 have on3:Only (fun b=>b=yb\/(Value.slice v.sa v.sn v.sc).ownBlock=some b) w (w1.setCell ⟨yb,2,none⟩ (.slice sa sn sc)):=(on.mono (fun b _ hb=>.inr hb)).trans (Only.of_kept kk (.inl rfl))
 have hmine:∀ b,({ v with sa:=sa,sn:=sn,sc:=sc }:cB).mine b->v.mine b\/w.heap.size<=b:=by
  rintro b (hb | hb)
  ·exact .inl (.inl hb)
  ·rcases hm b hb with hb | hb
   ·exact .inl (.inr hb)
   ·exact .inr hb
 have hnys:(Value.slice sa sn sc).ownBlock≠some yb:=fun e=>by
  rcases hm yb e with e | e
  ·exact h.ny (.inr e)
  ·omega
 refine⟨⟨?_,⟨h.new.name,h.new.small,?_,?_,he,h.new.ok,fun m hmm=>?_,fun b hb hb2=>?_⟩,?_,?_⟩,on3.mono (fun b _ hb=>?_),hmine⟩
 ·have:=(on.cells h.box (fun e=>h.ny (.inr e))).set 2 (.slice sa sn sc)
  simp only[List.setIfInBounds_toArray,List.set_cons_succ,List.set_cons_zero] at this
  exact this
 ·exact on3.row h.new.files (fun b hb e=>by
   rcases e with e | e
   ·exact h.ny (.inl (e▸hb))
   ·exact h.new.apart b hb e)
 ·exact(Only.of_kept (M:=fun b=>b=yb) kk rfl).row hr (fun b hb e=>hnys (e▸hb))
 ·rcases hl m hmm with hmo | hmn
  ·have h1:=(h.new.lists m hmo).weaken (R:=fun b=>(L b/\¬({ v with sa:=sa,sn:=sn,sc:=sc }:cB).mine b)/\¬v.mine b) (fun b hb q=>⟨⟨q.1,fun f=>by
    rcases hmine b f with f | f
    ·exact q.2 f
    ·omega⟩,q.2⟩)
   refine(on3.snap h1 (fun b q e=>?_)).weaken (fun b _ q=>⟨.inl q.1.1,q.1.2⟩)
   rcases e with e | e
   ·exact h.nl (e▸q.1.1)
   ·exact q.2 (.inr e)
  ·refine((Only.of_kept (M:=fun b=>b=yb) kk rfl).snap hmn (fun b q e=>by subst e; have:=q.1; omega)).weaken (fun b _ q=>⟨.inr q.1,fun f=>?_⟩)
   rcases f with f | f
   ·have:=(h.new.files.lt b f).2; have:=q.1; omega
   ·exact q.2 f
 ·rcases hm b hb2 with hb2 | hb2
  ·exact h.new.apart b hb hb2
  ·have:=(h.new.files.lt b hb).2; omega
 ·rintro (e | e)
  ·exact h.ny (.inl e)
  ·exact hnys e
 ·rintro (e | e)
  ·exact h.nl e
  ·omega
 ·rcases hb with hb | hb
  ·exact .inl hb
  ·exact .inr (.inr hb)
theorem nL.weaken {base:Nat}{L L':Nat->Prop}{w:World}{yb:Nat}{v:cB}{x:aK}{ms:List aZ}(h:nL base L w yb v x ms)(hl:∀ b,b<w.heap.size->L b->L' b)(hn:¬L' yb):nL base L' w yb v x ms:=⟨h.box,h.new.weaken hl,h.ny,hn⟩
def zM (base:Nat)(L:Nat->Prop)(w:World)(yb:Nat)(v:cB)(ok:Prop)(bad:Int->Prop)(R:aK->Prop)(e:Ending)(w':World):Prop:=
 Only (Mine yb v) w w'/\((∃ e':Int,e=.returned (.int .i64 e')/\e'≠0/\¬ok/\bad e')\/
  (e=.returned (.int .i64 0)/\ok/\∃ v' y ms', R y/\nL base (fun b=>L b\/w.heap.size<=b) w' yb v' y ms'/\∀ b,v'.mine b->v.mine b\/w.heap.size<=b))
theorem dI {α:Type}{f:α->List UInt8}{l:List α}{t:List UInt8}{p:Nat}{b:Bool}(ho:l.Pairwise fun a b=>f a<f b)(h:Found f l t p b):b=true↔∃ x∈l,f x=t:=by
 rw[h.there]
 constructor
 ·rintro⟨x,hx,e⟩
  exact⟨x,List.mem_of_getElem? hx,e⟩
 ·rintro⟨x,hx,e⟩
  obtain⟨k,hk,rfl⟩:=List.mem_iff_getElem.1 hx
  have hkp:p<=k:=by
   rcases Nat.lt_or_ge k p with hlt | hge
   ·have h1:=h.ahead l[k] (by rw[List.mem_iff_getElem]; exact⟨k,by rw[List.length_take]; omega,by rw[List.getElem_take]⟩)
    rw[e] at h1
    exact absurd h1 (nV _)
   ·exact hge
  by_cases ek:k=p
  ·subst ek
   exact⟨l[k],List.getElem?_eq_getElem hk,e⟩
  ·have h1:=List.pairwise_iff_getElem.1 ho p k (by omega) hk (by omega)
   rw[e] at h1
   exact absurd h1 (h.behind l[p] (by rw[List.mem_iff_getElem]; exact⟨0,by rw[List.length_drop]; omega,by rw[List.getElem_drop]; rfl⟩))
theorem jX {α:Type}{f:α->List UInt8}{l:List α}{t:List UInt8}{p:Nat}(ho:l.Pairwise fun a b=>f a<f b)(h:Found f l t p false):∀ x∈l.drop p,t<f x:=fun x hx=>by
 have h1:=h.behind x hx
 rcases cH4 (f x) t with h2 | h2 | h2
 ·exact absurd h2 h1
 ·exact absurd ((dI ho h).2 ⟨x,List.mem_of_mem_drop hx,h2⟩) Bool.false_ne_true
 ·exact h2
theorem jR {α:Type}{f:α->List UInt8}{l:List α}{t:List UInt8}{p:Nat}(h:Found f l t p true):∃ h:p<l.length,f l[p]=t:=by
 obtain⟨x,hx,e⟩:=h.there.1 rfl
 obtain⟨hp,rfl⟩:=List.getElem?_eq_some_iff.1 hx
 exact⟨hp,e⟩
theorem nL.entsAt {base:Nat}{L:Nat->Prop}{w:World}{yb:Nat}{v:cB}{x:aK}{ms:List aZ}(h:nL base L w yb v x ms):dU (fun b=>base<=b/\(Value.slice v.fa v.fn v.fc).ownBlock=some b) w v.fa v.fn x.files:=vT h.new.ok h.new.files
theorem nL.snapsAt {base:Nat}{L:Nat->Prop}{w:World}{yb:Nat}{v:cB}{x:aK}{ms:List aZ}(h:nL base L w yb v x ms):∃ Q,dV Q w v.sa v.sn x.snaps:=⟨_,by have:=aK0 h.new.lists h.new.snaps; rwa [h.new.eq] at this⟩
theorem xC (a:Option Addr)(n c n' c':Nat):(Value.slice a n c).ownBlock=(Value.slice a n' c').ownBlock:=by cases a<;>rfl
theorem pW (l:List Ent)(i:Nat):(bK l).take (i*3)++(bK l).drop ((i+1)*3)=bK (l.eraseIdx i):=by
 unfold bK
 rw[kI Ent.cells_len,kJ Ent.cells_len,tK]
theorem yJ (l:List Ent)(i:Nat)(x:Ent):(bK l).take (i*3)++(x.cells++(bK l).drop (i*3))=bK (l.take i++x::l.drop i):=by
 unfold bK
 rw[kI Ent.cells_len,kJ Ent.cells_len,qL]
theorem wL (l:List aZ)(i:Nat):(dC l).take (i*2)++(dC l).drop ((i+1)*2)=dC (l.eraseIdx i):=by
 unfold dC
 rw[kI aZ.cells_len,kJ aZ.cells_len,tK]
theorem uX (l:List aZ)(i:Nat)(x:aZ):(dC l).take (i*2)++(x.cells++(dC l).drop (i*2))=dC (l.take i++x::l.drop i):=by
 unfold dC
 rw[kI aZ.cells_len,kJ aZ.cells_len,qL]
theorem bG6 (base:Nat)(L:Nat->Prop)(yb:Nat)(v:cB)(x:aK)(ms:List aZ)(nm:ByteArray)(w:World)(hP:nL base L w yb v x ms)(hS:Shape x):
 Calls Tryz.prog 122 #[.pointer (some ⟨yb,0,none⟩),.string nm] w fun e w'=>
  zM base L w yb v (∃ f∈x.files,f.nm=nm.data.toList) (fun e=>e=5) (fun y=>∃ p,∃ h:p<x.files.length,x.files[p].nm=nm.data.toList/\y={ x with files:=x.files.eraseIdx p }) e w':=by
 have hfn:v.fn<=6:=by rw[<-hP.entsAt.1]; exact hS.few
 have ho:=hS.order
 have y1:=hP.box.cell 1
 simp at y1
 have hfr:=hP.box.frozen 1
 go_enter Tryz.func122,Tryz.ntmps122
 replace hP:=hid hP
 replace ho:=hid ho
 replace hS:=hid hS
 go_wp2_with fail
 refine(iR _ v.fa v.fn v.fc x.files nm w (by omega) hP.out.entsAt ho.out).mono ?_
 rintro e w1 ⟨⟨p,b,rfl,hF⟩,b1⟩
 have hb:=hid (dI ho.out hF)
 replace hP:=hid (hP.out.below b1)
 have y2:=(b1.cell (p:=⟨yb,1,none⟩) (fC y1)).trans y1
 cases b
 ·replace hF:=hid hF
  go_wp2_with fail
  go_ret
  exact⟨Only.of_below b1,.inl ⟨5,rfl,by omega,fun f=>Bool.false_ne_true (hb.out.2 f),rfl⟩⟩
 ·obtain⟨hp,hpn⟩:=jR hF
  have hpn':p<v.fn:=by have:=hP.out.entsAt.1; omega
  replace hF:=hid hF
  replace hpn:=hid hpn
  have hyes:=hid (hb.out.1 rfl)
  go_wp2_with fail
  refine(yK v.fa v.fn v.fc p base (bK x.files) w1 hpn' hP.out.new.files (fF _)).mono ?_
  rintro e w2 ⟨rfl,hr,on⟩
  rw[pW] at hr
  obtain⟨hP', on', hm'⟩:=hP.out.files (fa:=v.fa) (fn:=v.fn-1) (fc:=v.fc) on hr (fun e he=>hP.out.new.ok e ((List.eraseIdx_sublist _ _).subset he)) (fun b hb=>.inl ((xC v.fa v.fn v.fc (v.fn-1) v.fc).trans hb))
  have z1:=(on.cells hP.out.box (fun e=>hP.out.ny (.inl e))).cell 1
  have z2:=(on.cells hP.out.box (fun e=>hP.out.ny (.inl e))).frozen 1
  simp at z1
  have J:Hid (zM base L w yb v (∃ f∈x.files,f.nm=nm.data.toList) (fun e=>e=5) (fun y=>∃ p,∃ h:p<x.files.length,x.files[p].nm=nm.data.toList/\y={ x with files:=x.files.eraseIdx p }) (.returned (.int .i64 0)) (w2.setCell ⟨yb,1,none⟩ (.slice v.fa (v.fn-1) v.fc))):=hid ⟨(Only.of_below b1).trans on', .inr ⟨rfl,hyes.out,_,_,_,⟨p,hp,hpn.out,rfl⟩,hP'.weaken (fun b _ h=>.inl h) (fun f=>by
   rcases f with f | f
   ·exact hP'.nl f
   ·have:=hP.out.box.lt; have:=fC y1; omega),fun b hb=>by
   rcases hm' b hb with h | h
   ·exact .inl h
   ·exact .inr (Nat.le_trans b1.size h)⟩⟩
  clear hP' on' hm' on hr y1 y2 hfr
  go_wp2_with fail
  go_ret
  exact J.out
theorem vK {base:Nat}{L L':Nat->Prop}{w w1 w2:World}{yb:Nat}{v v':cB}{ok:Prop}{bad:Int->Prop}{R:aK->Prop}{y:aK}{ms:List aZ}(b1:Below w.heap.size w w1)(hyl:yb<w.heap.size)(hnl:¬L yb)(hok:ok)(hR:R y)(hP:nL base L' w2 yb v' y ms)(hL:∀ b,L' b->L b\/w.heap.size<=b)(on:Only (Mine yb v) w1 w2)(hm:∀ b,v'.mine b->v.mine b\/w1.heap.size<=b):
 zM base L w yb v ok bad R (.returned (.int .i64 0)) w2:=by
 refine⟨(Only.of_below b1).trans on,.inr ⟨rfl,hok,_,_,_,hR,hP.weaken (fun b _ h=>hL b h) (fun f=>?_),fun b hb=>?_⟩⟩
 ·rcases f with f | f
  ·exact hnl f
  ·omega
 ·rcases hm b hb with h | h
  ·exact .inl h
  ·exact .inr (Nat.le_trans b1.size h)
theorem bR7 {α β:Type}(f:α->β)(l:List α)(i:Nat):(l.eraseIdx i).map f=(l.map f).eraseIdx i:=by
 rw[List.eraseIdx_eq_take_drop_succ,List.eraseIdx_eq_take_drop_succ,List.map_append,List.map_take,List.map_drop]
def aQ9 (nm:ByteArray)(e':Int):Prop:=(¬aM nm/\e'=1)\/(aM nm/\e'=5)
def cR8 (l:List bD)(nm:ByteArray)(e:Ending):Prop:=∃ (q:Nat) (e':Int),e=.returned (.tuple #[.int .i64 q,.int .i64 e'])/\
 ((e'≠0/\¬(aM nm/\∃ s∈l,s.nm=nm.data.toList)/\aQ9 nm e')\/(e'=0/\(aM nm/\∃ s∈l,s.nm=nm.data.toList)/\∃ h:q<l.length,l[q].nm=nm.data.toList))
theorem xJ (base:Nat)(L:Nat->Prop)(yb:Nat)(v:cB)(x:aK)(ms:List aZ)(nm:ByteArray)(w:World)(hP:nL base L w yb v x ms)(hS:Shape x)(hnm:nm.size<=maxLen):
 Calls Tryz.prog 153 #[.pointer (some ⟨yb,0,none⟩),.string nm] w fun e w'=>cR8 x.snaps nm e/\Below w.heap.size w w':=by
 obtain⟨Q,hSn⟩:=hP.snapsAt
 have hsn:v.sn<=3:=by rw[<-hSn.1]; exact hS.fewS
 have ho:=hS.orderS
 have y2:=hP.box.cell 2
 simp at y2
 replace hP:=hid hP
 replace ho:=hid ho
 replace hS:=hid hS
 replace hSn:=hid hSn
 go_enter Tryz.func153,Tryz.ntmps153
 go_wp2_with fail
 refine(iO nm w hnm).mono ?_
 rintro e w1 ⟨⟨t,rfl,ht⟩,rfl⟩
 have hN:=hid ht
 cases t
 ·have hno:Hid (¬aM nm):=hid (fun f=>Bool.false_ne_true (ht.2 f))
  clear ht hN
  go_wp2_with fail
  go_ret2
  exact⟨⟨0,1,rfl,.inl ⟨by omega,fun f=>hno.out f.1,.inl ⟨hno.out,rfl⟩⟩⟩,Below.refl _ _⟩
 ·have hyes:Hid (aM nm):=hid (ht.1 rfl)
  clear ht hN
  go_wp2_with fail
  refine(yH Q v.sa v.sn v.sc x.snaps nm w1 (by omega) hSn.out ho.out).mono ?_
  rintro e w2 ⟨⟨p,b,rfl,hF⟩,b1⟩
  have hb:=dI ho.out hF
  cases b
  ·have hno:Hid (¬∃ s∈x.snaps,s.nm=nm.data.toList):=hid (fun f=>Bool.false_ne_true (hb.2 f))
   clear hb hF
   go_wp2_with fail
   go_ret2
   exact⟨⟨0,5,rfl,.inl ⟨by omega,fun f=>hno.out f.2,.inr ⟨hyes.out,rfl⟩⟩⟩,b1⟩
  ·have hth:=hid (hb.1 rfl)
   have hat:=hid (jR hF)
   clear hb hF
   go_wp2_with fail
   go_ret2
   exact⟨⟨p,0,rfl,.inr ⟨rfl,⟨hyes.out,hth.out⟩,hat.out⟩⟩,b1⟩
theorem bJ2 (base:Nat)(L:Nat->Prop)(yb:Nat)(v:cB)(x:aK)(ms:List aZ)(nm:ByteArray)(w:World)(hP:nL base L w yb v x ms)(hS:Shape x)(hnm:nm.size<=maxLen):
 Calls Tryz.prog 125 #[.pointer (some ⟨yb,0,none⟩),.string nm] w fun e w'=>
  zM base L w yb v (aM nm/\∃ s∈x.snaps,s.nm=nm.data.toList) (aQ9 nm) (fun y=>∃ q,∃ h:q<x.snaps.length,x.snaps[q].nm=nm.data.toList/\y={ x with snaps:=x.snaps.eraseIdx q }) e w':=by
 have hyl:=hP.box.lt
 have hnl:=hid hP.nl
 replace hP:=hid hP
 replace hS:=hid hS
 go_enter Tryz.func125,Tryz.ntmps125
 go_wp2_with fail
 refine(xJ base L yb v x ms nm w hP.out hS.out hnm).mono ?_
 rintro e w1 ⟨⟨q,e', rfl,hcase⟩,b1⟩
 replace hP:=hid (hP.out.below b1)
 rcases hcase with⟨he,hno⟩ | ⟨rfl,hyes,hq,hqn⟩
 ·have he':(e' == 0)=false:=by simp[he]
  replace hno:=hid hno
  go_wp2_with fail
  go_ret
  exact⟨Only.of_below b1,.inl ⟨e', rfl,he,hno.out⟩⟩
 ·replace hyes:=hid hyes
  replace hqn:=hid hqn
  have hml:ms.length=v.sn:=by have:=hP.out.new.snaps.1; rw[iJ] at this; omega
  have hqs:q<v.sn:=by rw[<-hml,<-List.length_map (f:=aZ.e),hP.out.new.eq]; exact hq
  have hsn3:v.sn<=3:=by rw[<-hml,<-List.length_map (f:=aZ.e),hP.out.new.eq]; exact hS.out.fewS
  have y2:=hP.out.box.cell 2
  simp at y2
  go_wp2_with fail
  refine(aX1 v.sa v.sn v.sc q base (dC ms) w1 hqs hP.out.new.snaps (mU _)).mono ?_
  rintro e w2 ⟨rfl,hr,on⟩
  rw[wL] at hr
  obtain⟨hP', on', hm'⟩:=hP.out.snaps (sa:=v.sa) (sn:=v.sn-1) (sc:=v.sc) (ms':=ms.eraseIdx q) (l:=x.snaps.eraseIdx q) on hr (by rw[bR7,hP.out.new.eq]) (fun m hm=>.inl ((List.eraseIdx_sublist _ _).subset hm)) (fun b hb=>.inl ((xC v.sa v.sn v.sc (v.sn-1) v.sc).trans hb))
  have z1:=(on.cells hP.out.box (fun e=>hP.out.ny (.inr e))).cell 2
  have z2:=(on.cells hP.out.box (fun e=>hP.out.ny (.inr e))).frozen 2
  simp at z1
  have J:=hid (vK (bad:=aQ9 nm) (L:=L) (ok:=aM nm/\∃ s∈x.snaps,s.nm=nm.data.toList) (R:=fun y=>∃ q,∃ h:q<x.snaps.length,x.snaps[q].nm=nm.data.toList/\y={ x with snaps:=x.snaps.eraseIdx q }) b1 hyl hnl.out hyes.out ⟨q,hq,hqn.out,rfl⟩ hP' (fun b hb=>by
   rcases hb with h | h
   ·exact .inl h
   ·exact .inr (Nat.le_trans b1.size h)) on' hm')
  clear hP' on' hm' on hr y2
  go_wp2_with fail
  go_ret
  exact J.out
theorem cF2 (base:Nat)(L:Nat->Prop)(yb:Nat)(v:cB)(x:aK)(ms:List aZ)(nm:ByteArray)(w:World)(hP:nL base L w yb v x ms)(hS:Shape x)(hnm:nm.size<=maxLen)(hbw:base<=w.heap.size):
 Calls Tryz.prog 126 #[.pointer (some ⟨yb,0,none⟩),.string nm] w fun e w'=>
  zM base L w yb v (aM nm/\∃ s∈x.snaps,s.nm=nm.data.toList) (aQ9 nm) (fun y=>∃ q,∃ h:q<x.snaps.length,x.snaps[q].nm=nm.data.toList/\y={ x with files:=x.snaps[q].files }) e w':=by
 have hyl:=hP.box.lt
 have hnl:=hid hP.nl
 replace hP:=hid hP
 replace hS:=hid hS
 go_enter Tryz.func126,Tryz.ntmps126
 go_wp2_with fail
 refine(xJ base L yb v x ms nm w hP.out hS.out hnm).mono ?_
 rintro e w1 ⟨⟨q,e', rfl,hcase⟩,b1⟩
 replace hP:=hid (hP.out.below b1)
 rcases hcase with⟨he,hno⟩ | ⟨rfl,hyes,hq,hqn⟩
 ·have he':(e' == 0)=false:=by simp[he]
  replace hno:=hid hno
  go_wp2_with fail
  go_ret
  exact⟨Only.of_below b1,.inl ⟨e', rfl,he,hno.out⟩⟩
 ·replace hyes:=hid hyes
  have hml:ms.length=v.sn:=by have:=hP.out.new.snaps.1; rw[iJ] at this; omega
  have hql:q<ms.length:=by rw[<-List.length_map (f:=aZ.e),hP.out.new.eq]; exact hq
  have hqs:q<v.sn:=by omega
  have hsn3:v.sn<=3:=by rw[<-hml,<-List.length_map (f:=aZ.e),hP.out.new.eq]; exact hS.out.fewS
  have hqe:x.snaps[q]=ms[q].e:=by simp only[<-hP.out.new.eq,List.getElem_map]
  have y2:=hP.out.box.cell 2
  simp at y2
  obtain⟨sb,hsb⟩:∃ sb,v.sa=some ⟨sb,0,none⟩:=by
   rcases hP.out.new.snaps.2 with⟨h0,h1⟩ | ⟨g,cap,cur,h0,_⟩
   ·omega
   ·simp only[Value.slice.injEq] at h0; exact⟨g,h0.1⟩
  have hrow:=hP.out.new.snaps
  rw[hsb] at hrow y2
  have c1:w1.cell? ⟨sb,q*2+1,none⟩=some (.slice ms[q].fa ms[q].fn ms[q].fc):=(hrow.cellAt (q*2+1) (by omega)).trans (flat_get aZ.cells_len ms q 1 hql (by omega))
  have hAt:=hP.out.new.lists ms[q] (List.getElem_mem hql)
  have hg6:ms[q].e.files.length<=6:=(hS.out.filesS ms[q].e (by rw[<-hqe]; exact List.getElem_mem hq)).1
  rw[hqe] at hqn
  have hfl:=hAt.files.1
  have hgok:=hid hAt.files.2.1
  have hgs:=hid hAt.files.srcAt
  have hR:Hid (∃ k,∃ h:k<x.snaps.length,x.snaps[k].nm=nm.data.toList/\({ x with files:=ms[q].e.files }:aK)={ x with files:=x.snaps[k].files }):=hid ⟨q,hq,by rw[hqe]; exact hqn,by rw[hqe]⟩
  clear hrow hAt hqn hqe
  generalize ms[q]=m at *
  have hgn:m.fn<=6:=by omega
  go_wp2_with fail
  refine(mG m.fa m.fn m.fc (bK m.e.files) w1 (by omega) (by rw[fZ,hfl]) (fF _) (hgs.out.src (Nat.le_refl _))).mono ?_
  rintro e w2 ⟨b2,a', c', rfl,hc,hr⟩
  obtain⟨hP', on', hm'⟩:=hP.out.files (fa:=a') (fn:=m.fn) (fc:=c') (l:=m.e.files) (Only.of_below b2) (dE (Nat.le_trans hbw b1.size) hr) hgok.out (fun b hb=>.inr (hr.lt b hb).1)
  have z1:=(hP.out.box.below b2).cell 1
  have z2:=(hP.out.box.below b2).frozen 1
  simp at z1
  have J:=hid (vK (bad:=aQ9 nm) (L:=L) (ok:=aM nm/\∃ s∈x.snaps,s.nm=nm.data.toList) (R:=fun y=>∃ q,∃ h:q<x.snaps.length,x.snaps[q].nm=nm.data.toList/\y={ x with files:=x.snaps[q].files }) b1 hyl hnl.out hyes.out hR.out hP' (fun b hb=>.inl hb) on' hm')
  clear hP' on' hm' hr y2 c1
  go_wp2_with fail
  go_ret
  exact J.out
end Go.Proofs.YtjafgnohlkkopaaGreatDoor
namespace Go.Proofs.YtjafgnohlkkopaaGreatDoor
theorem tN {l:List bD}(p:Nat)(x:bD)(r:Int):(dR (l.take p++x::l.drop p)).count r=(dR l).count r+(aT x.files).count r:=by
 have e:dR l=dR (l.take p)++dR (l.drop p):=by rw[<-iL,List.take_append_drop]
 rw[e,iL]
 show (dR (l.take p)++(aT x.files++dR (l.drop p))).count r=_
 simp only[List.count_append]
 omega
theorem vD {l:List bD}{p:Nat}(hp:p<l.length)(r:Int):(dR (l.eraseIdx p)).count r+(aT (l[p]).files).count r=(dR l).count r:=by
 have e:l=l.take p++l[p]::l.drop (p+1):=by rw[List.getElem_cons_drop,List.take_append_drop]
 have e2:dR l=dR (l.take p)++(aT l[p].files++dR (l.drop (p+1))):=by
  conv=>lhs; rw[e]
  rw[iL]; rfl
 rw[List.eraseIdx_eq_take_drop_succ,iL,e2]
 simp only[List.count_append]
 omega
theorem mem_insert {α:Type}{l:List α}{p:Nat}{x z:α}:z∈l.take p++x::l.drop p↔z=x\/z∈l:=by
 have:z∈l↔z∈l.take p++l.drop p:=by rw[List.take_append_drop]
 rw[this,List.mem_append,List.mem_append,List.mem_cons]
 constructor
 ·rintro (h | h | h)
  ·exact .inr (.inl h)
  ·exact .inl h
  ·exact .inr (.inr h)
 ·rintro (h | h | h)
  ·exact .inr (.inl h)
  ·exact .inl h
  ·exact .inr (.inr h)
theorem lW {α:Type}{l:List α}{p:Nat}{x z:α}(h:z∈l.set p x):z=x\/z∈l:=(List.mem_or_eq_of_mem_set h).symm
theorem length_insert {α:Type}(l:List α)(p:Nat)(x:α):(l.take p++x::l.drop p).length=l.length+1:=by
 have e:l.length=(l.take p++l.drop p).length:=by rw[List.take_append_drop]
 rw[e]; simp; omega
theorem bU7 {n:Nat}{B:Nat->Blk}(h:Right n B):iU n B B []:=vS h.one
theorem cE3 {n:Nat}{key:Int}{B C:Nat->Blk}{x:aK}{q:Nat}{nm:ByteArray}(hx:aV n B key x)(hq:q<x.snaps.length)(hn:aM nm)(hg:Grow n B C (aT (x.snaps[q]).files))(hh:dY n B (aG x)):
 aV n C key ⟨nm,(x.snaps[q]).files,[]⟩/\dY n C (aG ⟨nm,(x.snaps[q]).files,[]⟩)/\aV n C key x:=by
 have hs:=hx.shape
 have hmem:x.snaps[q]∈x.snaps:=List.getElem_mem hq
 refine⟨qY hx.kb hg.right ⟨hn,(hs.filesS _ hmem).1,(hs.filesS _ hmem).2.1,(hs.filesS _ hmem).2.2,Nat.zero_le _,by simp,List.Pairwise.nil,by simp⟩ (fun e he=>?_),fun k hk=>?_,qY hx.kb hg.right hs (jW hx hg)⟩
 ·rcases List.mem_append.1 he with h | h
  ·exact jW hx hg e (List.mem_append_right _ (List.mem_flatMap.2 ⟨_,hmem,h⟩))
  ·simp at h
 ·rw[hg.out k hk]
  have:=hh k hk
  have e:aG ⟨nm,(x.snaps[q]).files,[]⟩=aT (x.snaps[q]).files:=by simp[aG,dR]
  rw[e]
  omega
end Go.Proofs.YtjafgnohlkkopaaGreatDoor
