/-
  PoolRA, PoolRB, PldA, PldS in one text. Nothing here is trusted.
-/
import Derived.Test.YtjafgnohlkkopaaGreatDoorPart34
set_option linter.unusedVariables false
namespace Go.Proofs.YtjafgnohlkkopaaGreatDoor
open Go.RowKit
structure AnsV where
 e:Int
 N:Int
 ya:Option Addr
 yn:Nat
 yc:Nat
 y:Option Addr
 ln:Nat
 lc:Nat
def AnsV.zero:AnsV:=⟨0,0,none,0,0,none,0,0⟩
def AnsAt (w:World) (rb n:Nat) (v:Nat→AnsV):Prop:=
 ∃ cs:Array Value,CellsAt w rb cs 41∧cs.size=n*4∧∀ i,i<n→cs[i*4]? =some (.int .i64 (v i).e)∧cs[i*4+1]? =some (.int .i64 (v i).N)∧cs[i*4+2]? =some (.slice (v i).ya (v i).yn (v i).yc)∧cs[i*4+3]? =some (.slice (v i).y (v i).ln (v i).lc)
theorem AnsAt.lt {w:World} {rb n:Nat} {v:Nat→AnsV} (h:AnsAt w rb n v):rb<w.heap.size:=by
 obtain⟨cs,k,_⟩:=h
 exact k.lt
theorem AnsAt.below {w w':World} {rb n:Nat} {v:Nat→AnsV} (h:AnsAt w rb n v) (b:Below w.heap.size w w'):AnsAt w' rb n v:=by
 obtain⟨cs,k,h1,h2⟩:=h
 exact⟨cs,k.below b,h1,h2⟩
theorem AnsAt.only {M:Nat→Prop} {w w':World} {rb n:Nat} {v:Nat→AnsV} (h:AnsAt w rb n v) (on:Only M w w') (hm:¬M rb):AnsAt w' rb n v:=by
 obtain⟨cs,k,h1,h2⟩:=h
 exact⟨cs,on.cells k hm,h1,h2⟩
theorem AnsAt.cells {w:World} {rb n:Nat} {v:Nat→AnsV} (h:AnsAt w rb n v) {i:Nat} (hi:i<n):w.cell? ⟨rb,i*4,none⟩=some (.int .i64 (v i).e)∧w.cell? ⟨rb,i*4+1,none⟩=some (.int .i64 (v i).N)∧w.cell? ⟨rb,i*4+2,none⟩=some (.slice (v i).ya (v i).yn (v i).yc)∧w.cell? ⟨rb,i*4+3,none⟩=some (.slice (v i).y (v i).ln (v i).lc):=by
 obtain⟨cs,k,h1,h2⟩:=h
 obtain⟨a,b,c,d⟩:=h2 i hi
 exact⟨(k.cell _).trans a,(k.cell _).trans b,(k.cell _).trans c,(k.cell _).trans d⟩
theorem AnsAt.free {w:World} {rb n:Nat} {v:Nat→AnsV} (h:AnsAt w rb n v) (i:Nat):w.frozen? ⟨rb,i,none⟩=false:=by
 obtain⟨cs,k,h1,h2⟩:=h
 exact k.frozen i
abbrev putR (w:World) (rb i:Nat) (e1 N:Int) (ya:Option Addr) (yn yc:Nat) (y:Option Addr) (ln lc:Nat):World:=(((w.setCell ⟨rb,i*4,none⟩ (.int .i64 e1)).setCell ⟨rb,i*4+1,none⟩ (.int .i64 N)).setCell ⟨rb,i*4+2,none⟩ (.slice ya yn yc)).setCell ⟨rb,i*4+3,none⟩ (.slice y ln lc)
theorem kept_putR (w:World) (rb i:Nat) (e1 N:Int) (ya:Option Addr) (yn yc:Nat) (y:Option Addr) (ln lc:Nat):Kept rb w (putR w rb i e1 N ya yn yc y ln lc):=
 Kept.setCell (g:=rb) (Kept.setCell (g:=rb) (Kept.setCell (g:=rb) (Kept.setCell (g:=rb) (Kept.refl _ _) (p:=⟨rb,i*4,none⟩) rfl _) (p:=⟨rb,i*4+1,none⟩) rfl _) (p:=⟨rb,i*4+2,none⟩) rfl _) (p:=⟨rb,i*4+3,none⟩) rfl _
def putV (v:Nat→AnsV) (i:Nat) (x:AnsV):Nat→AnsV:=fun j=>if j=i then x else v j
theorem putV_self (v:Nat→AnsV) (i:Nat) (x:AnsV):putV v i x i=x:=by simp[putV]
theorem putV_ne (v:Nat→AnsV) {i j:Nat} (x:AnsV) (h:j≠i):putV v i x j=v j:=by simp[putV,h]
theorem AnsAt.put {w:World} {rb n:Nat} {v:Nat→AnsV} (h:AnsAt w rb n v) {i:Nat} (hi:i<n) (e1 N:Int) (ya:Option Addr) (yn yc:Nat) (y:Option Addr) (ln lc:Nat):AnsAt (putR w rb i e1 N ya yn yc y ln lc) rb n (putV v i ⟨e1,N,ya,yn,yc,y,ln,lc⟩):=by
 obtain⟨cs,k,h1,h2⟩:=h
 have k':=(((k.set (i*4) (.int .i64 e1)).set (i*4+1) (.int .i64 N)).set (i*4+2) (.slice ya yn yc)).set (i*4+3) (.slice y ln lc)
 refine⟨_,k', by simp[h1],fun j hj=>?_⟩
 by_cases e:j=i
 ·subst e
  rw[putV_self]
  simp only[Array.getElem?_setIfInBounds,Array.size_setIfInBounds]
  refine⟨?_,?_,?_,?_⟩<;>(simp; omega)
 ·rw[putV_ne v _ e]
  obtain⟨a,b,c,d⟩:=h2 j hj
  simp only[Array.getElem?_setIfInBounds,Array.size_setIfInBounds]
  refine⟨?_,?_,?_,?_⟩
  ·rw[if_neg (by omega),if_neg (by omega),if_neg (by omega),if_neg (by omega)]; exact a
  ·rw[if_neg (by omega),if_neg (by omega),if_neg (by omega),if_neg (by omega)]; exact b
  ·rw[if_neg (by omega),if_neg (by omega),if_neg (by omega),if_neg (by omega)]; exact c
  ·rw[if_neg (by omega),if_neg (by omega),if_neg (by omega),if_neg (by omega)]; exact d
theorem AnsAt.putE {w:World} {rb n:Nat} {v:Nat→AnsV} (h:AnsAt w rb n v) {i:Nat} (hi:i<n) (e1:Int):AnsAt (w.setCell ⟨rb,i*4,none⟩ (.int .i64 e1)) rb n (putV v i { v i with e:=e1 }):=by
 obtain⟨cs,k,h1,h2⟩:=h
 have k':=(k.set (i*4) (.int .i64 e1))
 refine⟨_,k', by simp[h1],fun j hj=>?_⟩
 by_cases e:j=i
 ·subst e
  rw[putV_self]
  obtain⟨a,b,c,d⟩:=h2 j hj
  simp only[Array.getElem?_setIfInBounds]
  refine⟨by simp; omega,?_,?_,?_⟩
  ·rw[if_neg (by omega)]; exact b
  ·rw[if_neg (by omega)]; exact c
  ·rw[if_neg (by omega)]; exact d
 ·rw[putV_ne v _ e]
  obtain⟨a,b,c,d⟩:=h2 j hj
  simp only[Array.getElem?_setIfInBounds]
  refine⟨?_,?_,?_,?_⟩
  ·rw[if_neg (by omega)]; exact a
  ·rw[if_neg (by omega)]; exact b
  ·rw[if_neg (by omega)]; exact c
  ·rw[if_neg (by omega)]; exact d
structure AnsD where
 e:Int
 N:Int
 S:List ByteArray
 b:List Int
def AnsD.zero:AnsD:=⟨0,0,[],[]⟩
def AnsV.has (x:AnsV) (b:Nat):Prop:=(0<x.yn∧∃ off,x.ya=some ⟨b,off,none⟩)∨(0<x.ln∧∃ off,x.y=some ⟨b,off,none⟩)
structure AnsOk (Q:Nat→Prop) (w:World) (x:AnsV) (d:AnsD):Prop where
 e:x.e=d.e
 n:x.N=d.N
 lists:AnsIn Q w d.S d.b x.ya x.yn x.yc x.y x.ln x.lc
theorem AnsOk.self {Q:Nat→Prop} {w:World} {x:AnsV} {d:AnsD} (h:AnsOk Q w x d):AnsOk (fun b=>Q b∧x.has b) w x d:=by
 refine⟨h.e,h.n,⟨h.lists.names.1,fun h0=>?_⟩,⟨h.lists.bytes.1,h.lists.bytes.2.1,fun h0=>?_⟩,h.lists.caps⟩
 ·obtain⟨b,off,e,h1,h2,h3⟩:=h.lists.names.2 h0
  exact⟨b,off,e,h1,⟨h2,.inl ⟨h0,off,e⟩⟩,h3⟩
 ·obtain⟨b,off,e,h1,h2,h3⟩:=h.lists.bytes.2.2 h0
  exact⟨b,off,e,h1,⟨h2,.inr ⟨h0,off,e⟩⟩,h3⟩
theorem AnsOk.where {Q:Nat→Prop} {w:World} {x:AnsV} {d:AnsD} (h:AnsOk Q w x d) {b:Nat} (hb:x.has b):Q b∧b<w.heap.size:=by
 rcases hb with⟨h0,off,e⟩ | ⟨h0,off,e⟩
 ·obtain⟨c,o,e2,h1,h2,h3⟩:=h.lists.names.2 h0
  rw[e] at e2
  simp only[Option.some.injEq,Addr.mk.injEq] at e2
  obtain⟨rfl,_⟩:=e2
  exact⟨h2,h1⟩
 ·obtain⟨c,o,e2,h1,h2,h3⟩:=h.lists.bytes.2.2 h0
  rw[e] at e2
  simp only[Option.some.injEq,Addr.mk.injEq] at e2
  obtain⟨rfl,_⟩:=e2
  exact⟨h2,h1⟩
theorem AnsOk.weaken {Q R:Nat→Prop} {w:World} {x:AnsV} {d:AnsD} (h:AnsOk Q w x d) (hq:∀ b,b<w.heap.size→Q b→R b):AnsOk R w x d:=⟨h.e,h.n,h.lists.weaken hq⟩
theorem AnsOk.below {Q:Nat→Prop} {w w':World} {x:AnsV} {d:AnsD} (h:AnsOk Q w x d) (b:Below w.heap.size w w'):AnsOk Q w' x d:=⟨h.e,h.n,h.lists.below b⟩
theorem AnsOk.kept {Q:Nat→Prop} {w w':World} {x:AnsV} {d:AnsD} {g:Nat} (h:AnsOk Q w x d) (hq:∀ b,Q b→b≠g) (k:Kept g w w'):AnsOk Q w' x d:=⟨h.e,h.n,h.lists.kept hq k⟩
theorem AnsOk.only {M Q:Nat→Prop} {w w':World} {x:AnsV} {d:AnsD} (h:AnsOk Q w x d) (on:Only M w w') (hq:∀ b,Q b→¬M b):AnsOk Q w' x d:=⟨h.e,h.n,h.lists.only on hq⟩
theorem zero_has {b:Nat} (h:AnsV.zero.has b):False:=by
 rcases h with⟨h,_⟩ | ⟨h,_⟩<;>exact absurd h (by decide)
inductive RunsTo (n:Nat) (B:Nat→Blk) (l:List TenE):List (Int×AskE)→(Nat→Blk)→List TenE→List AnsD→Prop
 | nil:RunsTo n B l [] B l []
 | miss (xs:List (Int×AskE)) (D:Nat→Blk) (m:List TenE) (ys:List AnsD) (i:Int) (a:AskE):RunsTo n B l xs D m ys→¬(0≤i∧i<(m.length:Int))→RunsTo n B l (xs++[(i,a)]) D m (ys++[⟨5,0,[],[]⟩])
 | step (xs:List (Int×AskE)) (D:Nat→Blk) (m:List TenE) (ys:List AnsD) (k:Nat) (a:AskE) (t:TenE) (D':Nat→Blk) (m':List TenE) (e1 N:Int):RunsTo n B l xs D m ys→m[k]? =some t→Bytes a.bytes→DoCase n D m k t a D' m' e1 N→RunsTo n B l (xs++[((k:Int),a)]) D' m' (ys++[⟨e1,N,ansS t a,ansB D t a⟩])
abbrev XR (X:Nat→Prop) (v:Nat→AnsV):Nat→Prop:=fun b=>X b∨∃ i,(v i).has b
structure RunI (H:Nat) (X:Nat→Prop) (W w:World) (ob rb n q:Nat) (B:Nat→Blk) (l:List TenE) (xs:List (Int×AskE)) (ta:Option Addr) (tn tc:Nat) (k g:Nat) (D:Nat→Blk) (L:List TenM) (v:Nat→AnsV) (ys:List AnsD):Prop where
 bel:Below H W w
 st:PSt H (XR X v) w ob g n D ta tn tc L
 ans:AnsAt w rb q v
 todo:∀ i,k≤i→v i=AnsV.zero
 ok:PoolOk n D (L.map TenM.e)
 runs:RunsTo n B l (xs.take k) D (L.map TenM.e) ys
 len:ys.length=k
 told:∀ i,i<k→AnsOk (fun b=>rb<b) w (v i) (ys.getD i AnsD.zero)
 xrb:X rb∧ob<rb∧H≤rb
theorem RunI.below {H:Nat} {X:Nat→Prop} {W w w':World} {ob rb n q:Nat} {B:Nat→Blk} {l:List TenE} {xs:List (Int×AskE)} {ta:Option Addr} {tn tc k g:Nat} {D:Nat→Blk} {L:List TenM} {v:Nat→AnsV} {ys:List AnsD} (h:RunI H X W w ob rb n q B l xs ta tn tc k g D L v ys) (b:Below w.heap.size w w'):RunI H X W w' ob rb n q B l xs ta tn tc k g D L v ys:=
 ⟨h.bel.trans (b.mono h.st.mine.sz),h.st.below b,h.ans.below b,h.todo,h.ok,h.runs,h.len,fun i hi=>(h.told i hi).below b,h.xrb⟩
theorem take_run {xs:List (Int×AskE)} {k:Nat} {x:Int×AskE} (h:xs[k]? =some x):xs.take (k+1)=xs.take k++[x]:=by
 obtain⟨h1,rfl⟩:=List.getElem?_eq_some_iff.1 h
 rw[List.take_add_one,List.getElem?_eq_getElem h1]
 rfl
theorem getD_push {ys:List AnsD} {k i:Nat} (d:AnsD) (hl:ys.length=k):(ys++[d]).getD i AnsD.zero=if i=k then d else ys.getD i AnsD.zero:=by
 subst hl
 by_cases e:i=ys.length
 ·subst e; simp[List.getD]
 ·rw[if_neg e]
  rcases Nat.lt_or_ge i ys.length with h | h
  ·simp[List.getD,List.getElem?_append_left h]
  ·have h1:(ys++[d])[i]? =none:=List.getElem?_eq_none (by simp; omega)
   have h2:ys[i]? =none:=List.getElem?_eq_none h
   simp[List.getD,h1,h2]
theorem RunI.miss {H:Nat} {X:Nat→Prop} {W w:World} {ob rb n q:Nat} {B:Nat→Blk} {l:List TenE} {xs:List (Int×AskE)} {ta:Option Addr} {tn tc k g:Nat} {D:Nat→Blk} {L:List TenM} {v:Nat→AnsV} {ys:List AnsD} {i:Int} {a:AskE} (h:RunI H X W w ob rb n q B l xs ta tn tc k g D L v ys) (hk:k<q) (hx:xs[k]? =some (i,a)) (hno:¬(0≤i∧i<(tn:Int))):RunI H X W (w.setCell ⟨rb,k*4,none⟩ (.int .i64 5)) ob rb n q B l xs ta tn tc (k+1) g D L (putV v k { v k with e:=5 }) (ys++[⟨5,0,[],[]⟩]):=by
 have kk:Kept rb w (w.setCell ⟨rb,k*4,none⟩ (.int .i64 5)):=Kept.setCell (g:=rb) (Kept.refl _ _) (p:=⟨rb,k*4,none⟩) rfl _
 have hlen:=h.st.mine.len
 have hz:=h.todo k (Nat.le_refl _)
 have hst:=(h.st.kept kk (.inl h.xrb.1) (by have:=h.xrb.2.1; omega)).clear (Y:=XR X (putV v k { v k with e:=5 })) (Below.refl _ _) (fun b y=>by
  rcases y with y | ⟨i,y⟩
  ·exact .inl (.inl y)
  ·by_cases e:i=k
   ·subst e
    rw[putV_self,hz] at y
    exact(zero_has y).elim
   ·rw[putV_ne v _ e] at y
    exact .inl (.inr ⟨i,y⟩)) (h.st.hx.imp id (fun⟨i,y⟩=>⟨i,by
  by_cases e:i=k
  ·subst e
   rw[hz] at y
   exact(zero_has y).elim
  ·rw[putV_ne v _ e]; exact y⟩))
 refine⟨h.bel.trans (kk.below h.xrb.2.2),hst,h.ans.putE hk 5,fun i hi=>?_,h.ok,?_,by rw[List.length_append,h.len]; rfl,fun i hi=>?_,h.xrb⟩
 ·rw[putV_ne v _ (by omega)]; exact h.todo i (by omega)
 ·rw[take_run hx]
  exact .miss _ _ _ _ _ _ h.runs (by rw[List.length_map,hlen]; exact hno)
 ·rw[getD_push _ h.len]
  by_cases e:i=k
  ·subst e
   rw[putV_self,if_pos rfl,hz]
   exact⟨rfl,rfl,ansIn_nil _ _⟩
  ·rw[putV_ne v _ e,if_neg e]
   exact(h.told i (by omega)).kept (fun b q=>by omega) kk
theorem RunI.step {H:Nat} {X:Nat→Prop} {W w w':World} {ob rb n q:Nat} {B:Nat→Blk} {l:List TenE} {xs:List (Int×AskE)} {tb tn tc k g g':Nat} {D D':Nat→Blk} {L L':List TenM} {v:Nat→AnsV} {ys:List AnsD} {i:Nat} {a:AskE} {m:TenM} {e1 N:Int} {ya:Option Addr} {yn yc:Nat} {y:Option Addr} {ln lc:Nat} (h:RunI H X W w ob rb n q B l xs (some ⟨tb,0,none⟩) tn tc k g D L v ys) (hk:k<q) (hx:xs[k]? =some ((i:Int),a)) (hm:L[i]? =some m) (hb:Bytes a.bytes)
 (bH:Below H w w') (on:Only (PM ob tb tn tc L) w w') (hP:PSt H (XR X v) w' ob g' n D' (some ⟨tb,0,none⟩) tn tc L') (hc:DoCase n D (L.map TenM.e) i m.e a D' (L'.map TenM.e) e1 N) (hA:AnsIn (fun b=>w.heap.size≤b) w' (ansS m.e a) (ansB D m.e a) ya yn yc y ln lc) (hf:(yn=0∧ln=0)∨PSt H (fun b=>XR X v b∨(w.heap.size≤b∧b<w'.heap.size)) w' ob g' n D' (some ⟨tb,0,none⟩) tn tc L'):
 RunI H X W (putR w' rb k e1 N ya yn yc y ln lc) ob rb n q B l xs (some ⟨tb,0,none⟩) tn tc (k+1) g' D' L' (putV v k ⟨e1,N,ya,yn,yc,y,ln,lc⟩) (ys++[⟨e1,N,ansS m.e a,ansB D m.e a⟩]):=by
 have kk:=kept_putR w' rb k e1 N ya yn yc y ln lc
 have hrl:=h.ans.lt
 have hmI:(L.map TenM.e)[i]? =some m.e:=by rw[List.getElem?_map,hm]; rfl
 have hI:=hc.is h.ok hmI hb
 have hz:=h.todo k (Nat.le_refl _)
 have hnm:¬PM ob tb tn tc L rb:=fun f=>by
  rcases f with f | f
  ·have:=h.xrb.2.1; omega
  ·exact h.st.mine.rx _ f (.inl h.xrb.1)
 have hAo:AnsOk (fun b=>w.heap.size≤b) w' ⟨e1,N,ya,yn,yc,y,ln,lc⟩ ⟨e1,N,ansS m.e a,ansB D m.e a⟩:=⟨rfl,rfl,hA⟩
 have hxo:XR X (putV v k ⟨e1,N,ya,yn,yc,y,ln,lc⟩) ob:=by
  rcases h.st.hx with x | ⟨j,x⟩
  ·exact .inl x
  ·refine .inr ⟨j,?_⟩
   by_cases e:j=k
   ·subst e
    rw[hz] at x
    exact(zero_has x).elim
   ·rw[putV_ne v _ e]; exact x
 have hst:PSt H (XR X (putV v k ⟨e1,N,ya,yn,yc,y,ln,lc⟩)) w' ob g' n D' (some ⟨tb,0,none⟩) tn tc L':=by
  rcases hf with⟨h1,h2⟩ | hf
  ·refine hP.clear (Below.refl _ _) (fun b x=>?_) hxo
   rcases x with x | ⟨j,x⟩
   ·exact .inl (.inl x)
   ·by_cases e:j=k
    ·subst e
     rw[putV_self] at x
     rcases x with⟨x,_⟩ | ⟨x,_⟩
     ·exact absurd x (by show ¬0<yn; omega)
     ·exact absurd x (by show ¬0<ln; omega)
    ·rw[putV_ne v _ e] at x
     exact .inl (.inr ⟨j,x⟩)
  ·refine hf.clear (Below.refl _ _) (fun b x=>?_) hxo
   rcases x with x | ⟨j,x⟩
   ·exact .inl (.inl (.inl x))
   ·by_cases e:j=k
    ·subst e
     rw[putV_self] at x
     have:=hAo.where x
     exact .inl (.inr this)
    ·rw[putV_ne v _ e] at x
     exact .inl (.inl (.inr ⟨j,x⟩))
 refine⟨(h.bel.trans bH).trans (kk.below h.xrb.2.2),hst.kept kk (.inl h.xrb.1) (by have:=h.xrb.2.1; omega),(h.ans.only on hnm).put hk _ _ _ _ _ _ _ _,fun j hj=>?_,hI.ok,?_,by rw[List.length_append,h.len]; rfl,fun j hj=>?_,h.xrb⟩
 ·rw[putV_ne v _ (by omega)]; exact h.todo j (by omega)
 ·rw[take_run hx]
  exact .step _ _ _ _ _ _ _ _ _ _ _ h.runs hmI hb hc
 ·rw[getD_push _ h.len]
  by_cases e:j=k
  ·subst e
   rw[putV_self,if_pos rfl]
   exact(hAo.weaken (fun b _ q=>by omega)).kept (fun b q=>by omega) kk
  ·rw[putV_ne v _ e,if_neg e]
   refine(((h.told j (by omega)).self.only on (fun b q f=>?_)).weaken (fun b _ q=>q.1)).kept (fun b q=>by omega) kk
   rcases f with f | f
   ·have:=h.xrb.2.1; have:=q.1; omega
   ·exact h.st.mine.rx _ f (.inr ⟨j,q.2⟩)
theorem Tryz.infoAns:(Tryz.prog.info? 41).map (fun i=>(i.zero,i.size,i.bytes))=some (some (.agg #[.int .i64 0,.int .i64 0,.slice none 0 0,.slice none 0 0]),4,64):=by kernel_rfl
theorem make_ans (n:Nat) (hn:n≤60) (w:World):∃ cs:Array Value,(Instr.makeSlice 32 (.int .i64 n) (.int .i64 n)).run Tryz.prog w=.ok (.slice (some ⟨w.heap.size,0,none⟩) n n) (w.alloc (.cells cs 41))∧AnsAt (w.alloc (.cells cs 41)) w.heap.size n (fun _=>AnsV.zero):=by
 obtain⟨i0,hi,hz0,hz1,hz2⟩:=info_parts Tryz.infoAns
 refine⟨madeCells (Value.agg #[.int .i64 0,.int .i64 0,.slice none 0 0,.slice none 0 0]).cells (n*4),?_,?_⟩
 ·rw[run_makeSlice (P:=Tryz.prog) w 32 41 i0 _ Tryz.underlying32 hi hz0 .i64 .i64 n n (by omega) (by omega) (by rw[hz1]; omega) (by rw[hz2]; omega) (by omega),hz1]
  simp
 ·refine⟨_,cellsAt_alloc w _ _,by simp[madeCells],fun i hi=>?_⟩
  have h:=fun k hk=>made_blks n i k hi hk
  have h0:=h 0 (by omega)
  have h1:=h 1 (by omega)
  have h2:=h 2 (by omega)
  have h3:=h 3 (by omega)
  simp only[Array.getElem?_toList] at h0 h1 h2 h3
  exact⟨h0,h1,h2,h3⟩
end Go.Proofs.YtjafgnohlkkopaaGreatDoor

namespace Go.Proofs.YtjafgnohlkkopaaGreatDoor
open Go.RowKit
def RetRun (e:Ending) (w:World) (n:Nat) (B:Nat→Blk) (tn:Nat) (l:List TenE) (q:Nat) (xs:List (Int×AskE)):Prop:=
 ∃ (g:Nat) (ta:Option Addr) (tc rb:Nat) (D:Nat→Blk) (l':List TenE) (v:Nat→AnsV) (ys:List AnsD),e=.returned (.tuple #[.agg #[.slice (some ⟨g,0,none⟩) n n,.slice ta tn tc],.slice (some ⟨rb,0,none⟩) q q,.int .i64 0])∧PoolAt (fun _=>True) w (some ⟨g,0,none⟩) n D ta tn l'∧AnsAt w rb q v∧PoolOk n D l'∧RunsTo n B l xs D l' ys∧ys.length=q∧∀ i,i<q→AnsOk (fun _=>True) w (v i) (ys.getD i AnsD.zero)
theorem zip_at {w:World} {wa qa:Option Addr} {q:Nat} {who:List Int} {ql:List AskE} (hw:NumsAt (fun _=>True) .i64 w wa q who) (hq:AsksAt w qa q ql) {k:Nat} (hk:k<q):(who.zip ql)[k]? =some (who.getD k 0,ql.getD k AskE.zero):=by
 have h1:k<who.length:=by rw[hw.1]; exact hk
 have h2:k<ql.length:=by rw[hq.1]; exact hk
 rw[List.getElem?_zip_eq_some]
 refine⟨?_,?_⟩
 ·show who[k]? =some (who.getD k 0)
  rw[List.getD_eq_getElem?_getD,List.getElem?_eq_getElem h1]; rfl
 ·show ql[k]? =some (ql.getD k AskE.zero)
  rw[List.getD_eq_getElem?_getD,List.getElem?_eq_getElem h2]; rfl
set_option maxHeartbeats 8000000 in
set_option maxRecDepth 100000 in
theorem prun_any (Q:Nat→Prop) (pa:Option Addr) (n c:Nat) (B:Nat→Blk) (ta:Option Addr) (tn tc:Nat) (l:List TenE) (wa:Option Addr) (wc:Nat) (who:List Int) (qa:Option Addr) (q qc:Nat) (ql:List AskE) (w:World) (hP:PoolAt Q w pa n B ta tn l) (hok:PoolOk n B l) (hwho:NumsAt (fun _=>True) .i64 w wa q who) (hq:AsksAt w qa q ql) (h60:q≤60):
 Calls Tryz.prog 8 #[.agg #[.slice pa n c,.slice ta tn tc],.slice wa q wc,.slice qa q qc] w fun e w'=>RetRun e w' n B tn l q (who.zip ql)∧Below w.heap.size w w':=by
 have b0:=below_two w (.cells #[.slice pa n c,.slice ta tn tc] 27) (.cells #[.slice none 0 0,.slice none 0 0] 27)
 have k0:CellsAt _ w.heap.size #[.slice pa n c,.slice ta tn tc] 27:=(cellsAt_alloc w _ _).below (below_alloc _ (.cells #[.slice none 0 0,.slice none 0 0] 27))
 have k1:=cellsAt_alloc2 w (.cells #[.slice pa n c,.slice ta tn tc] 27) #[.slice none 0 0,.slice none 0 0] 27
 have hPK:Hid (PoolAt (fun b=>b<w.heap.size) w pa n B ta tn l):=hid ⟨hP.store,hP.tens.weaken (fun b hb _=>hb)⟩
 have hP0:=hid (hP.below b0)
 replace b0:=hid b0
 replace k0:=hid k0
 replace k1:=hid k1
 replace hok:=hid hok
 replace hwho:=hid hwho
 replace hq:=hid hq
 have h60':decide ((60:Int)<(q:Int))=false:=by simp; omega
 replace h60:=hid h60
 clear hP
 go_enter Tryz.func8,Tryz.ntmps8
 go_upto_region 1 with fail
 generalize (w.alloc (.cells #[.slice pa n c,.slice ta tn tc] 27)).alloc (.cells #[.slice none 0 0,.slice none 0 0] 27)=w0 at *
 have p0:=k0.out.cell 0
 have p1:=k0.out.cell 1
 simp at p0 p1
 go_wp2_with fail
 refine(poolCheck_any Q pa n c B ta tn tc l w0 hP0.out).mono ?_
 rintro e w1 ⟨⟨e1,rfl,he1⟩,b1⟩
 obtain rfl:e1=0:=he1.2 hok.out
 replace b0:=hid (Below.tr b0.out b1)
 replace k0:=hid (k0.out.below b1)
 replace k1:=hid (k1.out.below b1)
 clear b1 p0 p1 hP0 he1
 have p0:=k0.out.cell 0
 have p1:=k0.out.cell 1
 simp at p0 p1
 go_wp2_with fail
 refine(copyPool_any w.heap.size pa n c B ta tn tc l w1 b0.out.size (hPK.out.below b0.out) hok.out).mono ?_
 rintro e w3 ⟨⟨g,ta', tc', L,rfl,hg,hO,hM,hL,hr⟩,b3⟩
 have hPS:=hid (pst_copy hg hO hM hr)
 replace hL:=hid hL
 replace b3:=hid b3
 clear p0 p1 hg hO hM hr
 go_upto_region 9 with fail
 have hz7:Hid ((w3.alloc (.cells #[.slice (some ⟨g,0,none⟩) n n,.slice ta' tn tc'] 27)).heap.size=w3.heap.size+1):=hid (by simp)
 have hB7:=hid (below_alloc w3 (.cells #[.slice (some ⟨g,0,none⟩) n n,.slice ta' tn tc'] 27))
 generalize w3.alloc (.cells #[.slice (some ⟨g,0,none⟩) n n,.slice ta' tn tc'] 27)=w7 at *
 obtain⟨cs,hmk,hA⟩:=make_ans q h60.out w7
 replace hA:=hid hA
 go_wp2_with fail
 have hI:Hid (RunI w1.heap.size (fun b=>((w.heap.size≤b∧b<w1.heap.size)∨b=w3.heap.size)∨b=w7.heap.size) w1 (w7.alloc (.cells cs 41)) w3.heap.size w7.heap.size n q B l (who.zip ql) ta' tn tc' 0 g B L (fun _=>AnsV.zero) []):=hid (by
  have bA:=below_alloc w7 (.cells cs 41)
  have z7:=hz7.out
  have l3:=b3.out.size
  refine⟨(b3.out.trans (hB7.out.mono l3)).trans (bA.mono (by omega)),hPS.out.clear bA (fun b y=>by
   rcases y with y | ⟨i,y⟩
   ·exact y.elim .inl (fun y=>.inr ⟨by omega,by rw[szB]; omega⟩)
   ·exact(zero_has y).elim) (.inl (.inl (.inr rfl))),hA.out,fun _ _=>rfl,by rw[hL.out]; exact hok.out,?_,rfl,fun i hi=>absurd hi (by omega),.inr rfl,by omega,by omega⟩
  rw[hL.out]
  exact .nil)
 have hn37:Hid (w3.heap.size≠w7.heap.size):=hid (by have:=hz7.out; omega)
 clear hPS hA hL hmk
 generalize w7.alloc (.cells cs 41)=w8 at *
 go_loopw [37] (fun u wr=>∃ (k g:Nat) (D:Nat→Blk) (L:List TenM) (v:Nat→AnsV) (ys:List AnsD),k≤q∧u=.int .i64 k∧RunI w1.heap.size (fun b=>((w.heap.size≤b∧b<w1.heap.size)∨b=w3.heap.size)∨b=w7.heap.size) w1 wr w3.heap.size w7.heap.size n q B l (who.zip ql) ta' tn tc' k g D L v ys) (fun u _=>q-(Go.RowKit.intOf u).toNat)
 case atStart=>exact⟨0,g,B,L,_,_,Nat.zero_le _,rfl,hI.out⟩
 case round=>
  clear hI
  obtain⟨k,g,D,L,v,ys,hk,rfl,hI⟩:=hrel
  by_cases hlt:k<q
  ·have hbw:Hid (Below w.heap.size w wr):=hid (b0.out.trans (hI.bel.mono b0.out.size))
   have hx:=hid (zip_at hwho.out hq.out hlt)
   obtain⟨qb,qo,rfl,hqb,hqc⟩:=(hq.out.below hbw.out).2 (by omega)
   obtain⟨wb,wo,rfl,hwb,_,hwc⟩:=(hwho.out).2.2 (by omega)
   obtain⟨ba,bn,bc,hAsk⟩:=hqc k hlt
   have c0:=hAsk.c0
   have c1:=hAsk.c1
   have c2:=hAsk.c2
   have c3:=hAsk.c3
   have c4:=hAsk.c4
   have c5:=hAsk.c5
   have c6:=hAsk.c6
   have u0:=(hbw.out.cell (p:=⟨wb,wo+k,none⟩) hwb).trans (hwc k hlt)
   have hao:=hAsk.ok
   have hNb:=hid hAsk.bytes
   have hib:=hid (hwho.out.bd (hwho.out.getD hlt))
   clear hAsk hqc hwc
   generalize ql.getD k AskE.zero=a at *
   generalize who.getD k 0=i at *
   have b5:=hid (below_alloc wr (.cells #[.int .i64 a.kind,.string a.set,.string a.file,.string a.to,.int .i64 a.pos,.int .i64 a.num,.slice ba bn bc] 30))
   have k5:Hid (CellsAt _ wr.heap.size #[.int .i64 a.kind,.string a.set,.string a.file,.string a.to,.int .i64 a.pos,.int .i64 a.num,.slice ba bn bc] 30):=hid (cellsAt_alloc wr _ _)
   have g5:∀ o,(wr.alloc o).cell? ⟨wb,wo+k,none⟩=wr.cell? ⟨wb,wo+k,none⟩:=fun o=>World.cell?_alloc_past _ _ _ (Nat.lt_of_lt_of_le hwb hbw.out.size)
   have hk0:(0:Int)≤(k:Int):=by omega
   have hkI:(k:Int)<(q:Int):=by omega
   replace hI:=hid hI
   have hw64:Hid (wrap64 ((k:Int)+1)=(k:Int)+1):=hid (by have:=h60.out; unfold wrap64; omega)
   replace hlt:=hid hlt
   replace hqb:=hid hqb
   replace hwb:=hid hwb
   go_upto_region 13 with fail
   have hI5:=hid (hI.out.below b5.out)
   have hN5:=hid (hNb.out.below b5.out)
   clear c0 c1 c2 c3 c4 c5 c6
   rw[←g5 (.cells #[.int .i64 a.kind,.string a.set,.string a.file,.string a.to,.int .i64 a.pos,.int .i64 a.num,.slice ba bn bc] 30)] at u0
   have n5:Hid (wr.heap.size<(wr.alloc (.cells #[.int .i64 a.kind,.string a.set,.string a.file,.string a.to,.int .i64 a.pos,.int .i64 a.num,.slice ba bn bc] 30)).heap.size):=hid (by rw[szB]; omega)
   clear g5 hNb
   generalize wr.alloc (.cells #[.int .i64 a.kind,.string a.set,.string a.file,.string a.to,.int .i64 a.pos,.int .i64 a.num,.slice ba bn bc] 30)=w5 at *
   have o0:=hI5.out.st.box.cell 0
   have o1:=hI5.out.st.box.cell 1
   simp only[List.getElem?_toArray,List.getElem?_cons_zero,List.getElem?_cons_succ] at o0 o1
   have lo:=hid hI5.out.st.box.lt
   have Lw5:Hid (wb<w5.heap.size):=hid (Nat.lt_of_lt_of_le hwb.out (Nat.le_trans hbw.out.size b5.out.size))
   go_region_held3 (fun w'=>w'.cell? ⟨w3.heap.size,0,none⟩=some (.slice (some ⟨g,0,none⟩) n n)∧w'.cell? ⟨w3.heap.size,1,none⟩=some (.slice ta' tn tc')∧w'.cell? ⟨wb,wo+k,none⟩=some (.int .i64 i)) (first | go_keep | assumption) (first | (go_at_call 19; refine Calls.mono (pthere_any (some ⟨g,0,none⟩) n n ta' tn tc' i _) ?_; rintro e w6 ⟨⟨bb,rfl,hbb⟩,b6⟩; replace b6:Below w5.heap.size w5 w6:=(below_drew _ _).trans b6; have s0:=(b6.cell (p:=⟨w3.heap.size,0,none⟩) lo.out).trans o0; have s1:=(b6.cell (p:=⟨w3.heap.size,1,none⟩) lo.out).trans o1; have s2:=(b6.cell (p:=⟨wb,wo+k,none⟩) Lw5.out).trans u0; replace b6:=hid b6; replace hbb:=hid hbb))
   have hI6:=hid (hI5.out.below b6.out)
   have hN6:=hid (hN5.out.below b6.out)
   have kA6:=hid (k5.out.below b6.out)
   have n6:=hid (Nat.lt_of_lt_of_le n5.out b6.out.size)
   clear u0 o0 o1 s0 s1 hI5 hN5 k5 n5 lo
   have u0:=s2
   clear s2
   obtain⟨v0,v1,v2,v3⟩:=hI6.out.ans.cells hlt.out
   have f0:=hI6.out.ans.free (k*4)
   cases bb
   case false=>
    have hno:Hid (¬(0≤i∧i<(tn:Int))):=hid (by simpa using hbb.out)
    clear hbb v1 v2 v3
    go_wp2_with fail
    go_roundw
    case rel=>exact⟨k+1,g,D,L,_,_,hlt.out,by rw[hw64.out]; push_cast; rfl,hI6.out.miss hlt.out hx.out hno.out⟩
    case measure=>have:=hlt.out; rw[hw64.out]; simp[Go.RowKit.intOf]; omega
   have hyes:0≤i∧i<(tn:Int):=by simpa using hbb.out
   obtain⟨j,rfl⟩:∃ j:Nat,i=(j:Int):=⟨i.toNat,by omega⟩
   obtain⟨tb,rfl⟩:=row_tb hI6.out.st.mine (by omega)
   obtain⟨m,hm⟩:∃ m,L[j]? =some m:=by
    have hlen:=hI6.out.st.mine.len
    exact⟨_,List.getElem?_eq_getElem (by omega)⟩
   replace hm:=hid hm
   have hj0:(0:Int)≤(j:Int):=hyes.1
   have hjI:(j:Int)<(tn:Int):=hyes.2
   clear hyes hbb v0 v1 v2 v3 f0
   have o1:=hI6.out.st.box.cell 1
   have a0:=kA6.out.cell 0
   have a1:=kA6.out.cell 1
   have a2:=kA6.out.cell 2
   have a3:=kA6.out.cell 3
   have a4:=kA6.out.cell 4
   have a5:=kA6.out.cell 5
   have a6:=kA6.out.cell 6
   simp only[List.getElem?_toArray,List.getElem?_cons_zero,List.getElem?_cons_succ] at o1 a0 a1 a2 a3 a4 a5 a6
   obtain⟨XX,hXX⟩:∃ XX,XX=XR (fun b=>((w.heap.size≤b∧b<w1.heap.size)∨b=w3.heap.size)∨b=w7.heap.size) v:=⟨_,rfl⟩
   have HP6:=hid (hI6.out.st.below (below_drew _ _))
   rw[←hXX] at HP6
   replace hXX:=hid hXX
   have HN6:=hid (hN6.out.below (below_drew _ _))
   have hok6:=hid hI6.out.ok
   have hRge:=hid hI6.out.xrb.2.2
   have hobr:Hid (w3.heap.size<wr.heap.size):=hid hI.out.st.box.lt
   have HnR:Hid (¬PM w3.heap.size tb tn tc' L w7.heap.size):=hid (fun f=>by
    rcases f with f | f
    ·have:=hI6.out.xrb.2.1; omega
    ·exact hI6.out.st.mine.rx _ f (.inl hI6.out.xrb.1))
   have HnA:Hid (¬PM w3.heap.size tb tn tc' L wr.heap.size):=hid (fun f=>by
    rcases f with f | f
    ·have:=hobr.out; omega
    ·have:=(hI.out.st.mine.ge f).2; omega)
   have Lw:Hid (wb<w1.heap.size):=hid (Nat.lt_of_lt_of_le hwb.out b0.out.size)
   have nr3:=hn37.out
   have nr3':=nr3.symm
   have nrA:wr.heap.size≠w7.heap.size:=by have:=hI.out.ans.lt; omega
   have nrA':=nrA.symm
   have nrW:wb≠w7.heap.size:=by have:=Lw.out; have:=hRge.out; omega
   have nrW':=nrW.symm
   go_upto_region 15 with fail
   go_region_held3 (fun w'=>w'.cell? ⟨w3.heap.size,1,none⟩=some (.slice (some ⟨tb,0,none⟩) tn tc')∧w'.cell? ⟨wb,wo+k,none⟩=some (.int .i64 (j:Int))∧w'.cell? ⟨wr.heap.size,0,none⟩=some (.int .i64 a.kind)∧w'.cell? ⟨wr.heap.size,1,none⟩=some (.string a.set)∧w'.cell? ⟨wr.heap.size,2,none⟩=some (.string a.file)∧w'.cell? ⟨wr.heap.size,3,none⟩=some (.string a.to)∧w'.cell? ⟨wr.heap.size,4,none⟩=some (.int .i64 a.pos)∧w'.cell? ⟨wr.heap.size,5,none⟩=some (.int .i64 a.num)∧w'.cell? ⟨wr.heap.size,6,none⟩=some (.slice ba bn bc)) (first | go_keep | assumption) (first | (go_at_call 20; with_reducible refine Calls.mono (poolDo_any w1.heap.size XX w3.heap.size g n D tb tn tc' L j m a ba bn bc (w6.drew) HP6.out hm.out hok6.out hao HN6.out) ?_; rintro e w9 hret; unfold RetPDo at hret; obtain⟨e1,N,ya,yn,yc,y,ln,lc,g', D', L', rfl,bH,on,hP8,hc,hrd,hrf⟩:=hret; replace bH:Below w1.heap.size w6 w9:=(below_drew _ _).trans bH; replace on:Only (PM w3.heap.size tb tn tc' L) w6 w9:=(Only.of_below (below_drew _ _)).trans on; have o1:=hP8.box.cell 1; have kA8:=on.cells kA6.out HnA.out; have s0:=kA8.cell 0; have s1:=kA8.cell 1; have s2:=kA8.cell 2; have s3:=kA8.cell 3; have s4:=kA8.cell 4; have s5:=kA8.cell 5; have s6:=kA8.cell 6; simp only[List.getElem?_toArray,List.getElem?_cons_zero,List.getElem?_cons_succ] at o1 s0 s1 s2 s3 s4 s5 s6; have u9:=(bH.cell (p:=⟨wb,wo+k,none⟩) Lw.out).trans u0; have hans:=hI6.out.ans.only on HnR.out; obtain⟨v0,v1,v2,v3⟩:=hans.cells hlt.out; have f0:=hans.free (k*4); have f1:=hans.free (k*4+1); have f2:=hans.free (k*4+2); have f3:=hans.free (k*4+3); clear hans kA8; replace bH:=hid bH; replace on:=hid on; replace hP8:=hid hP8; replace hc:=hid hc; replace hrd:=hid hrd; replace hrf:=hid hrf))
   have hfin:=hid (hI6.out.step hlt.out hx.out hm.out hN6.out.bytes bH.out on.out (by have:=hP8.out; rw[hXX.out] at this; exact this) hc.out hrd.out (by have:=hrf.out; rw[hXX.out] at this; exact this))
   clear o1 a0 a1 a2 a3 a4 a5 a6 s0 s1 s2 s3 s4 s5 s6 v0 v1 v2 v3 f0 f1 f2 f3
   go_wp2_with fail
   go_roundw
   case rel=>exact⟨k+1,g', D', L', _,_,hlt.out,by rw[hw64.out]; push_cast; rfl,hfin.out⟩
   case measure=>have:=hlt.out; rw[hw64.out]; simp[Go.RowKit.intOf]; omega
  ·obtain rfl:k=q:=by omega
   have k1r:=hid (k1.out.below hI.bel)
   have r0:=k1r.out.cell 0
   have r1:=k1r.out.cell 1
   have z0:=k1r.out.frozen 0
   have z1:=k1r.out.frozen 1
   have o0:=hI.st.box.cell 0
   have o1:=hI.st.box.cell 1
   simp only[List.getElem?_toArray,List.getElem?_cons_zero,List.getElem?_cons_succ] at r0 r1 o0 o1
   have l1:w.heap.size+1<w1.heap.size:=k1.out.lt
   have hge:=hI.xrb.2.2
   have n1:w.heap.size+1≠w3.heap.size:=by have:=hI.st.hob; omega
   have n1':=n1.symm
   have hfin:RetRun (.returned (.tuple #[.agg #[.slice (some ⟨g,0,none⟩) n n,.slice ta' tn tc'],.slice (some ⟨w7.heap.size,0,none⟩) k k,.int .i64 0])) (put2p wr (w.heap.size+1) (.slice (some ⟨g,0,none⟩) n n) (.slice ta' tn tc')) n B tn l k (who.zip ql)∧Below w.heap.size w (put2p wr (w.heap.size+1) (.slice (some ⟨g,0,none⟩) n n) (.slice ta' tn tc')):=by
    have kk:=kept_put2p wr (w.heap.size+1) (.slice (some ⟨g,0,none⟩) n n) (.slice ta' tn tc')
    have hzl:(who.zip ql).take k=who.zip ql:=List.take_of_length_le (by rw[List.length_zip,hwho.out.1,hq.out.1]; omega)
    have hrun:=hI.runs
    rw[hzl] at hrun
    exact⟨⟨g,ta', tc', w7.heap.size,D,L.map TenM.e,v,ys,rfl,(hI.st.kept kk (.inl (.inl (.inl ⟨by omega,l1⟩))) n1).pool,hI.ans.only (Only.of_kept (M:=fun b=>b=w.heap.size+1) kk rfl) (by omega),hI.ok,hrun,hI.len,fun i hi=>((hI.told i hi).kept (fun b q=>by omega) kk).weaken (fun _ _ _=>trivial)⟩,(b0.out.trans (hI.bel.mono b0.out.size)).trans (kk.below (by omega))⟩
   replace hfin:=hid hfin
   replace hI:=hid hI
   replace hge:=hid hge
   replace l1:=hid l1
   clear hn37
   go_wp2_with fail
   refine bodyPost_ret (v:=.tuple #[.agg #[.slice (some ⟨g,0,none⟩) n n,.slice ta' tn tc'],.slice (some ⟨w7.heap.size,0,none⟩) k k,.int .i64 0]) (by rw[results_cell_tmps rfl]; go_simp) rfl ?_
   exact hfin.out
end Go.Proofs.YtjafgnohlkkopaaGreatDoor

namespace Go.Proofs.YtjafgnohlkkopaaGreatDoor
open Go.RowKit
theorem sub_len:∀ (M L:List Int),M.Nodup→(∀ x∈M,x∈L)→M.length≤L.length
 | [],_,_,_=>Nat.zero_le _
 | a::M,L,hn,h=>by
   have ha:=h a (by simp)
   have hn':=List.nodup_cons.1 hn
   have h1:=sub_len M (L.erase a) hn'.2 (fun x hx=>(List.mem_erase_of_ne (fun (e:x=a)=>hn'.1 (e▸hx))).2 (h x (by simp[hx])))
   rw[List.length_erase_of_mem ha] at h1
   have h2:=List.length_pos_of_mem ha
   simp only[List.length_cons]
   omega
def usedL (D:Nat→Blk):Nat→List Int
 | 0=>[]
 | k+1=>if 0<(D k).refs then ((k:Int)+1)::usedL D k else usedL D k
theorem usedL_len (D:Nat→Blk):∀ n,(usedL D n).length=usedTo D n
 | 0=>rfl
 | n+1=>by
   have h1:=usedL_len D n
   rw[usedTo_succ,←h1]
   rw[usedL]
   split<;>simp
theorem mem_usedL (D:Nat→Blk):∀ (n k:Nat),k<n→0<(D k).refs→((k:Int)+1)∈usedL D n
 | 0,k,h,_=>absurd h (by omega)
 | n+1,k,h,h0=>by
   unfold usedL
   by_cases e:k=n
   ·subst e
    rw[if_pos h0]
    simp
   ·have:=mem_usedL D n k (by omega) h0
    split
    ·exact List.mem_cons_of_mem _ this
    ·exact this
theorem there_pos {n:Nat} {D:Nat→Blk} (hR:Right n D) {x:Int} (h:There n D x):∃ k:Nat,k<n∧x=(k:Int)+1∧0<(D k).refs:=by
 obtain⟨h1,h2,h3⟩:=h
 refine⟨(x-1).toNat,by omega,by omega,?_⟩
 have:=hR.held (x-1).toNat (by omega)
 omega
theorem uses_most {n:Nat} {D:Nat→Blk} {R:List Int} {q:Int} (hR:Right n D) (hr:RootsOk n D R) (h:Uses D R q):q≤(usedTo D n:Int):=by
 obtain⟨L,l1,l2,rfl⟩:=h
 have hn:L.Nodup:=l1.imp (fun h=>by omega)
 have:=sub_len L (usedL D n) hn (fun x hx=>by
  obtain⟨k,h1,rfl,h2⟩:=there_pos hR (Clo.there hR hr ((l2 x).1 hx))
  exact mem_usedL D n k h1 h2)
 rw[usedL_len] at this
 omega
theorem usedTo_mono {C D:Nat→Blk}:∀ {n:Nat},(∀ i,i<n→0<(D i).refs→0<(C i).refs)→usedTo D n≤usedTo C n
 | 0,_=>Nat.le_refl _
 | n+1,h=>by
   have h1:=usedTo_mono (n:=n) (fun i hi=>h i (by omega))
   have h2:=h n (by omega)
   rw[usedTo_succ,usedTo_succ]
   split<;>split<;>first | omega | (rename_i f g; exact absurd (h2 f) g)
theorem usedTo_zero:∀ n,usedTo (fun _=>Blk.zero) n=0
 | 0=>rfl
 | n+1=>by rw[usedTo_succ,usedTo_zero n]; rfl
theorem did_wrote {n:Nat} {B D:Nat→Blk} {key:Int} {x y:SetE} {a:AskE} {cc:Int} (hx:SetOk n B key x) (hh:HeldR n B (rootsX x)) (hb:Bytes a.bytes) (hc:∀ k,k<n→(B k).refs≤cc) (hcc:cc+moreOf a+24≤1000000) (h:Did n B key x a cc D y) (hk:a.kind=3):
 ∃ (root size made:Int) (C:Nat→Blk),Turning x a.file root size made ((overN key B a root size).length:Int) y∧TurnAt n B C key root (fileL key (leafAt B 3 root)) (padTo (overN key B a root size)) 64 made cc∧Right n D∧usedTo D n≤usedTo C n∧(∀ e∈entsX y,fileL key (leafAt D 3 e.root)=fileL key (leafAt C 3 e.root))∧SetOk n D key y∧fileL key (leafAt C 3 made)=padTo (overN key B a root size):=by
 obtain⟨C,made,hY,hD,hF⟩:=h
 have hch:=hY.chg hx hb hc
 have hdone:=hch.done hx hh hcc hD hF
 rcases hY with⟨_,hn,ho,root,size,hok,hT,ht⟩ | ⟨f,_⟩ | ⟨f,_,_⟩
 ·have hN:=over_bytes (key:=key) (B:=B) hb ho root size
  refine⟨root,size,made,C,ht,hT,hD,usedTo_mono (fun i hi h0=>?_),hdone.2.1,hdone.1.ok,(hT.file hok hN.1 hN.2).2.1⟩
  rcases hF.same i hi with f | ⟨r1,r2,_⟩
  ·rw[f] at h0; exact absurd h0 (by simp[Blk.zero])
  ·rw[moreB_refs] at r2
   have hge:=hT.turned.right.held i hi
   by_cases e:0<(C i).refs
   ·exact e
   ·have hpos:0<(rootsX y).count ((i:Int)+1):=by omega
    rcases hch.there _ (List.count_pos_iff.1 hpos) with g | g
    ·omega
    ·have:=g.2.2
     have e':((i:Int)+1-1).toNat=i:=by omega
     rw[e'] at this
     omega
 ·omega
 ·rcases f with⟨f,_⟩ | ⟨f,_⟩ | ⟨f,_⟩ | ⟨f,_⟩ | ⟨f,_⟩<;>omega
end Go.Proofs.YtjafgnohlkkopaaGreatDoor

namespace Go.Proofs.YtjafgnohlkkopaaGreatDoor
open Go.RowKit
def nA:ByteArray:=⟨#[97]⟩
def nF:ByteArray:=⟨#[102]⟩
def ask1:AskE:=⟨1,nA,⟨#[]⟩,⟨#[]⟩,0,0,[]⟩
def askWr (bs:List Int):AskE:=⟨3,nA,nF,⟨#[]⟩,0,0,bs⟩
def B0:Nat→Blk:=fun _=>Blk.zero
theorem isName_A:IsName nA:=by
 refine⟨by decide,by decide,fun c hc=>?_⟩
 have:c=97:=by simpa [nA] using hc
 subst this
 exact .inl (by decide)
theorem isName_F:IsName nF:=by
 refine⟨by decide,by decide,fun c hc=>?_⟩
 have:c=102:=by simpa [nF] using hc
 subst this
 exact .inl (by decide)
theorem usedB0:usedTo B0 110=0:=by
 unfold B0
 exact usedTo_zero 110
theorem leafAt_B0 (i:Nat):leafAt B0 3 0 i=[]:=by
 have z:∀ j,([0,0,0,0]:List Int).getD j 0=0:=fun j=>by
  match j with
  | 0=>rfl
  | 1=>rfl
  | 2=>rfl
  | 3=>rfl
  | j+4=>simp
 simp only[leafAt,kidsL_zero,z]
 simp[bytesL]
theorem leafAt_B0':leafAt B0 3 0=fun _=>[]:=funext leafAt_B0
structure Small (bs:List Int):Prop where
 bytes:Bytes bs
 le:bs.length≤256
 over:overN 1 B0 (askWr bs) 0 0=bs
 one:chg (fileL 1 (leafAt B0 3 0)) (padTo bs) 64=1
abbrev x0:SetE:=⟨nA,[],[]⟩
abbrev x1 (r s:Int):SetE:=⟨nA,[⟨nF,r,s⟩],[]⟩
abbrev l0 (q:Int):List TenE:=[⟨1,q,[]⟩,⟨2,10,[]⟩]
abbrev l1 (q:Int):List TenE:=[⟨1,q,[x0]⟩,⟨2,10,[]⟩]
abbrev l2 (q r s:Int):List TenE:=[⟨1,q,[x1 r s]⟩,⟨2,10,[]⟩]
theorem st1 {D:Nat→Blk} {m:List TenE} {e N q:Int} (h:DoCase 110 B0 (l0 q) 0 ⟨1,q,[]⟩ ask1 D m e N):e=0∧D=B0∧m=l1 q:=by
 have hk:ask1.kind=1:=rfl
 cases h with
 | noadd _ _ _ h3=>
   rcases h3 with⟨_,f⟩ | ⟨_,_,x,hx,_⟩ | ⟨_,_,_,f⟩
   ·exact absurd isName_A f
   ·cases hx
   ·cases f
 | add p h1 h2 h3 h4=>
   refine⟨rfl,rfl,?_⟩
   simp[ask1]
 | uses _ h1=>rw[hk] at h1; omega
 | missing h1=>exact absurd hk h1
 | look _ _ _ _ _ _ h1=>rw[hk] at h1; omega
 | destroy _ _ _ _ _ h1=>rw[hk] at h1; omega
 | noclone _ _ _ _ _ h1=>rw[hk] at h1; omega
 | clone _ _ _ _ _ _ _ h1=>rw[hk] at h1; omega
 | nochange _ _ _ _ _ h1=>exact absurd hk h1.1
 | change _ _ _ _ _ _ _ h1=>exact absurd hk h1.1
theorem one_get {α:Type} {x y:α} {k:Nat} (h:[x][k]? =some y):k=0∧y=x:=by
 match k with
 | 0=>simp at h; exact⟨rfl,h.symm⟩
 | k+1=>simp at h
theorem roots_one {n:Nat} {D:Nat→Blk} {key:Int} {y:SetE} (h:SetOk n D key y):RootsOk n D (rootsL [y]):=fun r hr=>by
 have:r∈rootsX y:=by simpa [rootsL] using hr
 exact h.thereX r this
theorem wrote2 {D:Nat→Blk} {y:SetE} {q:Int} {bs:List Int} (S:Small bs) (hok:PoolOk 110 B0 (l1 q)) (h:Did 110 B0 1 x0 (askWr bs) 2000 D y):Right 110 D∧SetOk 110 D 1 y∧usedTo D 110≤4∧∃ r,y=x1 r bs.length∧fileL 1 (leafAt D 3 r)=padTo bs:=by
 have hx:SetOk 110 B0 1 x0:=(hok.heldX (i:=0) (t:=⟨1,q,[x0]⟩) (x:=x0) rfl (by simp)).1
 have hh:=(hok.heldX (i:=0) (t:=⟨1,q,[x0]⟩) (x:=x0) rfl (by simp)).2.1
 obtain⟨root,size,made,C,⟨p,ht⟩,hT,hD,hu,hf,hy,hm⟩:=did_wrote hx hh S.bytes hok.refs (more_le (askWr bs)) h rfl
 rcases ht with⟨hp,_⟩ | ⟨_,rfl,rfl,_,_,_,ey⟩
 ·exact absurd hp (by simp)
 have hT':=hT.used
 rw[S.over] at hT' ey hm
 rw[S.one,usedB0] at hT'
 have ey':y=x1 made bs.length:=by rw[ey]; simp[askWr]
 refine⟨hD,hy,by omega,made,ey', ?_⟩
 rw[hf ⟨nF,made,bs.length⟩ (by rw[ey']; simp[entsX])]
 exact hm
theorem st2 {D:Nat→Blk} {m:List TenE} {e N q:Int} {bs:List Int} (S:Small bs) (h4:4≤q) (hok:PoolOk 110 B0 (l1 q)) (h:DoCase 110 B0 (l1 q) 0 ⟨1,q,[x0]⟩ (askWr bs) D m e N):e=0∧usedTo D 110≤4∧∃ r,m=l2 q r bs.length∧fileL 1 (leafAt D 3 r)=padTo bs:=by
 have hk:(askWr bs).kind=3:=rfl
 cases h with
 | noadd _ h1=>rw[hk] at h1; omega
 | add _ h1=>rw[hk] at h1; omega
 | uses _ h1=>rw[hk] at h1; omega
 | missing _ _ h1=>exact absurd ⟨x0,by simp,rfl⟩ h1
 | look _ _ _ _ _ _ h1=>rw[hk] at h1; omega
 | destroy _ _ _ _ _ h1=>rw[hk] at h1; omega
 | noclone _ _ _ _ _ h1=>rw[hk] at h1; omega
 | clone _ _ _ _ _ _ _ h1=>rw[hk] at h1; omega
 | nochange k x e1 h1 h2 h3 _ h5=>
   exfalso
   obtain⟨rfl,rfl⟩:=one_get h1
   rcases h5 with⟨f,_⟩ | ⟨_,D,y,q', hd,hu,hq⟩
   ·have f':ChgNo 110 B0 1 x0 (askWr bs):=f
    have hle:=S.le
    obtain⟨root,size,hn,hlt,_⟩:=f'.1 rfl isName_F ⟨Int.le_refl _,by show (0:Int)+(bs.length:Int)≤256; omega⟩ (.inr (by decide))
    rcases hn with⟨f,hf,_⟩ | ⟨_,rfl,rfl⟩
    ·cases hf
    ·rw[S.over,S.one,usedB0] at hlt
     omega
   ·obtain⟨hD,hy,h4', _⟩:=wrote2 S hok hd
    have:=uses_most hD (roots_one hy) hu
    have hq':q<q':=hq
    omega
 | change k x D y q' h1 h2 h3 hdd h5 h6=>
   obtain⟨rfl,rfl⟩:=one_get h1
   obtain⟨hD,hy,h4', r,rfl,hr⟩:=wrote2 S hok hdd
   exact⟨rfl,h4', r,rfl,hr⟩
theorem runs_last {n:Nat} {B:Nat→Blk} {l:List TenE} {xs:List (Int×AskE)} {k:Nat} {a:AskE} {D:Nat→Blk} {m:List TenE} {ys:List AnsD} (h:RunsTo n B l (xs++[((k:Int),a)]) D m ys) (hk:k<l.length) (hlen:∀ D m ys,RunsTo n B l xs D m ys→m.length=l.length):∃ D1 m1 ys1 t e N,ys=ys1++[⟨e,N,ansS t a,ansB D1 t a⟩]∧RunsTo n B l xs D1 m1 ys1∧m1[k]? =some t∧DoCase n D1 m1 k t a D m e N:=by
 generalize hz:xs++[((k:Int),a)]=zs at h
 cases h with
 | nil=>simp at hz
 | miss xs' _ _ ys' i a' h1 h2=>
   obtain⟨e1,e2⟩:=List.append_inj' hz rfl
   subst e1
   simp only[List.cons.injEq,Prod.mk.injEq,and_true] at e2
   obtain⟨rfl,rfl⟩:=e2
   have:=hlen _ _ _ h1
   exact absurd ⟨by omega,by omega⟩ h2
 | step xs' D1 m1 ys' k' a' t _ _ e N h1 h2 _ h3=>
   obtain⟨e1,e2⟩:=List.append_inj' hz rfl
   subst e1
   simp only[List.cons.injEq,Prod.mk.injEq,and_true] at e2
   obtain⟨e3,rfl⟩:=e2
   obtain rfl:k=k':=by omega
   exact⟨D1,m1,ys', t,e,N,rfl,h1,h2,h3⟩
theorem runs_nil {n:Nat} {B:Nat→Blk} {l:List TenE} {D:Nat→Blk} {m:List TenE} {ys:List AnsD} (h:RunsTo n B l [] D m ys):D=B∧m=l∧ys=[]:=by
 generalize hz:([]:List (Int×AskE))=zs at h
 cases h with
 | nil=>exact⟨rfl,rfl,rfl⟩
 | miss=>simp at hz
 | step=>simp at hz
theorem poolOk_new {n:Nat} {l:List TenE} (hn:n≤400) (hl:l.length≤3) (ht:∀ t∈l,(0≤t.key∧t.key≤1000)∧(0≤t.quota∧t.quota≤400)∧t.sets=[]) (hq:sumQ l+90≤n):PoolOk n (fun _=>Blk.zero) l:=by
 have hr:∀ t∈l,rootsT t=[]:=fun t h=>by unfold rootsT rootsL; rw[(ht t h).2.2]; rfl
 have hR:rootsP l=[]:=by
  unfold rootsP
  rw[List.flatMap_eq_nil_iff]
  exact hr
 refine⟨right_zero n hn,hl,fun t h=>⟨(ht t h).1,(ht t h).2.1,by rw[(ht t h).2.2]; simp,by rw[(ht t h).2.2]; simp,by rw[(ht t h).2.2]; simp⟩,fun _=>hq,fun t h=>⟨0,⟨[],List.Pairwise.nil,fun x=>⟨fun hx=>by simp at hx,fun hx=>by rw[hr t h] at hx; exact(Clo.nil hx).elim⟩,rfl⟩,(ht t h).2.1.1⟩,?_,fun k hk=>by rw[outs_zero,hR]; rfl⟩
 refine List.pairwise_of_forall_mem_list (fun t h u _ x hx=>?_)
 rw[hr t h] at hx
 exact(Clo.nil hx).elim
theorem ok_l0 {q:Int} (h0:0≤q) (h1:q≤10):PoolOk 110 B0 (l0 q):=poolOk_new (by omega) (by simp) (fun t ht=>by
 simp only[List.mem_cons,List.not_mem_nil,or_false] at ht
 rcases ht with rfl | rfl
 ·exact⟨⟨by show (0:Int)≤1; decide,by show (1:Int)≤1000; decide⟩,⟨h0,by show q≤400; omega⟩,rfl⟩
 ·exact⟨⟨by decide,by decide⟩,⟨by decide,by decide⟩,rfl⟩) (by simp[sumQ]; omega)
theorem ok_l1 {q:Int} (hok0:PoolOk 110 B0 (l0 q)):PoolOk 110 B0 (l1 q):=by
 refine(DoCase.is (n:=110) (B:=B0) (l:=l0 q) (i:=0) (t:=⟨1,q,[]⟩) (a:=ask1) (D:=B0) (l':=l1 q) (e1:=0) (N:=0) hok0 rfl (fun x hx=>by cases hx) ?_).ok
 have:=DoCase.add (n:=110) (B:=B0) (l:=l0 q) (i:=0) (t:=⟨1,q,[]⟩) (a:=ask1) 0 rfl isName_A (by show 0<3; decide) ⟨Nat.zero_le _,fun x hx=>(by cases hx),fun x hx=>(by cases hx),⟨fun f=>(by cases f),fun⟨x,hx,_⟩=>(by cases hx)⟩⟩
 exact this
theorem run1 {q:Int} (D:Nat→Blk) (m:List TenE) (ys:List AnsD) (h:RunsTo 110 B0 (l0 q) [((0:Nat),ask1)] D m ys):D=B0∧m=l1 q∧∃ N,ys=[⟨0,N,[],[]⟩]:=by
 obtain⟨D1,m1,ys1,t,e,N,rfl,h1,h2,h3⟩:=runs_last (xs:=[]) (k:=0) h (by simp) (fun D m ys h=>by rw[(runs_nil h).2.1])
 obtain⟨rfl,rfl,rfl⟩:=runs_nil h1
 obtain rfl:t=⟨1,q,[]⟩:=by simpa using h2.symm
 obtain⟨rfl,rfl,rfl⟩:=st1 h3
 exact⟨rfl,rfl,N,rfl⟩
theorem run2 {q:Int} {bs:List Int} (S:Small bs) (h4:4≤q) (hok0:PoolOk 110 B0 (l0 q)) (D:Nat→Blk) (m:List TenE) (ys:List AnsD) (h:RunsTo 110 B0 (l0 q) [((0:Nat),ask1),((0:Nat),askWr bs)] D m ys):PoolOk 110 D m∧usedTo D 110≤4∧∃ r N1 N2,m=l2 q r bs.length∧fileL 1 (leafAt D 3 r)=padTo bs∧ys=[⟨0,N1,[],[]⟩,⟨0,N2,[],[]⟩]:=by
 obtain⟨D1,m1,ys1,t,e,N,rfl,h1,h2,h3⟩:=runs_last (xs:=[((0:Nat),ask1)]) (k:=0) h (by simp) (fun D m ys h=>by rw[(run1 D m ys h).2.1]; rfl)
 obtain⟨rfl,rfl,N1,rfl⟩:=run1 _ _ _ h1
 obtain rfl:t=⟨1,q,[x0]⟩:=by simpa using h2.symm
 have hi:=h3.is (ok_l1 hok0) rfl S.bytes
 obtain⟨rfl,h5,r,rfl,hr⟩:=st2 S h4 (ok_l1 hok0) h3
 exact⟨hi.ok,h5,r,N1,N,rfl,hr,rfl⟩
end Go.Proofs.YtjafgnohlkkopaaGreatDoor
