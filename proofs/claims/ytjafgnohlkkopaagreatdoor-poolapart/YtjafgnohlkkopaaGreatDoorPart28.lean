import Derived.Test.YtjafgnohlkkopaaGreatDoorPart27
import Derived.Test.YtjafgnohlkkopaaGreatDoorPart23
import Derived.Test.YtjafgnohlkkopaaGreatDoorPart25
import Derived.Test.YtjafgnohlkkopaaGreatDoorPart11
import Derived.Deep.RegionHeld3
set_option linter.unusedVariables false
set_option maxHeartbeats 8000000
set_option maxRecDepth 100000
namespace Go.Proofs.YtjafgnohlkkopaaGreatDoor
open Go.RowKit
def fileOf (x:aK)(nm:List UInt8):Option Ent:=x.files.find? (fun f=>f.nm == nm)
def bW0 (a:aM):Prop:=(0<=a.pos/\a.pos<=256)/\(0<=a.num/\a.num<=256)
instance (a:aM):Decidable (bW0 a):=by unfold bW0; infer_instance
def zK (x:aK)(a:aM):Int:=if a.kind=12 then 0 else match fileOf x a.file.data.toList with | none=>5 | some _=>if bW0 a then 0 else 3
def zJ (x:aK)(a:aM):Int:=if a.kind=12 then (x.files.length:Int) else match fileOf x a.file.data.toList with | none=>0 | some f=>if bW0 a then f.size else 0
def uX (x:aK)(a:aM):List ByteArray:=if a.kind=12 then x.files.map (·.name) else []
def zL (B:Nat->Blk)(key:Int)(x:aK)(a:aM):List Int:=if a.kind=12 then [] else match fileOf x a.file.data.toList with | none=>[] | some f=>if bW0 a then nP (aT key (aH B 3 f.root)) f.size.toNat a.pos.toNat a.num.toNat else []
theorem aW4 {x:aK}{nm:List UInt8}(h:¬∃ f∈x.files,f.nm=nm):fileOf x nm=none:=by
 unfold fileOf
 rw[List.find?_eq_none]
 intro f hf
 simp only[beq_iff_eq]
 exact fun e=>h ⟨f,hf,e⟩
theorem aW3 {x:aK}{nm:List UInt8}{f:Ent}(ho:x.files.Pairwise fun a b=>a.nm<b.nm)(hf:f∈x.files)(hn:f.nm=nm):fileOf x nm=some f:=by
 unfold fileOf
 cases h:x.files.find? (fun f=>f.nm == nm) with
 | none=>
   rw[List.find?_eq_none] at h
   have:=h f hf
   simp only[beq_iff_eq] at this
   exact absurd hn this
 | some g=>
   have h1:=List.find?_some h
   simp only[beq_iff_eq] at h1
   rw[xJ Ent.nm ho (List.mem_of_find?_eq_some h) hf (h1.trans hn.symm)]
structure aD2 (base:Nat)(w:World)(B:Nat->Blk)(key:Int)(x:aK)(a:aM)(e1 N:Int)(ya:Option Addr)(yn yc:Nat)(y:Option Addr)(ln lc:Nat):Prop where
 e:e1=zK x a
 n:N=zJ x a
 names:gJ (fun b=>base<=b) w ya yn (uX x a)
 bytes:aI (fun b=>base<=b) .u8 w y ln (zL B key x a)
 caps:yn<=yc/\ln<=lc
theorem aD2.map {base base':Nat}{w w':World}{B:Nat->Blk}{key:Int}{x:aK}{a:aM}{e1 N:Int}{ya:Option Addr}{yn yc:Nat}{y:Option Addr}{ln lc:Nat}(h:aD2 base w B key x a e1 N ya yn yc y ln lc)(hm:∀ l,aI (fun b=>base<=b) .u8 w y ln l->aI (fun b=>base'<=b) .u8 w' y ln l)(hs:∀ l,gJ (fun b=>base<=b) w ya yn l->gJ (fun b=>base'<=b) w' ya yn l):aD2 base' w' B key x a e1 N ya yn yc y ln lc:=
 ⟨h.e,h.n,hs _ h.names,hm _ h.bytes,h.caps⟩
theorem aD2.below {base base':Nat}{w w':World}{B:Nat->Blk}{key:Int}{x:aK}{a:aM}{e1 N:Int}{ya:Option Addr}{yn yc:Nat}{y:Option Addr}{ln lc:Nat}(h:aD2 base w B key x a e1 N ya yn yc y ln lc)(b:Below w.heap.size w w')(hb:base'<=base):aD2 base' w' B key x a e1 N ya yn yc y ln lc:=
 h.map (fun _ k=>(k.below b).weaken (fun _ _ q=>Nat.le_trans hb q)) (fun _ k=>(k.below b).weaken (fun _ _ q=>Nat.le_trans hb q))
theorem aD2.kept {base base' g:Nat}{w w':World}{B:Nat->Blk}{key:Int}{x:aK}{a:aM}{e1 N:Int}{ya:Option Addr}{yn yc:Nat}{y:Option Addr}{ln lc:Nat}(h:aD2 base w B key x a e1 N ya yn yc y ln lc)(k:Kept g w w')(hg:g<base)(hb:base'<=base):aD2 base' w' B key x a e1 N ya yn yc y ln lc:=
 h.map (fun _ l=>(l.kept (fun b q=>by omega) k).weaken (fun _ _ q=>Nat.le_trans hb q)) (fun _ l=>(l.kept (fun b q=>by omega) k).weaken (fun _ _ q=>Nat.le_trans hb q))
def cK7 (base:Nat)(w:World)(B:Nat->Blk)(key:Int)(x:aK)(a:aM)(e:Ending):Prop:=∃ (e' N:Int) (ya:Option Addr) (yn yc:Nat) (y:Option Addr) (ln lc:Nat),e=.returned (.agg #[.int .i64 e', .int .i64 N,.slice ya yn yc,.slice y ln lc])/\aD2 base w B key x a e' N ya yn yc y ln lc
theorem cH6 {base:Nat}{w:World}{B:Nat->Blk}{key:Int}{x:aK}{a:aM}(hk:a.kind=11)(h:¬∃ f∈x.files,f.nm=a.file.data.toList):aD2 base w B key x a 5 0 none 0 0 none 0 0:=by
 have e:=aW4 h
 have k12:¬a.kind=12:=by omega
 refine⟨?_,?_,?_,?_,⟨Nat.le_refl _,Nat.le_refl _⟩⟩
 ·simp[zK,k12,e]
 ·simp[zJ,k12,e]
 ·simp only[uX,if_neg k12]; exact oI _ _ _
 ·simp only[zL,if_neg k12,e]; exact dH _ _ _ _
theorem bX9 {base:Nat}{w:World}{B:Nat->Blk}{key:Int}{x:aK}{a:aM}{f:Ent}(hk:a.kind=11)(h:fileOf x a.file.data.toList=some f)(hr:¬bW0 a):aD2 base w B key x a 3 0 none 0 0 none 0 0:=by
 have k12:¬a.kind=12:=by omega
 refine⟨?_,?_,?_,?_,⟨Nat.le_refl _,Nat.le_refl _⟩⟩
 ·simp[zK,k12,h,hr]
 ·simp[zJ,k12,h,hr]
 ·simp only[uX,if_neg k12]; exact oI _ _ _
 ·simp only[zL,if_neg k12,h,if_neg hr]; exact dH _ _ _ _
theorem cM2 {base:Nat}{w:World}{B:Nat->Blk}{key:Int}{x:aK}{a:aM}{f:Ent}{y:Option Addr}{ln lc:Nat}(hk:a.kind=11)(h:fileOf x a.file.data.toList=some f)(hr:bW0 a)(hl:ln<=lc)(hN:aI (fun b=>base<=b) .u8 w y ln (nP (aT key (aH B 3 f.root)) f.size.toNat a.pos.toNat a.num.toNat)):aD2 base w B key x a 0 f.size none 0 0 y ln lc:=by
 have k12:¬a.kind=12:=by omega
 refine⟨?_,?_,?_,?_,⟨Nat.le_refl _,hl⟩⟩
 ·simp[zK,k12,h,hr]
 ·simp[zJ,k12,h,hr]
 ·simp only[uX,if_neg k12]; exact oI _ _ _
 ·simp only[zL,if_neg k12,h,if_pos hr]; exact hN
theorem cH7 {base:Nat}{w:World}{B:Nat->Blk}{key:Int}{x:aK}{a:aM}{y:Option Addr}{n:Nat}(hk:a.kind=12)(hn:x.files.length=n)(h:gJ (fun b=>base<=b) w y n (x.files.map (·.name))):aD2 base w B key x a 0 (n:Int) y n n none 0 0:=by
 refine⟨?_,?_,?_,?_,⟨Nat.le_refl _,Nat.le_refl _⟩⟩
 ·simp[zK,hk]
 ·simp[zJ,hk,hn]
 ·simp only[uX,if_pos hk]; exact h
 ·simp only[zL,if_pos hk]; exact dH _ _ _ _
abbrev cF6 (w:World)(b:Nat)(e' N:Int)(ya:Option Addr)(yn yc:Nat)(y:Option Addr)(ln lc:Nat):World:=(((w.setCell ⟨b,0,none⟩ (.int .i64 e')).setCell ⟨b,1,none⟩ (.int .i64 N)).setCell ⟨b,2,none⟩ (.slice ya yn yc)).setCell ⟨b,3,none⟩ (.slice y ln lc)
theorem dL (w:World)(b:Nat)(e' N:Int)(ya:Option Addr)(yn yc:Nat)(y:Option Addr)(ln lc:Nat):Kept b w (cF6 w b e' N ya yn yc y ln lc):=Kept.setCell (g:=b) (Kept.setCell (g:=b) (Kept.setCell (g:=b) (Kept.setCell (g:=b) (Kept.refl _ _) (p:=⟨b,0,none⟩) rfl _) (p:=⟨b,1,none⟩) rfl _) (p:=⟨b,2,none⟩) rfl _) (p:=⟨b,3,none⟩) rfl _
theorem dM {w:World}{b:Nat}{c0 c1 c2 c3:Value}(h:aC w b #[c0,c1,c2,c3] 41)(e' N:Int)(ya:Option Addr)(yn yc:Nat)(y:Option Addr)(ln lc:Nat):aC (cF6 w b e' N ya yn yc y ln lc) b #[.int .i64 e', .int .i64 N,.slice ya yn yc,.slice y ln lc] 41:=by
 have k2:=(((h.set 0 (.int .i64 e')).set 1 (.int .i64 N)).set 2 (.slice ya yn yc)).set 3 (.slice y ln lc)
 simp only[List.setIfInBounds_toArray,List.set_cons_zero,List.set_cons_succ] at k2
 exact k2
theorem bX8 (Q:Nat->Prop)(sa:Option Addr)(n sc:Nat)(B:Nat->Blk)(key:Int)(v:cB)(x:aK)(a:aM)(ba:Option Addr)(bn bc:Nat)(w:World)(hs:aO w sa n B)(hX:dN Q w v x)(hx:bD n B key x)(hk11:a.kind=11):
 Calls Tryz.prog 92 #[.agg #[.slice sa n sc],.int .i64 key,v.val,a.val ba bn bc] w fun e w'=>cK7 w.heap.size w' B key x a e/\Below w.heap.size w w':=by
 have hlb:=bA9 w sa n sc v a ba bn bc
 unfold bT3 at hlb
 replace hlb:=hid hlb
 have ho:=hid hx.files.order
 replace hk11:=hid hk11
 have hvn:v.fn<=6:=by rw[<-hX.files.1]; exact hx.files.few
 unfold aM.val cB.val
 replace hs:=hid hs
 replace hX:=hid hX
 replace hx:=hid hx
 go_enter Tryz.func92,Tryz.ntmps92
 go_wp2_with fail
 generalize (((w.alloc (.cells #[.slice sa n sc] 24)).alloc (.cells #[.string v.name,.slice v.fa v.fn v.fc,.slice v.sa v.sn v.sc] 84)).alloc (.cells #[.int .i64 a.kind,.string a.set,.string a.file,.string a.to,.int .i64 a.pos,.int .i64 a.num,.slice ba bn bc] 30)).alloc (.cells #[.int .i64 0,.int .i64 0,.slice none 0 0,.slice none 0 0] 41)=w0 at *
 refine(iP Q v.fa v.fn v.fc x.files a.file w0 (by omega) (hX.out.files.below hlb.out.bel) ho.out).mono ?_
 rintro e w1 ⟨⟨p,b,rfl,hF⟩,b1⟩
 replace hlb:=hid (hlb.out.below b1)
 clear b1
 have q0:=hlb.out.r8.cell 0
 have q1:=hlb.out.r8.cell 1
 have q2:=hlb.out.r8.cell 2
 have q3:=hlb.out.r8.cell 3
 have z0:=hlb.out.r8.frozen 0
 have z1:=hlb.out.r8.frozen 1
 have z2:=hlb.out.r8.frozen 2
 have z3:=hlb.out.r8.frozen 3
 simp at q0 q1 q2 q3
 cases b
 ·have hno:Hid (¬∃ f∈x.files,f.nm=a.file.data.toList):=hid (fun f=>by have:=(dJ ho.out hF).2 f; cases this)
  clear hF
  go_wp2_with fail
  refine bodyPost_ret (v:=.agg #[.int .i64 5,.int .i64 0,.slice none 0 0,.slice none 0 0]) ?_ rfl ?_
  ·exact results_cell_row rfl _ _ (w.heap.size+1+1+1) _ _ _ _ rfl (dM hlb.out.r8 5 0 none 0 0 none 0 0) Tryz.underlying41 rfl (by kernel_rfl)
  ·exact⟨⟨_,_,_,_,_,_,_,_,rfl,cH6 hk11.out hno.out⟩,hlb.out.bel.trans ((dL _ _ _ _ _ _ _ _ _ _).below (by omega))⟩
 ·obtain⟨hp,hpx⟩:=jR hF
  have hfo:Hid (fileOf x a.file.data.toList=some (x.files.getD p Ent.zero)):=hid (by
   have e:x.files.getD p Ent.zero=x.files[p]:=by simp[List.getD,hp]
   rw[e]
   exact aW3 ho.out (List.getElem_mem hp) hpx)
  have hfk:Hid (bU n B key (x.files.getD p Ent.zero).root (x.files.getD p Ent.zero).size):=hid (by
   have e:x.files.getD p Ent.zero=x.files[p]:=by simp[List.getD,hp]
   rw[e]
   exact hx.out.files.files _ (List.getElem_mem hp))
  clear hpx hF q0 q1 q2 q3 z0 z1 z2 z3
  have hXe:=hX.out.files.below hlb.out.bel
  have hpv:p<v.fn:=by rw[<-hXe.1]; exact hp
  obtain⟨fb,fo,hfb⟩:∃ b off,v.fa=some ⟨b,off,none⟩:=by
   obtain⟨b,off,e,_⟩:=hXe.2.2 (by omega)
   exact⟨b,off,e⟩
  rw[hfb] at hXe
  have hA:=hXe.ent hpv
  generalize x.files.getD p Ent.zero=f at *
  have c1:=hA.c1
  have c2:=hA.c2
  have x1:=hlb.out.bX.cell 1
  have s0:=hlb.out.bS.cell 0
  have a4:=hlb.out.bA.cell 4
  have a5:=hlb.out.bA.cell 5
  simp at x1 s0 a4 a5
  rw[hfb] at x1
  have lS:=hlb.out.bS.lt
  have lA:=hlb.out.bA.lt
  have n1:=Nat.ne_of_lt lS
  have n2:=Nat.ne_of_lt lA
  have n1':=n1.symm
  have n2':=n2.symm
  replace hfb:=hid hfb
  clear hA hXe hp
  go_wp2_with fail
  have ba1:=aA w1 (.cells #[.int .i64 f.root,.int .i64 f.size] 104)
  have kf:=hid (aB w1 #[.int .i64 f.root,.int .i64 f.size] 104)
  replace hlb:=hid (hlb.out.below ba1)
  clear c1 c2 x1 s0 a4 a5 lS lA n1 n2 n1' n2' ba1
  generalize hW2:w1.alloc (.cells #[.int .i64 f.root,.int .i64 f.size] 104)=w2 at *
  replace hW2:=hid hW2
  refine(rV sa n sc B key f.root f.size a.pos a.num w2 (hs.out.below hlb.out.bel)).mono ?_
  rintro e w3 ⟨⟨hR,hW⟩,b3⟩
  have hsz2:=hid hlb.out.sz
  replace kf:=hid (kf.out.below b3)
  replace hlb:=hid (hlb.out.below b3)
  have f1:=kf.out.cell 1
  have q0:=hlb.out.r8.cell 0
  have q1:=hlb.out.r8.cell 1
  have q2:=hlb.out.r8.cell 2
  have q3:=hlb.out.r8.cell 3
  have z0:=hlb.out.r8.frozen 0
  have z1:=hlb.out.r8.frozen 1
  have z2:=hlb.out.r8.frozen 2
  have z3:=hlb.out.r8.frozen 3
  simp at f1 q0 q1 q2 q3
  have hr:=hW hfk.out
  rcases hR with⟨e', rfl,he,hno⟩ | ⟨y,ln,lc,rfl,_,hlc,hN⟩
  ·obtain rfl:e'=3:=by
    rcases hr with hr | hr
    ·exact absurd ⟨hfk.out,hr⟩ hno
    ·simpa using hr
   have hrn:Hid (¬bW0 a):=hid (fun hr=>hno ⟨hfk.out,hr⟩)
   clear hr hW hno he
   go_wp2_with fail
   refine bodyPost_ret (v:=.agg #[.int .i64 3,.int .i64 0,.slice none 0 0,.slice none 0 0]) ?_ rfl ?_
   ·exact results_cell_row rfl _ _ (w.heap.size+1+1+1) _ _ _ _ rfl (dM hlb.out.r8 3 0 none 0 0 none 0 0) Tryz.underlying41 rfl (by kernel_rfl)
   ·exact⟨⟨_,_,_,_,_,_,_,_,rfl,bX9 hk11.out hfo.out hrn.out⟩,hlb.out.bel.trans ((dL _ _ _ _ _ _ _ _ _ _).below (by omega))⟩
  ·have hrn:Hid (bW0 a):=hid (by
    rcases hr with hr | hr
    ·exact hr
    ·simp at hr)
   replace hN:=hid hN
   clear hr hW
   go_wp2_with fail
   refine bodyPost_ret (v:=.agg #[.int .i64 0,.int .i64 f.size,.slice none 0 0,.slice y ln lc]) ?_ rfl ?_
   ·exact results_cell_row rfl _ _ (w.heap.size+1+1+1) _ _ _ _ rfl (dM hlb.out.r8 0 f.size none 0 0 y ln lc) Tryz.underlying41 rfl (by kernel_rfl)
   ·exact⟨⟨_,_,_,_,_,_,_,_,rfl,cM2 hk11.out hfo.out hrn.out hlc (((hN.out.weaken (R:=fun b=>w.heap.size+4<=b) (fun b _ h=>Nat.le_trans hsz2.out h)).kept (fun b h=>by omega) (dL _ _ _ _ _ _ _ _ _ _)).weaken (fun b _ h=>by omega))⟩,hlb.out.bel.trans ((dL _ _ _ _ _ _ _ _ _ _).below (by omega))⟩
def cS1 (base:Nat)(w:World)(B:Nat->Blk)(key:Int)(x:aK)(a:aM)(e:Ending):Prop:=∃ (e1 N:Int) (ya:Option Addr) (yn yc:Nat) (y:Option Addr) (ln lc:Nat) (e':Int),e=.returned (.tuple #[.agg #[.int .i64 e1,.int .i64 N,.slice ya yn yc,.slice y ln lc],.int .i64 e'])/\((a.kind=11\/a.kind=12)->e'=0/\aD2 base w B key x a e1 N ya yn yc y ln lc)
theorem bZ8 (Q:Nat->Prop)(sa:Option Addr)(n sc:Nat)(B:Nat->Blk)(key:Int)(v:cB)(x:aK)(a:aM)(ba:Option Addr)(bn bc:Nat)(w:World)(hs:aO w sa n B)(hX:dN Q w v x)(hx:bD n B key x):
 Calls Tryz.prog 69 #[.agg #[.slice sa n sc],.int .i64 key,v.val,a.val ba bn bc] w fun e w'=>cS1 w.heap.size w' B key x a e/\Below w.heap.size w w':=by
 have hlb:=bA9 w sa n sc v a ba bn bc
 unfold bT3 at hlb
 replace hlb:=hid hlb
 unfold aM.val cB.val
 replace hs:=hid hs
 replace hX:=hid hX
 replace hx:=hid hx
 go_enter Tryz.func69,Tryz.ntmps69
 go_wp2_with fail
 generalize (((w.alloc (.cells #[.slice sa n sc] 24)).alloc (.cells #[.string v.name,.slice v.fa v.fn v.fc,.slice v.sa v.sn v.sc] 84)).alloc (.cells #[.int .i64 a.kind,.string a.set,.string a.file,.string a.to,.int .i64 a.pos,.int .i64 a.num,.slice ba bn bc] 30)).alloc (.cells #[.int .i64 0,.int .i64 0,.slice none 0 0,.slice none 0 0] 41)=w0 at *
 refine(nN Q sa n sc B key v x w0 (hs.out.below hlb.out.bel) (hX.out.below hlb.out.bel)).mono ?_
 rintro e w1 ⟨⟨e', rfl,he⟩,b1⟩
 obtain rfl:e'=0:=he.2 hx.out
 replace hlb:=hid (hlb.out.below b1)
 clear he b1
 have s0:=hlb.out.bS.cell 0
 have x0:=hlb.out.bX.cell 0
 have x1:=hlb.out.bX.cell 1
 have x2:=hlb.out.bX.cell 2
 have a0:=hlb.out.bA.cell 0
 have a1:=hlb.out.bA.cell 1
 have a2:=hlb.out.bA.cell 2
 have a3:=hlb.out.bA.cell 3
 have a4:=hlb.out.bA.cell 4
 have a5:=hlb.out.bA.cell 5
 have a6:=hlb.out.bA.cell 6
 simp at s0 x0 x1 x2 a0 a1 a2 a3 a4 a5 a6
 by_cases hk:a.kind=11
 ·have hk':(a.kind == 11)=true:=by simp[hk]
  replace hk:=hid hk
  go_wp2_with fail
  refine(bX8 Q sa n sc B key v x a ba bn bc w1 (hs.out.below hlb.out.bel) (hX.out.below hlb.out.bel) hx.out hk.out).mono ?_
  rintro e w2 ⟨⟨e1,N,ya,yn,yc,y,ln,lc,rfl,hlk⟩,b2⟩
  have hsz2:=hid hlb.out.sz
  replace hlk:=hid hlk
  replace hlb:=hid (hlb.out.below b2)
  have q0:=hlb.out.r8.cell 0
  have q1:=hlb.out.r8.cell 1
  have q2:=hlb.out.r8.cell 2
  have q3:=hlb.out.r8.cell 3
  have z0:=hlb.out.r8.frozen 0
  have z1:=hlb.out.r8.frozen 1
  have z2:=hlb.out.r8.frozen 2
  have z3:=hlb.out.r8.frozen 3
  simp at q0 q1 q2 q3
  clear b2 s0 x0 x1 x2 a0 a1 a2 a3 a4 a5 a6
  go_wp2_with fail
  refine bodyPost_ret (v:=.tuple #[.agg #[.int .i64 e1,.int .i64 N,.slice ya yn yc,.slice y ln lc],.int .i64 0]) (by rw[results_cell_tmp rfl]; go_simp) rfl ?_
  exact⟨⟨_,_,_,_,_,_,_,_,_,rfl,fun _=>⟨rfl,hlk.out.kept (dL w2 (w.heap.size+1+1+1) e1 N ya yn yc y ln lc) (by have:=hsz2.out; omega) (by have:=hsz2.out; omega)⟩⟩,hlb.out.bel.trans ((dL w2 (w.heap.size+1+1+1) e1 N ya yn yc y ln lc).below (by omega))⟩
 ·have hk':(a.kind == 11)=false:=by simp[hk]
  by_cases hk2:a.kind=12
  ·have hk2':(a.kind == 12)=true:=by simp[hk2]
   replace hk2:=hid hk2
   replace hk:=hid hk
   go_wp2_with fail
   refine(cA1 Q v x w1 (hX.out.below hlb.out.bel) hx.out.files.few).mono ?_
   rintro e w2 ⟨⟨y,rfl,hst⟩,b2⟩
   have hsz2:=hid hlb.out.sz
   replace hst:=hid hst
   have hfl:=hid hX.out.files.1
   replace hlb:=hid (hlb.out.below b2)
   have q0:=hlb.out.r8.cell 0
   have q1:=hlb.out.r8.cell 1
   have q2:=hlb.out.r8.cell 2
   have q3:=hlb.out.r8.cell 3
   have z0:=hlb.out.r8.frozen 0
   have z1:=hlb.out.r8.frozen 1
   have z2:=hlb.out.r8.frozen 2
   have z3:=hlb.out.r8.frozen 3
   simp at q0 q1 q2 q3
   clear b2 s0 x0 x1 x2 a0 a1 a2 a3 a4 a5 a6
   go_wp2_with fail
   refine bodyPost_ret (v:=.tuple #[.agg #[.int .i64 0,.int .i64 (v.fn:Int),.slice y v.fn v.fn,.slice none 0 0],.int .i64 0]) (by rw[results_cell_tmp rfl]; go_simp) rfl ?_
   exact⟨⟨_,_,_,_,_,_,_,_,_,rfl,fun _=>⟨rfl,(cH7 (B:=B) (key:=key) hk2.out hfl.out hst.out).kept (dL w2 (w.heap.size+1+1+1) 0 v.fn y v.fn v.fn none 0 0) (by have:=hsz2.out; omega) (by have:=hsz2.out; omega)⟩⟩,hlb.out.bel.trans ((dL w2 (w.heap.size+1+1+1) 0 v.fn y v.fn v.fn none 0 0).below (by omega))⟩
  ·have hk2':(a.kind == 12)=false:=by simp[hk2]
   have q0:=hlb.out.r8.cell 0
   have q1:=hlb.out.r8.cell 1
   have q2:=hlb.out.r8.cell 2
   have q3:=hlb.out.r8.cell 3
   have z0:=hlb.out.r8.frozen 0
   have z1:=hlb.out.r8.frozen 1
   have z2:=hlb.out.r8.frozen 2
   have z3:=hlb.out.r8.frozen 3
   simp at q0 q1 q2 q3
   replace hk2:=hid hk2
   replace hk:=hid hk
   go_wp2_with fail
   refine bodyPost_ret (v:=.tuple #[.agg #[.int .i64 0,.int .i64 0,.slice none 0 0,.slice none 0 0],.int .i64 4]) (by rw[results_cell_tmp rfl]; go_simp) rfl ?_
   exact⟨⟨_,_,_,_,_,_,_,_,_,rfl,fun f=>absurd f (fun f=>f.elim hk.out hk2.out)⟩,hlb.out.bel.trans ((dL w1 (w.heap.size+1+1+1) 0 0 none 0 0 none 0 0).below (by omega))⟩
def cP8 (n:Nat)(B:Nat->Blk)(t:aP)(k:Nat)(x:aK)(a:aM)(e1:Int):Prop:=(zO n B t.key x a/\lW n B t.key e1 x a)\/(e1=8/\∃ D y q,Did n B t.key x a 2000 D y/\sI D (cK (t.sets.set k y)) q/\t.quota<q)
def bK1 (a:aM):Prop:=a.kind≠1/\a.kind≠13/\a.kind≠11/\a.kind≠12/\a.kind≠2/\a.kind≠10
inductive dU (n:Nat)(B:Nat->Blk)(l:List aP)(i:Nat)(t:aP)(a:aM):(Nat->Blk)->List aP->Int->Int->Prop
 | noadd (e1:Int):a.kind=1->e1≠0->vC t.sets a.set e1->dU n B l i t a B l e1 0
 | add (p:Nat):a.kind=1->aN a.set->t.sets.length<3->Found aK.nm t.sets a.set.data.toList p false->dU n B l i t a B (l.set i ⟨t.key,t.quota,t.sets.take p++⟨a.set,[],[]⟩::t.sets.drop p⟩) 0 0
 | uses (N:Int):a.kind=13->sI B (aL t) N->dU n B l i t a B l 0 N
 | missing:a.kind≠1->a.kind≠13->(¬∃ x∈t.sets,x.nm=a.set.data.toList)->dU n B l i t a B l 5 0
 | look (k:Nat) (x:aK) (e1 N:Int):t.sets[k]? =some x->x.nm=a.set.data.toList->(a.kind=11\/a.kind=12)->e1=zK x a->N=zJ x a->dU n B l i t a B l e1 N
 | destroy (k:Nat) (x:aK) (D:Nat->Blk):t.sets[k]? =some x->x.nm=a.set.data.toList->a.kind=2->Right n D->iQ n B D (aG x)->dU n B l i t a D (l.set i ⟨t.key,t.quota,t.sets.eraseIdx k⟩) 0 0
 | noclone (k:Nat) (x:aK) (e1:Int):t.sets[k]? =some x->x.nm=a.set.data.toList->a.kind=10->e1≠0->uZ t.sets x a e1->dU n B l i t a B l e1 0
 | clone (k:Nat) (x:aK) (C:Nat->Blk) (y:aK) (p:Nat):t.sets[k]? =some x->x.nm=a.set.data.toList->a.kind=10->bD n C t.key y->ClF n B C x a.to a.file y->t.sets.length<3->Found aK.nm t.sets y.nm p false->dU n B l i t a C (l.set i ⟨t.key,t.quota,t.sets.take p++y::t.sets.drop p⟩) 0 0
 | nochange (k:Nat) (x:aK) (e1:Int):t.sets[k]? =some x->x.nm=a.set.data.toList->bK1 a->e1≠0->cP8 n B t k x a e1->dU n B l i t a B l e1 0
 | change (k:Nat) (x:aK) (D:Nat->Blk) (y:aK) (q:Int):t.sets[k]? =some x->x.nm=a.set.data.toList->bK1 a->Did n B t.key x a 2000 D y->sI D (cK (t.sets.set k y)) q->q<=t.quota->dU n B l i t a D (l.set i ⟨t.key,t.quota,t.sets.set k y⟩) 0 0
structure aX9 (n:Nat)(B D:Nat->Blk)(l l':List aP)(i:Nat)(t:aP)(a:aM)(e1:Int):Prop where
 ok:aR n D l'
 set:∃ t', l'=l.set i t'/\t'.key=t.key/\t'.quota=t.quota
 oth:∀ (j:Nat) (u:aP),l[j]? =some u->j≠i->gM n B D (aL u)
 still:(e1≠0\/a.kind=11\/a.kind=12\/a.kind=13)->D=B/\l'=l
theorem set_self {l:List aP}{i:Nat}{t:aP}(h:l[i]? =some t):l=l.set i t:=by
 obtain⟨hi,rfl⟩:=List.getElem?_eq_some_iff.1 h
 rw[List.set_getElem_self]
theorem aX9.same {n:Nat}{B:Nat->Blk}{l:List aP}{i:Nat}{t:aP}{a:aM}{e1:Int}(h:aR n B l)(hi:l[i]? =some t):aX9 n B B l l i t a e1:=
 ⟨h,⟨t,set_self hi,rfl,rfl⟩,fun j u hj _=>bE1 h.right (h.tens u (List.mem_of_getElem? hj)).rootsOk,fun _=>⟨rfl,rfl⟩⟩
theorem aX9.of_step {n:Nat}{B D:Nat->Blk}{l:List aP}{i:Nat}{t t':aP}{a:aM}{e1:Int}(h:Step n B D l i t')(hk:t'.key=t.key)(hq:t'.quota=t.quota)(hno:e1=0/\a.kind≠11/\a.kind≠12/\a.kind≠13):aX9 n B D l (l.set i t') i t a e1:=
 ⟨h.ok,⟨t', rfl,hk,hq⟩,h.oth,fun f=>by rcases f with f | f | f | f<;>simp_all⟩
theorem tC (a:aM):(2000:Int)+iN a+24<=1000000:=by unfold iN; split<;>omega
theorem dU.is {n:Nat}{B D:Nat->Blk}{l l':List aP}{i:Nat}{t:aP}{a:aM}{e1 N:Int}(h:aR n B l)(hi:l[i]? =some t)(hb:Bytes a.bytes)(hc:dU n B l i t a D l' e1 N):aX9 n B D l l' i t a e1:=by
 cases hc with
 | noadd=>exact aX9.same h hi
 | add p h1 h2 h3 h4=>exact aX9.of_step (h.add hi h3 h2 h4) rfl rfl ⟨rfl,by omega,by omega,by omega⟩
 | uses=>exact aX9.same h hi
 | missing=>exact aX9.same h hi
 | look=>exact aX9.same h hi
 | destroy k x D h1 h2 h3 h4 h5=>exact aX9.of_step (h.destroy hi h1 h4 h5) rfl rfl ⟨rfl,by omega,by omega,by omega⟩
 | noclone=>exact aX9.same h hi
 | clone k x C y p h1 h2 h3 h4 h5 h6 h7=>exact aX9.of_step (h.clone hi h1 h6 h7 h4 h5) rfl rfl ⟨rfl,by omega,by omega,by omega⟩
 | nochange=>exact aX9.same h hi
 | change k x D y q h1 h2 h3 h4 h5 h6=>exact aX9.of_step (h.change hi h1 hb h.refs (tC a) h4 h5 h6) rfl rfl ⟨rfl,h3.2.2.1,h3.2.2.2.1,h3.2.1⟩
def setOf (t:aP)(nm:List UInt8):Option aK:=t.sets.find? (fun x=>x.nm == nm)
def aH3 (t:aP)(a:aM):List ByteArray:=if a.kind=11\/a.kind=12 then match setOf t a.set.data.toList with | none=>[] | some x=>uX x a else []
def aQ3 (B:Nat->Blk)(t:aP)(a:aM):List Int:=if a.kind=11\/a.kind=12 then match setOf t a.set.data.toList with | none=>[] | some x=>zL B t.key x a else []
theorem bE5 {t:aP}{nm:List UInt8}(h:¬∃ x∈t.sets,x.nm=nm):setOf t nm=none:=by
 unfold setOf
 rw[List.find?_eq_none]
 intro f hf
 simp only[beq_iff_eq]
 exact fun e=>h ⟨f,hf,e⟩
theorem bE4 {t:aP}{nm:List UInt8}{x:aK}(ho:t.sets.Pairwise fun a b=>a.nm<b.nm)(hf:x∈t.sets)(hn:x.nm=nm):setOf t nm=some x:=by
 unfold setOf
 cases h:t.sets.find? (fun x=>x.nm == nm) with
 | none=>
   rw[List.find?_eq_none] at h
   have:=h x hf
   simp only[beq_iff_eq] at this
   exact absurd hn this
 | some g=>
   have h1:=List.find?_some h
   simp only[beq_iff_eq] at h1
   rw[xJ aK.nm ho (List.mem_of_find?_eq_some h) hf (h1.trans hn.symm)]
structure mQ (Q:Nat->Prop)(w:World)(S:List ByteArray)(b:List Int)(ya:Option Addr)(yn yc:Nat)(y:Option Addr)(ln lc:Nat):Prop where
 names:gJ Q w ya yn S
 bytes:aI Q .u8 w y ln b
 caps:yn<=yc/\ln<=lc
theorem yU (Q:Nat->Prop)(w:World):mQ Q w [] [] none 0 0 none 0 0:=⟨oI _ _ _,dH _ _ _ _,Nat.le_refl _,Nat.le_refl _⟩
theorem lM {Q:Nat->Prop}{w:World}{B:Nat->Blk}{t:aP}{a:aM}(h:¬(a.kind=11\/a.kind=12)):mQ Q w (aH3 t a) (aQ3 B t a) none 0 0 none 0 0:=by
 unfold aH3 aQ3
 rw[if_neg h,if_neg h]
 exact yU _ _
theorem aH4 {Q:Nat->Prop}{w:World}{B:Nat->Blk}{t:aP}{a:aM}(h:¬∃ x∈t.sets,x.nm=a.set.data.toList):mQ Q w (aH3 t a) (aQ3 B t a) none 0 0 none 0 0:=by
 unfold aH3 aQ3
 rw[bE5 h]
 split<;>exact yU _ _
theorem bJ8 {base:Nat}{w:World}{B:Nat->Blk}{t:aP}{x:aK}{a:aM}{e1 N:Int}{ya:Option Addr}{yn yc:Nat}{y:Option Addr}{ln lc:Nat}(hk:a.kind=11\/a.kind=12)(hs:setOf t a.set.data.toList=some x)(h:aD2 base w B t.key x a e1 N ya yn yc y ln lc):mQ (fun b=>base<=b) w (aH3 t a) (aQ3 B t a) ya yn yc y ln lc:=by
 unfold aH3 aQ3
 rw[if_pos hk,if_pos hk,hs]
 exact⟨h.names,h.bytes,h.caps⟩
theorem mQ.below {Q:Nat->Prop}{w w':World}{S:List ByteArray}{l:List Int}{ya:Option Addr}{yn yc:Nat}{y:Option Addr}{ln lc:Nat}(h:mQ Q w S l ya yn yc y ln lc)(b:Below w.heap.size w w'):mQ Q w' S l ya yn yc y ln lc:=⟨h.names.below b,h.bytes.below b,h.caps⟩
theorem mQ.weaken {Q R:Nat->Prop}{w:World}{S:List ByteArray}{l:List Int}{ya:Option Addr}{yn yc:Nat}{y:Option Addr}{ln lc:Nat}(h:mQ Q w S l ya yn yc y ln lc)(hq:∀ b,b<w.heap.size->Q b->R b):mQ R w S l ya yn yc y ln lc:=⟨h.names.weaken hq,h.bytes.weaken hq,h.caps⟩
theorem mQ.kept {Q:Nat->Prop}{w w':World}{S:List ByteArray}{l:List Int}{ya:Option Addr}{yn yc:Nat}{y:Option Addr}{ln lc:Nat}{g:Nat}(h:mQ Q w S l ya yn yc y ln lc)(hq:∀ b,Q b->b≠g)(k:Kept g w w'):mQ Q w' S l ya yn yc y ln lc:=⟨h.names.kept hq k,h.bytes.kept hq k,h.caps⟩
theorem mQ.only {M Q:Nat->Prop}{w w':World}{S:List ByteArray}{l:List Int}{ya:Option Addr}{yn yc:Nat}{y:Option Addr}{ln lc:Nat}(h:mQ Q w S l ya yn yc y ln lc)(on:Only M w w')(hq:∀ b,Q b->¬M b):mQ Q w' S l ya yn yc y ln lc:=⟨on.strs h.names hq,on.nums h.bytes hq,h.caps⟩
def uR (H:Nat)(X:Nat->Prop)(w:World)(ob n:Nat)(B:Nat->Blk)(tb tn tc:Nat)(L:List aY)(i:Nat)(m:aY)(a:aM)(e:Ending)(w':World):Prop:=
 ∃ (e1 N:Int) (ya:Option Addr) (yn yc:Nat) (y:Option Addr) (ln lc:Nat) (g':Nat) (D:Nat->Blk) (L':List aY),e=.returned (.agg #[.int .i64 e1,.int .i64 N,.slice ya yn yc,.slice y ln lc])/\Below H w w'/\Only (PM ob tb tn tc L) w w'/\PSt H X w' ob g' n D (some ⟨tb,0,none⟩) tn tc L'/\dU n B (L.map aY.e) i m.e a D (L'.map aY.e) e1 N/\mQ (fun b=>w.heap.size<=b) w' (aH3 m.e a) (aQ3 B m.e a) ya yn yc y ln lc/\((yn=0/\ln=0)\/PSt H (fun b=>X b\/(w.heap.size<=b/\b<w'.heap.size)) w' ob g' n D (some ⟨tb,0,none⟩) tn tc L')
abbrev bY6 (a:aM)(ba:Option Addr)(bn bc:Nat):Obj:=.cells #[.int .i64 a.kind,.string a.set,.string a.file,.string a.to,.int .i64 a.pos,.int .i64 a.num,.slice ba bn bc] 30
abbrev cI5:Obj:=.cells #[.int .i64 0,.int .i64 0,.slice none 0 0,.slice none 0 0] 41
structure OB (W w:World)(a:aM)(ba:Option Addr)(bn bc:Nat):Prop where
 bel:Below W.heap.size W w
 bA:aC w W.heap.size #[.int .i64 a.kind,.string a.set,.string a.file,.string a.to,.int .i64 a.pos,.int .i64 a.num,.slice ba bn bc] 30
 bR:aC w (W.heap.size+1) #[.int .i64 0,.int .i64 0,.slice none 0 0,.slice none 0 0] 41
theorem OB.below {W w w':World}{a:aM}{ba:Option Addr}{bn bc:Nat}(h:OB W w a ba bn bc)(b:Below w.heap.size w w'):OB W w' a ba bn bc:=⟨Below.tr h.bel b,h.bA.below b,h.bR.below b⟩
theorem aE6 (w:World)(a:aM)(ba:Option Addr)(bn bc:Nat):OB w ((w.alloc (bY6 a ba bn bc)).alloc cI5) a ba bn bc:=
 ⟨aW w _ _,(aB w _ _).below (aA _ _),aF w (bY6 a ba bn bc) _ _⟩
abbrev YB (X:Nat->Prop)(q:Nat):Nat->Prop:=fun b=>X b\/b=q
theorem PSt.boxed {H:Nat}{X:Nat->Prop}{w w0:World}{ob g n:Nat}{B:Nat->Blk}{ta:Option Addr}{tn tc:Nat}{L:List aY}{a:aM}{ba:Option Addr}{bn bc:Nat}(h:PSt H X w ob g n B ta tn tc L)(o:OB w w0 a ba bn bc):PSt H (YB X (w.heap.size+1)) w0 ob g n B ta tn tc L:=
 h.clear o.bel (fun b y=>y.imp id (fun e=>⟨by omega,by rw[e]; exact o.bR.lt⟩)) (.inl h.hx)
theorem pU {H:Nat}{X:Nat->Prop}{w w1:World}{ob g g' n tb tn tc i:Nat}{B D:Nat->Blk}{L L':List aY}{m:aY}{a:aM}{c0 c1 c2 c3:Value}{e1 N:Int}{ya:Option Addr}{yn yc:Nat}{y:Option Addr}{ln lc:Nat}(h:PSt H X w ob g n B (some ⟨tb,0,none⟩) tn tc L)(h1:PSt H (YB X (w.heap.size+1)) w1 ob g' n D (some ⟨tb,0,none⟩) tn tc L')(hB:Below H w w1)(on:Only (PM ob tb tn tc L) w w1)(k:aC w1 (w.heap.size+1) #[c0,c1,c2,c3] 41)(hc:dU n B (L.map aY.e) i m.e a D (L'.map aY.e) e1 N)
 (hr:mQ (fun b=>w.heap.size+2<=b) w1 (aH3 m.e a) (aQ3 B m.e a) ya yn yc y ln lc) (hf:(yn=0/\ln=0)\/PSt H (fun b=>X b\/(w.heap.size<=b/\b<w1.heap.size)) w1 ob g' n D (some ⟨tb,0,none⟩) tn tc L'):
 uR H X w ob n B tb tn tc L i m a (.returned (.agg #[.int .i64 e1,.int .i64 N,.slice ya yn yc,.slice y ln lc])) (cF6 w1 (w.heap.size+1) e1 N ya yn yc y ln lc):=by
 have kk:=dL w1 (w.heap.size+1) e1 N ya yn yc y ln lc
 have hob:=h.box.lt
 have hsz:=h.mine.sz
 refine⟨e1,N,ya,yn,yc,y,ln,lc,g', D,L', rfl,hB.trans (kk.below (by omega)),on.trans2 (Only.of_kept (M:=fun b=>b=w.heap.size+1) kk rfl) (fun q hq e=>by omega),(h1.kept kk (.inr rfl) (by omega)).clear (Below.refl _ _) (fun b x=>.inl (.inl x)) h.hx,hc,(hr.kept (g:=w.heap.size+1) (fun b hb=>by omega) kk).weaken (fun b _ q=>by omega),hf.imp id (fun hf=>by
  have:=k.lt
  have h2:=hf.kept kk (.inr ⟨by omega,this⟩) (by omega)
  rw[kk.size]
  exact h2)⟩
theorem bT4 {Q:Nat->Prop}{w:World}{nm:ByteArray}(h:nm.size<=maxLen):dN Q w ⟨nm,none,0,0,none,0,0⟩ ⟨nm,[],[]⟩:=by
 refine⟨rfl,h,?_,?_,?_⟩
 ·first | exact aC4 _ _ _ | exact⟨rfl,fun x hx=>by simp at hx,fun hp=>absurd hp (by omega)⟩
 ·first | exact wJ _ _ _ | exact⟨rfl,fun x hx=>by simp at hx,fun hp=>absurd hp (by omega)⟩ | exact⟨rfl,fun hp=>absurd hp (by omega)⟩
 ·first | exact⟨Nat.le_refl _,Nat.le_refl _⟩ | simp
theorem rO (L:List aY)(i:Nat)(m:aY):(L.set i m).map aY.e=(L.map aY.e).set i m.e:=List.map_set
theorem bG2 (H:Nat)(X:Nat->Prop)(ob g n:Nat)(B:Nat->Blk)(tb tn tc:Nat)(L:List aY)(i:Nat)(m:aY)(a:aM)(ba:Option Addr)(bn bc:Nat)(w:World)(h:PSt H X w ob g n B (some ⟨tb,0,none⟩) tn tc L)(hm:L[i]? =some m)(hok:aR n B (L.map aY.e))(hao:a.ok)(hk:a.kind=1):
 Calls Tryz.prog 20 #[.pointer (some ⟨ob,0,none⟩),.pointer (some ⟨tb,i*3,none⟩),.agg #[.int .i64 a.kind,.string a.set,.string a.file,.string a.to,.int .i64 a.pos,.int .i64 a.num,.slice ba bn bc]] w fun e w'=>uR H X w ob n B tb tn tc L i m a e w':=by
 have hob:=aE6 w a ba bn bc
 have hmT:m.e∈L.map aY.e:=List.mem_map.2 ⟨m,List.mem_of_getElem? hm,rfl⟩
 have hT:=hok.tens _ hmT
 have hml:(m.ms.map (·.x)).length=m.sn:=(h.sets hm).1
 have h3:m.sn<=3:=by have:=hT.few; rw[<-hml]; exact this
 have ho:(m.ms.map (·.x)).Pairwise fun a b=>a.nm<b.nm:=hT.order
 have h0:=hid (h.boxed hob)
 have hka:(a.kind == 1)=true:=by simp[hk]
 unfold bY6 cI5 at hob
 replace hob:=hid hob
 replace h:=hid h
 replace hk:=hid hk
 replace ho:=hid ho
 replace hml:=hid hml
 replace hm:=hid hm
 clear hT hmT
 go_enter Tryz.func20,Tryz.ntmps20
 go_upto_region 1 with fail
 generalize (w.alloc (.cells #[.int .i64 a.kind,.string a.set,.string a.file,.string a.to,.int .i64 a.pos,.int .i64 a.num,.slice ba bn bc] 30)).alloc (.cells #[.int .i64 0,.int .i64 0,.slice none 0 0,.slice none 0 0] 41)=w0 at *
 have a0:=hob.out.bA.cell 0
 have a1:=hob.out.bA.cell 1
 simp only[List.getElem?_toArray,List.getElem?_cons_zero,List.getElem?_cons_succ] at a0 a1
 go_wp2_with fail
 refine(xA H (YB X (w.heap.size+1)) ob g n B tb tn tc L i m ⟨a.set,none,0,0,none,0,0⟩ ⟨a.set,[],[]⟩ w0 h0.out hm.out ho.out h3 (bT4 hao.1.1)).mono ?_
 have hH:=h.out.mine.sz
 rintro e w1 (⟨e', rfl,he,b1,hno⟩ | ⟨rfl,hNm,hlt3,bH,a', c', p,hF,hPS,on,hR⟩)
 ·have hob1:=hob.out.below b1
  have q0:=hob1.bR.cell 0
  have q1:=hob1.bR.cell 1
  have q2:=hob1.bR.cell 2
  have q3:=hob1.bR.cell 3
  have z0:=hob1.bR.frozen 0
  have z1:=hob1.bR.frozen 1
  have z2:=hob1.bR.frozen 2
  have z3:=hob1.bR.frozen 3
  simp only[List.getElem?_toArray,List.getElem?_cons_zero,List.getElem?_cons_succ] at q0 q1 q2 q3
  replace hno:=hid hno
  replace b1:=hid b1
  replace hob1:=hid hob1
  clear a0 a1
  go_wp2_with fail
  refine bodyPost_ret (v:=.agg #[.int .i64 e', .int .i64 0,.slice none 0 0,.slice none 0 0]) (results_cell_row rfl _ _ (w.heap.size+1) _ _ _ _ rfl (dM hob1.out.bR e' 0 none 0 0 none 0 0) Tryz.underlying41 rfl (by kernel_rfl)) rfl ?_
  exact pU h.out (h0.out.below b1.out) ((Below.tr hob.out.bel b1.out).mono hH) ((Only.of_below hob.out.bel).trans (Only.of_below b1.out)) hob1.out.bR (.noadd e' hk.out he hno.out) (lM (by have:=hk.out; omega)) (.inl ⟨rfl,rfl⟩)
 ·have hnr:¬fC (.slice (some ⟨tb,0,none⟩) tn tc) L tn (w.heap.size+1):=fun f=>by have:=(h.out.mine.ge f).2; omega
  have kR:=on.cells hob.out.bR hnr
  have q0:=kR.cell 0
  have q1:=kR.cell 1
  have q2:=kR.cell 2
  have q3:=kR.cell 3
  have z0:=kR.frozen 0
  have z1:=kR.frozen 1
  have z2:=kR.frozen 2
  have z3:=kR.frozen 3
  simp only[List.getElem?_toArray,List.getElem?_cons_zero,List.getElem?_cons_succ] at q0 q1 q2 q3
  replace hPS:=hid hPS
  replace on:=hid on
  replace hF:=hid hF
  replace bH:=hid bH
  replace kR:=hid kR
  clear a0 a1 hR hnr
  go_wp2_with fail
  refine bodyPost_ret (v:=.agg #[.int .i64 0,.int .i64 0,.slice none 0 0,.slice none 0 0]) (results_cell_row rfl _ _ (w.heap.size+1) _ _ _ _ rfl (dM kR.out 0 0 none 0 0 none 0 0) Tryz.underlying41 rfl (by kernel_rfl)) rfl ?_
  refine pU h.out hPS.out ((hob.out.bel.mono hH).trans bH.out) ((Only.of_below hob.out.bel).trans (on.out.mono (fun b _ q=>.inr q))) kR.out ?_ (lM (by have:=hk.out; omega)) (.inl ⟨rfl,rfl⟩)
  rw[rO]
  have e:aY.e { m with sa:=a', sn:=m.sn+1,sc:=c', ms:=m.ms.take p++⟨⟨a.set,none,0,0,none,0,0⟩,⟨a.set,[],[]⟩⟩::m.ms.drop p }=⟨m.e.key,m.e.quota,m.e.sets.take p++⟨a.set,[],[]⟩::m.e.sets.drop p⟩:=by
   simp[aY.e,List.map_take,List.map_drop]
  rw[e]
  exact .add p hk.out hNm (by show (m.ms.map (·.x)).length<3; rw[hml.out]; exact hlt3) hF.out
theorem bI3 (H:Nat)(X:Nat->Prop)(ob g n:Nat)(B:Nat->Blk)(tb tn tc:Nat)(L:List aY)(i:Nat)(m:aY)(a:aM)(ba:Option Addr)(bn bc:Nat)(w:World)(h:PSt H X w ob g n B (some ⟨tb,0,none⟩) tn tc L)(hm:L[i]? =some m)(hok:aR n B (L.map aY.e))(hao:a.ok)(hB:aI (fun _=>True) .u8 w ba bn a.bytes)(hk:a.kind=13):
 Calls Tryz.prog 20 #[.pointer (some ⟨ob,0,none⟩),.pointer (some ⟨tb,i*3,none⟩),.agg #[.int .i64 a.kind,.string a.set,.string a.file,.string a.to,.int .i64 a.pos,.int .i64 a.num,.slice ba bn bc]] w fun e w'=>uR H X w ob n B tb tn tc L i m a e w':=by
 have hob:=aE6 w a ba bn bc
 have hmT:m.e∈L.map aY.e:=List.mem_map.2 ⟨m,List.mem_of_getElem? hm,rfl⟩
 have hmI:(L.map aY.e)[i]? =some m.e:=by rw[List.getElem?_map,hm]; rfl
 have hT:=hok.tens _ hmT
 have hml:(m.ms.map (·.x)).length=m.sn:=(h.sets hm).1
 have h3:m.sn<=3:=by have:=hT.few; rw[<-hml]; exact this
 have ho:(m.ms.map (·.x)).Pairwise fun a b=>a.nm<b.nm:=hT.order
 have hH:=h.mine.sz
 have hby:Hid (Bytes a.bytes):=hid hB.bytes
 have h0:=hid (h.boxed hob)
 obtain⟨hi,hmi⟩:=List.getElem?_eq_some_iff.1 hm
 have hl:=h.mine.len
 have hcaps:=oK (h.mine.own i m hm (by omega))
 have hnm:=h.mine.nums m (List.mem_of_getElem? hm)
 unfold bY6 cI5 at hob
 replace hob:=hid hob
 replace h:=hid h
 replace ho:=hid ho
 replace hml:=hid hml
 replace hm:=hid hm
 replace hT:=hid hT
 replace hok:=hid hok
 replace hmI:=hid hmI
 replace hB:=hid hB
 replace hmi:=hid hmi
 replace hl:=hid hl
 replace hi:=hid hi
 replace hcaps:=hid hcaps
 replace hnm:=hid hnm
 clear hmT
 have hka:(a.kind == 1)=false:=by simp[hk]
 have hkb:(a.kind == 13)=true:=by simp[hk]
 replace hk:=hid hk
 go_enter Tryz.func20,Tryz.ntmps20
 go_upto_region 1 with fail
 generalize (w.alloc (.cells #[.int .i64 a.kind,.string a.set,.string a.file,.string a.to,.int .i64 a.pos,.int .i64 a.num,.slice ba bn bc] 30)).alloc (.cells #[.int .i64 0,.int .i64 0,.slice none 0 0,.slice none 0 0] 41)=w0 at *
 have a0:=hob.out.bA.cell 0
 have a1:=hob.out.bA.cell 1
 simp only[List.getElem?_toArray,List.getElem?_cons_zero,List.getElem?_cons_succ] at a0 a1
 have o0:=h0.out.box.cell 0
 simp at o0
 have lo:=h0.out.box.lt
 obtain⟨t0,t1,t2,tf,lt⟩:=h0.out.ten hm.out
 have la:=hob.out.bA.lt
 have n0:ob≠w.heap.size+1:=by have:=h.out.box.lt; omega
 have n0':=n0.symm
 have n1:tb≠w.heap.size+1:=by have:=(h.out.mine.row.lt tb rfl).2; omega
 have n1':=n1.symm
 have n2:w.heap.size≠w.heap.size+1:=by omega
 have n2':=n2.symm
 obtain⟨SL,hSL⟩:∃ SL,SL=m.ms.map (·.x):=⟨_,rfl⟩
 have hTok:Hid (lD n B ⟨m.key,m.quota,SL⟩):=hid (by rw[hSL]; exact hT.out)
 have hst:Hid (aO w0.drew (some ⟨g,0,none⟩) n B):=hid (h0.out.own.store.below (aD _ _))
 have hTen:Hid (sK (fun _=>True) w0.drew ⟨m.key,m.quota,SL⟩ m.sa m.sn m.sc):=hid ⟨by rw[hSL]; exact(h0.out.sets hm.out).below (aD _ _),hnm.out.1,hnm.out.2,hcaps.out⟩
 replace hSL:=hid hSL
 have hbel:Hid (∀ w', Below w0.heap.size w0 w'->OB w w' a ba bn bc):=hid (fun w' b=>hob.out.below b)
 go_upto_region 5 with fail
 go_region_held3 (fun w'=>w'.cell? ⟨ob,0,none⟩=some (.slice (some ⟨g,0,none⟩) n n)/\w'.cell? ⟨tb,i*3,none⟩=some (.int .i64 m.key)/\w'.cell? ⟨tb,i*3+1,none⟩=some (.int .i64 m.quota)/\w'.cell? ⟨tb,i*3+2,none⟩=some (.slice m.sa m.sn m.sc)) (first | go_keep | assumption) (first | (go_at_call 26; refine Calls.mono (mX (fun _=>True) (some ⟨g,0,none⟩) n n B ⟨m.key,m.quota,SL⟩ m.sa m.sn m.sc _ hst.out hTen.out hok.out.right hTok.out) ?_; rintro e w8 ⟨⟨xa,xn,xc,xl,rfl,hN8,hRi,hmem⟩,b8⟩; replace b8:Below w0.heap.size w0 w8:=(aD _ _).trans b8; have s0:=(b8.cell (p:=⟨ob,0,none⟩) lo).trans o0; have s1:=(b8.cell (p:=⟨tb,i*3,none⟩) lt).trans t0; have s2:=(b8.cell (p:=⟨tb,i*3+1,none⟩) lt).trans t1; have s3:=(b8.cell (p:=⟨tb,i*3+2,none⟩) lt).trans t2; have hob8:=hbel.out w8 b8; have q0:=hob8.bR.cell 0; have q1:=hob8.bR.cell 1; have q2:=hob8.bR.cell 2; have q3:=hob8.bR.cell 3; have z0:=hob8.bR.frozen 0; have z1:=hob8.bR.frozen 1; have z2:=hob8.bR.frozen 2; have z3:=hob8.bR.frozen 3; simp only[List.getElem?_toArray,List.getElem?_cons_zero,List.getElem?_cons_succ] at q0 q1 q2 q3; replace hN8:=hid hN8; replace hRi:=hid hRi; replace hmem:=hid hmem; replace hob8:=hid hob8; replace b8:=hid b8))
 all_goals (
  have hxl:=hid hN8.out.1
  go_wp2_with fail
  refine bodyPost_ret (v:=.agg #[.int .i64 0,.int .i64 xn,.slice none 0 0,.slice none 0 0]) (results_cell_row rfl _ _ (w.heap.size+1) _ _ _ _ rfl (dM hob8.out.bR 0 xn none 0 0 none 0 0) Tryz.underlying41 rfl (by kernel_rfl)) rfl ?_
  exact pU h.out (h0.out.below b8.out) (hob8.out.bel.mono hH) (Only.of_below hob8.out.bel) hob8.out.bR (.uses (xn:Int) hk.out ⟨xl,hRi.out,by have:=hmem.out; rw[hSL.out] at this; exact this,by rw[hxl.out]⟩) (lM (by have:=hk.out; omega)) (.inl ⟨rfl,rfl⟩))
def cL4 (W wc:World)(B:Nat->Blk)(key:Int)(x:aK)(a:aM)(v9 v10:Value):Prop:=∃ (a9:Nat) (e1 N:Int) (ya:Option Addr) (yn yc:Nat) (y:Option Addr) (ln lc:Nat) (e':Int),v9=.pointer (some ⟨a9,0,none⟩)/\v10=.int .i64 e'/\aC wc a9 #[.int .i64 e1,.int .i64 N,.slice ya yn yc,.slice y ln lc] 41/\Below W.heap.size W wc/\W.heap.size<=a9/\((a.kind=11\/a.kind=12)->e'=0/\aD2 W.heap.size wc B key x a e1 N ya yn yc y ln lc)
theorem cB4 {W w6:World}{B:Nat->Blk}{key:Int}{x:aK}{a:aM}{e1 N:Int}{ya:Option Addr}{yn yc:Nat}{y:Option Addr}{ln lc:Nat}{e':Int}{base:Nat}(bb:Below W.heap.size W w6)(hr:(a.kind=11\/a.kind=12)->e'=0/\aD2 base w6 B key x a e1 N ya yn yc y ln lc)(hb:W.heap.size<=base):cL4 W (w6.alloc (.cells #[.int .i64 e1,.int .i64 N,.slice ya yn yc,.slice y ln lc] 41)) B key x a (.pointer (some ⟨w6.heap.size,0,none⟩)) (.int .i64 e'):=
 ⟨_,e1,N,ya,yn,yc,y,ln,lc,e', rfl,rfl,aB w6 _ _,Below.tr bb (aA _ _),bb.size,fun f=>⟨(hr f).1,(hr f).2.below (aA _ _) hb⟩⟩
theorem cB5 {W w6:World}{B:Nat->Blk}{key:Int}{x:aK}{a:aM}{e1 N:Int}{ya:Option Addr}{yn yc:Nat}{y:Option Addr}{ln lc:Nat}{e':Int}{g base:Nat}{c0 c1 c2 c3:Value}(ka:aC w6 g #[c0,c1,c2,c3] 41)(ha:W.heap.size<=g)(hgb:g<base)(bb:Below W.heap.size W w6)(hr:(a.kind=11\/a.kind=12)->e'=0/\aD2 base w6 B key x a e1 N ya yn yc y ln lc):cL4 W (cF6 w6 g e1 N ya yn yc y ln lc) B key x a (.pointer (some ⟨g,0,none⟩)) (.int .i64 e'):=
 ⟨g,e1,N,ya,yn,yc,y,ln,lc,e', rfl,rfl,dM ka e1 N ya yn yc y ln lc,bb.trans ((dL _ _ _ _ _ _ _ _ _ _).below ha),ha,fun f=>⟨(hr f).1,(hr f).2.kept (dL _ _ _ _ _ _ _ _ _ _) hgb (by omega)⟩⟩
abbrev bO8:Obj:=.cells #[.int .i64 0,.int .i64 0,.slice none 0 0,.slice none 0 0] 41
abbrev cG3 (w:World)(sa:Option Addr)(n sc:Nat)(key quota:Int)(ta:Option Addr)(tn tc:Nat)(a:aM)(ba:Option Addr)(bn bc:Nat):World:=
 (((w.alloc (.cells #[.slice sa n sc] 24)).alloc (.cells #[.int .i64 key,.int .i64 quota,.slice ta tn tc] 64)).alloc (.cells #[.int .i64 a.kind,.string a.set,.string a.file,.string a.to,.int .i64 a.pos,.int .i64 a.num,.slice ba bn bc] 30)).alloc bO8
structure KB (W wr:World)(sa:Option Addr)(n sc:Nat)(key quota:Int)(ta:Option Addr)(tn tc:Nat)(a:aM)(ba:Option Addr)(bn bc:Nat):Prop where
 bel:Below W.heap.size W wr
 bS:aC wr W.heap.size #[.slice sa n sc] 24
 bT:aC wr (W.heap.size+1) #[.int .i64 key,.int .i64 quota,.slice ta tn tc] 64
 bA:aC wr (W.heap.size+1+1) #[.int .i64 a.kind,.string a.set,.string a.file,.string a.to,.int .i64 a.pos,.int .i64 a.num,.slice ba bn bc] 30
 r8:aC wr (W.heap.size+1+1+1) #[.int .i64 0,.int .i64 0,.slice none 0 0,.slice none 0 0] 41
theorem KB.below {W wr w':World}{sa:Option Addr}{n sc:Nat}{key quota:Int}{ta:Option Addr}{tn tc:Nat}{a:aM}{ba:Option Addr}{bn bc:Nat}(h:KB W wr sa n sc key quota ta tn tc a ba bn bc)(b:Below wr.heap.size wr w'):KB W w' sa n sc key quota ta tn tc a ba bn bc:=⟨Below.tr h.bel b,h.bS.below b,h.bT.below b,h.bA.below b,h.r8.below b⟩
theorem cA5 (w:World)(sa:Option Addr)(n sc:Nat)(key quota:Int)(ta:Option Addr)(tn tc:Nat)(a:aM)(ba:Option Addr)(bn bc:Nat):KB w (cG3 w sa n sc key quota ta tn tc a ba bn bc) sa n sc key quota ta tn tc a ba bn bc:=by
 have h1:=aB w #[.slice sa n sc] 24
 have h2:=aB (w.alloc (.cells #[.slice sa n sc] 24)) #[.int .i64 key,.int .i64 quota,.slice ta tn tc] 64
 have h3:=aB ((w.alloc (.cells #[.slice sa n sc] 24)).alloc (.cells #[.int .i64 key,.int .i64 quota,.slice ta tn tc] 64)) #[.int .i64 a.kind,.string a.set,.string a.file,.string a.to,.int .i64 a.pos,.int .i64 a.num,.slice ba bn bc] 30
 have h4:=aB (((w.alloc (.cells #[.slice sa n sc] 24)).alloc (.cells #[.int .i64 key,.int .i64 quota,.slice ta tn tc] 64)).alloc (.cells #[.int .i64 a.kind,.string a.set,.string a.file,.string a.to,.int .i64 a.pos,.int .i64 a.num,.slice ba bn bc] 30)) #[.int .i64 0,.int .i64 0,.slice none 0 0,.slice none 0 0] 41
 simp only[aJ2] at h2 h3 h4
 exact⟨bAl (bAl (bAl (bAl (Below.refl _ w) _) _) _) _,((h1.below (aA _ _)).below (aA _ _)).below (aA _ _),(h2.below (aA _ _)).below (aA _ _),h3.below (aA _ _),h4⟩
def cK9 (base:Nat)(w:World)(B:Nat->Blk)(key:Int)(x:aK)(a:aM)(e:Ending):Prop:=∃ (e' N:Int) (ya:Option Addr) (yn yc:Nat) (y:Option Addr) (ln lc:Nat),e=.returned (.agg #[.int .i64 e', .int .i64 N,.slice ya yn yc,.slice y ln lc])/\((a.kind=11\/a.kind=12)->aD2 base w B key x a e' N ya yn yc y ln lc)
theorem aL0 (sa:Option Addr)(n sc:Nat)(B:Nat->Blk)(t:aP)(ta:Option Addr)(tn tc k:Nat)(x:aK)(a:aM)(ba:Option Addr)(bn bc:Nat)(w:World)(hs:aO w sa n B)(hT:fQ (fun _=>True) w ta tn t.sets)(hk:t.sets[k]? =some x)(hx:bD n B t.key x):
 Calls Tryz.prog 37 #[.agg #[.slice sa n sc],.agg #[.int .i64 t.key,.int .i64 t.quota,.slice ta tn tc],.int .i64 k,.agg #[.int .i64 a.kind,.string a.set,.string a.file,.string a.to,.int .i64 a.pos,.int .i64 a.num,.slice ba bn bc]] w fun e w'=>cK9 w.heap.size w' B t.key x a e/\Below w.heap.size w w':=by
 have hkb:=cA5 w sa n sc t.key t.quota ta tn tc a ba bn bc
 unfold cG3 bO8 at hkb
 obtain⟨hkl,hkx⟩:=List.getElem?_eq_some_iff.1 hk
 have hks:k<tn:=by rw[<-hT.1]; exact hkl
 replace hkb:=hid hkb
 replace hs:=hid hs
 replace hT:=hid hT
 replace hx:=hid hx
 go_enter Tryz.func37,Tryz.ntmps37
 go_upto_region 1 with fail
 generalize (((w.alloc (.cells #[.slice sa n sc] 24)).alloc (.cells #[.int .i64 t.key,.int .i64 t.quota,.slice ta tn tc] 64)).alloc (.cells #[.int .i64 a.kind,.string a.set,.string a.file,.string a.to,.int .i64 a.pos,.int .i64 a.num,.slice ba bn bc] 30)).alloc (.cells #[.int .i64 0,.int .i64 0,.slice none 0 0,.slice none 0 0] 41)=w0 at *
 have hT0:=hT.out.below hkb.out.bel
 obtain⟨rb,ro,hta⟩:∃ b off,ta=some ⟨b,off,none⟩:=by
  obtain⟨b,off,e,_⟩:=hT0.2 (by omega)
  exact⟨b,off,e⟩
 subst hta
 obtain⟨v,hI⟩:=hT0.set hks
 have hgd:t.sets.getD k aK.zero=x:=by rw[<-hkx]; simp[List.getD,hkl]
 rw[hgd] at hI
 have r0:=hI.c0
 have r1:=hI.c1
 have r2:=hI.c2
 have lr:rb<w0.heap.size:=eZ r0
 have hse:Hid (∀ w', Below w0.heap.size w0 w'->dN (fun _=>True) w' v x):=hid (fun w' b=>hI.ok.below b)
 have hst:Hid (∀ w', Below w0.heap.size w0 w'->aO w' sa n B):=hid (fun w' b=>(hs.out.below hkb.out.bel).below b)
 have o0:=hkb.out.bS.cell 0
 have t0:=hkb.out.bT.cell 0
 have t2:=hkb.out.bT.cell 2
 have a0:=hkb.out.bA.cell 0
 have a1:=hkb.out.bA.cell 1
 have a2:=hkb.out.bA.cell 2
 have a3:=hkb.out.bA.cell 3
 have a4:=hkb.out.bA.cell 4
 have a5:=hkb.out.bA.cell 5
 have a6:=hkb.out.bA.cell 6
 simp at o0 t0 t2 a0 a1 a2 a3 a4 a5 a6
 have lo:=hkb.out.bS.lt
 have lt:=hkb.out.bT.lt
 have la:=hkb.out.bA.lt
 have HB1:=hid (bDr (Below.refl _ w0))
 have HB2:=hid (bDr (bAl (Below.refl _ w0) bO8))
 have HZ2:Hid ((w0.alloc bO8).drew.heap.size=w0.heap.size+1):=hid (by show (w0.alloc bO8).heap.size=_; simp)
 have ka2:=hid ((aB w0 #[.int .i64 0,.int .i64 0,.slice none 0 0,.slice none 0 0] 41).below (aD _ _))
 have n0:=Nat.ne_of_lt lo
 have n1:=Nat.ne_of_lt lt
 have n2:=Nat.ne_of_lt la
 have n3:=Nat.ne_of_lt lr
 have n0':=n0.symm
 have n1':=n1.symm
 have n2':=n2.symm
 have n3':=n3.symm
 have hk0:(0:Int)<=(k:Int):=by omega
 have hksI:(k:Int)<(tn:Int):=by omega
 clear hT0 hI hgd hkx hk
 go_cut [9,10] from 24 (fun v9 v10 wc=>cL4 w0 wc B t.key x a v9 v10)
 case first=>
  go_region_held3 (fun w'=>w'.cell? ⟨w.heap.size,0,none⟩=some (.slice sa n sc)/\w'.cell? ⟨w.heap.size+1,0,none⟩=some (.int .i64 t.key)/\w'.cell? ⟨w.heap.size+1,2,none⟩=some (.slice (some ⟨rb,ro,none⟩) tn tc)/\w'.cell? ⟨rb,ro+k*3,none⟩=some (.string v.name)/\w'.cell? ⟨rb,ro+k*3+1,none⟩=some (.slice v.fa v.fn v.fc)/\w'.cell? ⟨rb,ro+k*3+2,none⟩=some (.slice v.sa v.sn v.sc)/\w'.cell? ⟨w.heap.size+1+1,0,none⟩=some (.int .i64 a.kind)/\w'.cell? ⟨w.heap.size+1+1,1,none⟩=some (.string a.set)/\w'.cell? ⟨w.heap.size+1+1,2,none⟩=some (.string a.file)/\w'.cell? ⟨w.heap.size+1+1,3,none⟩=some (.string a.to)/\w'.cell? ⟨w.heap.size+1+1,4,none⟩=some (.int .i64 a.pos)/\w'.cell? ⟨w.heap.size+1+1,5,none⟩=some (.int .i64 a.num)/\w'.cell? ⟨w.heap.size+1+1,6,none⟩=some (.slice ba bn bc)) (first | go_keep | assumption) (first | (go_at_call 69; refine Calls.mono (bZ8 (fun _=>True) sa n sc B t.key v x a ba bn bc _ ?_ ?_ hx.out) ?_; (first | with_reducible exact hst.out _ HB1.out | with_reducible exact hst.out _ HB2.out); (first | with_reducible exact hse.out _ HB1.out | with_reducible exact hse.out _ HB2.out); rintro e w6 ⟨⟨e1,N,ya,yn,yc,y,ln,lc,e', rfl,h6r⟩,b6⟩; (first | (with_reducible have bb:=hid (Below.tr HB1.out b6)) | (with_reducible have bb:=hid (Below.tr HB2.out b6); have ka:=hid (ka2.out.below b6); rw[HZ2.out] at h6r; have cka0:=ka.out.cell 0; have cka1:=ka.out.cell 1; have cka2:=ka.out.cell 2; have cka3:=ka.out.cell 3; have fka0:=ka.out.frozen 0; have fka1:=ka.out.frozen 1; have fka2:=ka.out.frozen 2; have fka3:=ka.out.frozen 3; simp at cka0 cka1 cka2 cka3)); have z0:=(bb.out.cell (p:=⟨w.heap.size,0,none⟩) lo).trans o0; have z1:=(bb.out.cell (p:=⟨w.heap.size+1,0,none⟩) lt).trans t0; have z2:=(bb.out.cell (p:=⟨w.heap.size+1,2,none⟩) lt).trans t2; have z3:=(bb.out.cell (p:=⟨rb,ro+k*3,none⟩) lr).trans r0; have z4:=(bb.out.cell (p:=⟨rb,ro+k*3+1,none⟩) lr).trans r1; have z5:=(bb.out.cell (p:=⟨rb,ro+k*3+2,none⟩) lr).trans r2; have y0:=(bb.out.cell (p:=⟨w.heap.size+1+1,0,none⟩) la).trans a0; have y1:=(bb.out.cell (p:=⟨w.heap.size+1+1,1,none⟩) la).trans a1; have y2:=(bb.out.cell (p:=⟨w.heap.size+1+1,2,none⟩) la).trans a2; have y3:=(bb.out.cell (p:=⟨w.heap.size+1+1,3,none⟩) la).trans a3; have y4:=(bb.out.cell (p:=⟨w.heap.size+1+1,4,none⟩) la).trans a4; have y5:=(bb.out.cell (p:=⟨w.heap.size+1+1,5,none⟩) la).trans a5; have y6:=(bb.out.cell (p:=⟨w.heap.size+1+1,6,none⟩) la).trans a6; replace b6:=hid b6; replace h6r:=hid h6r))
  all_goals (go_wp2_with fail; go_meet; first
   | exact cB4 bb.out h6r.out (by first | exact Nat.le_refl _ | exact Nat.le_succ _)
   | exact cB5 (g:=w0.heap.size) ka.out (Nat.le_refl _) (Nat.lt_succ_self _) bb.out h6r.out)
 case rest=>
  obtain⟨a9,e1,N,ya,yn,yc,y,ln,lc,e', rfl,rfl,k9,bC,h9,h6r⟩:=hcut
  replace h6r:=hid h6r
  have hsw0:Hid (w.heap.size+1+1+1<w0.heap.size):=hid hkb.out.r8.lt
  replace hkb:=hid (hkb.out.below bC)
  clear o0 t0 t2 a0 a1 a2 a3 a4 a5 a6 r0 r1 r2 HB1 HB2 ka2 hse hst n0 n1 n2 n3 n0' n1' n2' n3' bC
  have q0:=hkb.out.r8.cell 0
  have q1:=hkb.out.r8.cell 1
  have q2:=hkb.out.r8.cell 2
  have q3:=hkb.out.r8.cell 3
  have z0:=hkb.out.r8.frozen 0
  have z1:=hkb.out.r8.frozen 1
  have z2:=hkb.out.r8.frozen 2
  have z3:=hkb.out.r8.frozen 3
  have c0:=k9.cell 0
  have c1:=k9.cell 1
  have c2:=k9.cell 2
  have c3:=k9.cell 3
  simp at q0 q1 q2 q3 c0 c1 c2 c3
  by_cases he:e'=0
  ·have he':(e' == 0)=true:=by simp[he]
   replace he:=hid he
   go_wp2_with fail
   refine bodyPost_ret (v:=.agg #[.int .i64 e1,.int .i64 N,.slice ya yn yc,.slice y ln lc]) ?_ rfl ?_
   ·exact results_cell_row rfl _ _ (w.heap.size+1+1+1) _ _ _ _ rfl (dM hkb.out.r8 e1 N ya yn yc y ln lc) Tryz.underlying41 rfl (by kernel_rfl)
   ·exact⟨⟨_,_,_,_,_,_,_,_,rfl,fun f=>(h6r.out f).2.kept (dL _ _ _ _ _ _ _ _ _ _) (by have:=hsw0.out; omega) (by have:=hsw0.out; omega)⟩,hkb.out.bel.trans ((dL _ _ _ _ _ _ _ _ _ _).below (by omega))⟩
  ·have he':(e' == 0)=false:=by simp[he]
   go_wp2_with fail
   refine bodyPost_ret (v:=.agg #[.int .i64 e', .int .i64 0,.slice none 0 0,.slice none 0 0]) ?_ rfl ?_
   ·exact results_cell_row rfl _ _ (w.heap.size+1+1+1) _ _ _ _ rfl (dM hkb.out.r8 e' 0 none 0 0 none 0 0) Tryz.underlying41 rfl (by kernel_rfl)
   ·exact⟨⟨_,_,_,_,_,_,_,_,rfl,fun f=>absurd (h6r.out f).1 he⟩,hkb.out.bel.trans ((dL _ _ _ _ _ _ _ _ _ _).below (by omega))⟩
end Go.Proofs.YtjafgnohlkkopaaGreatDoor
