import Derived.Test.YtjafgnohlkkopaaGreatDoorPart29
import Derived.Test.YtjafgnohlkkopaaGreatDoorPart25
import Derived.Test.YtjafgnohlkkopaaGreatDoorPart27
import Derived.Test.YtjafgnohlkkopaaGreatDoorPart22
set_option linter.unusedVariables false
set_option maxHeartbeats 8000000
set_option maxRecDepth 100000
namespace Go.Proofs.YtjafgnohlkkopaaGreatDoor
open Go.RowKit
def fileOf (x:aK)(nm:List UInt8):Option Ent:=x.files.find? (fun f=>f.nm == nm)
def bO7 (a:aP):Prop:=(0<=a.pos/\a.pos<=256)/\(0<=a.num/\a.num<=256)
instance (a:aP):Decidable (bO7 a):=by unfold bO7; infer_instance
def zJ (x:aK)(a:aP):Int:=if a.kind=12 then 0 else match fileOf x a.file.data.toList with | none=>5 | some _=>if bO7 a then 0 else 3
def zI (x:aK)(a:aP):Int:=if a.kind=12 then (x.files.length:Int) else match fileOf x a.file.data.toList with | none=>0 | some f=>if bO7 a then f.size else 0
def vB (x:aK)(a:aP):List ByteArray:=if a.kind=12 then x.files.map (·.name) else []
def vC (B:Nat->Blk)(key:Int)(x:aK)(a:aP):List Int:=if a.kind=12 then [] else match fileOf x a.file.data.toList with | none=>[] | some f=>if bO7 a then nS (aR key (aH B 3 f.root)) f.size.toNat a.pos.toNat a.num.toNat else []
theorem aW3 {x:aK}{nm:List UInt8}(h:¬∃ f∈x.files,f.nm=nm):fileOf x nm=none:=by
 unfold fileOf
 rw[List.find?_eq_none]
 intro f hf
 simp only[beq_iff_eq]
 exact fun e=>h ⟨f,hf,e⟩
theorem aW2 {x:aK}{nm:List UInt8}{f:Ent}(ho:x.files.Pairwise fun a b=>a.nm<b.nm)(hf:f∈x.files)(hn:f.nm=nm):fileOf x nm=some f:=by
 unfold fileOf
 cases h:x.files.find? (fun f=>f.nm == nm) with
 | none=>
   rw[List.find?_eq_none] at h
   have:=h f hf
   simp only[beq_iff_eq] at this
   exact absurd hn this
 | some g=>
   have h1:=List.find?_some h
   simp only[beq_iff_eq] at h1
   rw[xI Ent.nm ho (List.mem_of_find?_eq_some h) hf (h1.trans hn.symm)]
structure aD1 (base:Nat)(w:World)(B:Nat->Blk)(key:Int)(x:aK)(a:aP)(e1 N:Int)(ya:Option Addr)(yn yc:Nat)(y:Option Addr)(ln lc:Nat):Prop where
 e:e1=zJ x a
 n:N=zI x a
 names:gG (fun b=>base<=b) w ya yn (vB x a)
 bytes:aI (fun b=>base<=b) .u8 w y ln (vC B key x a)
 caps:yn<=yc/\ln<=lc
theorem aD1.map {base base':Nat}{w w':World}{B:Nat->Blk}{key:Int}{x:aK}{a:aP}{e1 N:Int}{ya:Option Addr}{yn yc:Nat}{y:Option Addr}{ln lc:Nat}(h:aD1 base w B key x a e1 N ya yn yc y ln lc)(hm:∀ l,aI (fun b=>base<=b) .u8 w y ln l->aI (fun b=>base'<=b) .u8 w' y ln l)(hs:∀ l,gG (fun b=>base<=b) w ya yn l->gG (fun b=>base'<=b) w' ya yn l):aD1 base' w' B key x a e1 N ya yn yc y ln lc:=
 ⟨h.e,h.n,hs _ h.names,hm _ h.bytes,h.caps⟩
theorem aD1.below {base base':Nat}{w w':World}{B:Nat->Blk}{key:Int}{x:aK}{a:aP}{e1 N:Int}{ya:Option Addr}{yn yc:Nat}{y:Option Addr}{ln lc:Nat}(h:aD1 base w B key x a e1 N ya yn yc y ln lc)(b:Below w.heap.size w w')(hb:base'<=base):aD1 base' w' B key x a e1 N ya yn yc y ln lc:=
 h.map (fun _ k=>(k.below b).weaken (fun _ _ q=>Nat.le_trans hb q)) (fun _ k=>(k.below b).weaken (fun _ _ q=>Nat.le_trans hb q))
theorem aD1.kept {base base' g:Nat}{w w':World}{B:Nat->Blk}{key:Int}{x:aK}{a:aP}{e1 N:Int}{ya:Option Addr}{yn yc:Nat}{y:Option Addr}{ln lc:Nat}(h:aD1 base w B key x a e1 N ya yn yc y ln lc)(k:Kept g w w')(hg:g<base)(hb:base'<=base):aD1 base' w' B key x a e1 N ya yn yc y ln lc:=
 h.map (fun _ l=>(l.kept (fun b q=>by omega) k).weaken (fun _ _ q=>Nat.le_trans hb q)) (fun _ l=>(l.kept (fun b q=>by omega) k).weaken (fun _ _ q=>Nat.le_trans hb q))
def cM6 (base:Nat)(w:World)(B:Nat->Blk)(key:Int)(x:aK)(a:aP)(e:Ending):Prop:=∃ (e' N:Int) (ya:Option Addr) (yn yc:Nat) (y:Option Addr) (ln lc:Nat),e=.returned (.agg #[.int .i64 e', .int .i64 N,.slice ya yn yc,.slice y ln lc])/\aD1 base w B key x a e' N ya yn yc y ln lc
theorem cJ5 {base:Nat}{w:World}{B:Nat->Blk}{key:Int}{x:aK}{a:aP}(hk:a.kind=11)(h:¬∃ f∈x.files,f.nm=a.file.data.toList):aD1 base w B key x a 5 0 none 0 0 none 0 0:=by
 have e:=aW3 h
 have k12:¬a.kind=12:=by omega
 refine⟨?_,?_,?_,?_,⟨Nat.le_refl _,Nat.le_refl _⟩⟩
 ·simp[zJ,k12,e]
 ·simp[zI,k12,e]
 ·simp only[vB,if_neg k12]; exact oJ _ _ _
 ·simp only[vC,if_neg k12,e]; exact dL _ _ _ _
theorem bZ9 {base:Nat}{w:World}{B:Nat->Blk}{key:Int}{x:aK}{a:aP}{f:Ent}(hk:a.kind=11)(h:fileOf x a.file.data.toList=some f)(hr:¬bO7 a):aD1 base w B key x a 3 0 none 0 0 none 0 0:=by
 have k12:¬a.kind=12:=by omega
 refine⟨?_,?_,?_,?_,⟨Nat.le_refl _,Nat.le_refl _⟩⟩
 ·simp[zJ,k12,h,hr]
 ·simp[zI,k12,h,hr]
 ·simp only[vB,if_neg k12]; exact oJ _ _ _
 ·simp only[vC,if_neg k12,h,if_neg hr]; exact dL _ _ _ _
theorem cO5 {base:Nat}{w:World}{B:Nat->Blk}{key:Int}{x:aK}{a:aP}{f:Ent}{y:Option Addr}{ln lc:Nat}(hk:a.kind=11)(h:fileOf x a.file.data.toList=some f)(hr:bO7 a)(hl:ln<=lc)(hN:aI (fun b=>base<=b) .u8 w y ln (nS (aR key (aH B 3 f.root)) f.size.toNat a.pos.toNat a.num.toNat)):aD1 base w B key x a 0 f.size none 0 0 y ln lc:=by
 have k12:¬a.kind=12:=by omega
 refine⟨?_,?_,?_,?_,⟨Nat.le_refl _,hl⟩⟩
 ·simp[zJ,k12,h,hr]
 ·simp[zI,k12,h,hr]
 ·simp only[vB,if_neg k12]; exact oJ _ _ _
 ·simp only[vC,if_neg k12,h,if_pos hr]; exact hN
theorem cJ6 {base:Nat}{w:World}{B:Nat->Blk}{key:Int}{x:aK}{a:aP}{y:Option Addr}{n:Nat}(hk:a.kind=12)(hn:x.files.length=n)(h:gG (fun b=>base<=b) w y n (x.files.map (·.name))):aD1 base w B key x a 0 (n:Int) y n n none 0 0:=by
 refine⟨?_,?_,?_,?_,⟨Nat.le_refl _,Nat.le_refl _⟩⟩
 ·simp[zJ,hk]
 ·simp[zI,hk,hn]
 ·simp only[vB,if_pos hk]; exact h
 ·simp only[vC,if_pos hk]; exact dL _ _ _ _
abbrev cH0 (w:World)(b:Nat)(e' N:Int)(ya:Option Addr)(yn yc:Nat)(y:Option Addr)(ln lc:Nat):World:=(((w.setCell ⟨b,0,none⟩ (.int .i64 e')).setCell ⟨b,1,none⟩ (.int .i64 N)).setCell ⟨b,2,none⟩ (.slice ya yn yc)).setCell ⟨b,3,none⟩ (.slice y ln lc)
theorem dM (w:World)(b:Nat)(e' N:Int)(ya:Option Addr)(yn yc:Nat)(y:Option Addr)(ln lc:Nat):Kept b w (cH0 w b e' N ya yn yc y ln lc):=Kept.setCell (g:=b) (Kept.setCell (g:=b) (Kept.setCell (g:=b) (Kept.setCell (g:=b) (Kept.refl _ _) (p:=⟨b,0,none⟩) rfl _) (p:=⟨b,1,none⟩) rfl _) (p:=⟨b,2,none⟩) rfl _) (p:=⟨b,3,none⟩) rfl _
theorem dN {w:World}{b:Nat}{c0 c1 c2 c3:Value}(h:aC w b #[c0,c1,c2,c3] 41)(e' N:Int)(ya:Option Addr)(yn yc:Nat)(y:Option Addr)(ln lc:Nat):aC (cH0 w b e' N ya yn yc y ln lc) b #[.int .i64 e', .int .i64 N,.slice ya yn yc,.slice y ln lc] 41:=by
 have k2:=(((h.set 0 (.int .i64 e')).set 1 (.int .i64 N)).set 2 (.slice ya yn yc)).set 3 (.slice y ln lc)
 simp only[List.setIfInBounds_toArray,List.set_cons_zero,List.set_cons_succ] at k2
 exact k2
theorem bZ8 (Q:Nat->Prop)(sa:Option Addr)(n sc:Nat)(B:Nat->Blk)(key:Int)(v:cB)(x:aK)(a:aP)(ba:Option Addr)(bn bc:Nat)(w:World)(hs:aN w sa n B)(hX:dK Q w v x)(hx:aV n B key x)(hk11:a.kind=11):
 Calls Tryz.prog 92 #[.agg #[.slice sa n sc],.int .i64 key,v.val,a.val ba bn bc] w fun e w'=>cM6 w.heap.size w' B key x a e/\Below w.heap.size w w':=by
 have hlb:=bB8 w sa n sc v a ba bn bc
 unfold bV1 at hlb
 replace hlb:=hid hlb
 have ho:=hid hx.files.order
 replace hk11:=hid hk11
 have hvn:v.fn<=6:=by rw[<-hX.files.1]; exact hx.files.few
 unfold aP.val cB.val
 replace hs:=hid hs
 replace hX:=hid hX
 replace hx:=hid hx
 go_enter Tryz.func92,Tryz.ntmps92
 go_wp2_with fail
 generalize (((w.alloc (.cells #[.slice sa n sc] 24)).alloc (.cells #[.string v.name,.slice v.fa v.fn v.fc,.slice v.sa v.sn v.sc] 84)).alloc (.cells #[.int .i64 a.kind,.string a.set,.string a.file,.string a.to,.int .i64 a.pos,.int .i64 a.num,.slice ba bn bc] 30)).alloc (.cells #[.int .i64 0,.int .i64 0,.slice none 0 0,.slice none 0 0] 41)=w0 at *
 refine(iR Q v.fa v.fn v.fc x.files a.file w0 (by omega) (hX.out.files.below hlb.out.bel) ho.out).mono ?_
 rintro e w1 ⟨⟨p,b,rfl,hF⟩,b1⟩
 replace hlb:=hid (hlb.out.below b1)
 clear b1
 have q0:=hlb.out.r8.cell 0
 have q1:=hlb.out.r8.cell 1
 have q2:=hlb.out.r8.cell 2
 have q3:=hlb.out.r8.cell 3
 have z0:=hlb.out.r8.frozen 0
 have z1:=hlb.out.r8.frozen 1
 have z2:=hlb.out.r8.frozen 2
 have z3:=hlb.out.r8.frozen 3
 simp at q0 q1 q2 q3
 cases b
 ·have hno:Hid (¬∃ f∈x.files,f.nm=a.file.data.toList):=hid (fun f=>by have:=(dI ho.out hF).2 f; cases this)
  clear hF
  go_wp2_with fail
  refine bodyPost_ret (v:=.agg #[.int .i64 5,.int .i64 0,.slice none 0 0,.slice none 0 0]) ?_ rfl ?_
  ·exact results_cell_row rfl _ _ (w.heap.size+1+1+1) _ _ _ _ rfl (dN hlb.out.r8 5 0 none 0 0 none 0 0) Tryz.underlying41 rfl (by kernel_rfl)
  ·exact⟨⟨_,_,_,_,_,_,_,_,rfl,cJ5 hk11.out hno.out⟩,hlb.out.bel.trans ((dM _ _ _ _ _ _ _ _ _ _).below (by omega))⟩
 ·obtain⟨hp,hpx⟩:=jR hF
  have hfo:Hid (fileOf x a.file.data.toList=some (x.files.getD p Ent.zero)):=hid (by
   have e:x.files.getD p Ent.zero=x.files[p]:=by simp[List.getD,hp]
   rw[e]
   exact aW2 ho.out (List.getElem_mem hp) hpx)
  have hfk:Hid (bQ n B key (x.files.getD p Ent.zero).root (x.files.getD p Ent.zero).size):=hid (by
   have e:x.files.getD p Ent.zero=x.files[p]:=by simp[List.getD,hp]
   rw[e]
   exact hx.out.files.files _ (List.getElem_mem hp))
  clear hpx hF q0 q1 q2 q3 z0 z1 z2 z3
  have hXe:=hX.out.files.below hlb.out.bel
  have hpv:p<v.fn:=by rw[<-hXe.1]; exact hp
  obtain⟨fb,fo,hfb⟩:∃ b off,v.fa=some ⟨b,off,none⟩:=by
   obtain⟨b,off,e,_⟩:=hXe.2.2 (by omega)
   exact⟨b,off,e⟩
  rw[hfb] at hXe
  have hA:=hXe.ent hpv
  generalize x.files.getD p Ent.zero=f at *
  have c1:=hA.c1
  have c2:=hA.c2
  have x1:=hlb.out.bX.cell 1
  have s0:=hlb.out.bS.cell 0
  have a4:=hlb.out.bA.cell 4
  have a5:=hlb.out.bA.cell 5
  simp at x1 s0 a4 a5
  rw[hfb] at x1
  have lS:=hlb.out.bS.lt
  have lA:=hlb.out.bA.lt
  have n1:=Nat.ne_of_lt lS
  have n2:=Nat.ne_of_lt lA
  have n1':=n1.symm
  have n2':=n2.symm
  replace hfb:=hid hfb
  clear hA hXe hp
  go_wp2_with fail
  have ba1:=aA w1 (.cells #[.int .i64 f.root,.int .i64 f.size] 104)
  have kf:=hid (aB w1 #[.int .i64 f.root,.int .i64 f.size] 104)
  replace hlb:=hid (hlb.out.below ba1)
  clear c1 c2 x1 s0 a4 a5 lS lA n1 n2 n1' n2' ba1
  generalize hW2:w1.alloc (.cells #[.int .i64 f.root,.int .i64 f.size] 104)=w2 at *
  replace hW2:=hid hW2
  refine(rV sa n sc B key f.root f.size a.pos a.num w2 (hs.out.below hlb.out.bel)).mono ?_
  rintro e w3 ⟨⟨hR,hW⟩,b3⟩
  have hsz2:=hid hlb.out.sz
  replace kf:=hid (kf.out.below b3)
  replace hlb:=hid (hlb.out.below b3)
  have f1:=kf.out.cell 1
  have q0:=hlb.out.r8.cell 0
  have q1:=hlb.out.r8.cell 1
  have q2:=hlb.out.r8.cell 2
  have q3:=hlb.out.r8.cell 3
  have z0:=hlb.out.r8.frozen 0
  have z1:=hlb.out.r8.frozen 1
  have z2:=hlb.out.r8.frozen 2
  have z3:=hlb.out.r8.frozen 3
  simp at f1 q0 q1 q2 q3
  have hr:=hW hfk.out
  rcases hR with⟨e', rfl,he,hno⟩ | ⟨y,ln,lc,rfl,_,hlc,hN⟩
  ·obtain rfl:e'=3:=by
    rcases hr with hr | hr
    ·exact absurd ⟨hfk.out,hr⟩ hno
    ·simpa using hr
   have hrn:Hid (¬bO7 a):=hid (fun hr=>hno ⟨hfk.out,hr⟩)
   clear hr hW hno he
   go_wp2_with fail
   refine bodyPost_ret (v:=.agg #[.int .i64 3,.int .i64 0,.slice none 0 0,.slice none 0 0]) ?_ rfl ?_
   ·exact results_cell_row rfl _ _ (w.heap.size+1+1+1) _ _ _ _ rfl (dN hlb.out.r8 3 0 none 0 0 none 0 0) Tryz.underlying41 rfl (by kernel_rfl)
   ·exact⟨⟨_,_,_,_,_,_,_,_,rfl,bZ9 hk11.out hfo.out hrn.out⟩,hlb.out.bel.trans ((dM _ _ _ _ _ _ _ _ _ _).below (by omega))⟩
  ·have hrn:Hid (bO7 a):=hid (by
    rcases hr with hr | hr
    ·exact hr
    ·simp at hr)
   replace hN:=hid hN
   clear hr hW
   go_wp2_with fail
   refine bodyPost_ret (v:=.agg #[.int .i64 0,.int .i64 f.size,.slice none 0 0,.slice y ln lc]) ?_ rfl ?_
   ·exact results_cell_row rfl _ _ (w.heap.size+1+1+1) _ _ _ _ rfl (dN hlb.out.r8 0 f.size none 0 0 y ln lc) Tryz.underlying41 rfl (by kernel_rfl)
   ·exact⟨⟨_,_,_,_,_,_,_,_,rfl,cO5 hk11.out hfo.out hrn.out hlc (((hN.out.weaken (R:=fun b=>w.heap.size+4<=b) (fun b _ h=>Nat.le_trans hsz2.out h)).kept (fun b h=>by omega) (dM _ _ _ _ _ _ _ _ _ _)).weaken (fun b _ h=>by omega))⟩,hlb.out.bel.trans ((dM _ _ _ _ _ _ _ _ _ _).below (by omega))⟩
def cV0 (base:Nat)(w:World)(B:Nat->Blk)(key:Int)(x:aK)(a:aP)(e:Ending):Prop:=∃ (e1 N:Int) (ya:Option Addr) (yn yc:Nat) (y:Option Addr) (ln lc:Nat) (e':Int),e=.returned (.tuple #[.agg #[.int .i64 e1,.int .i64 N,.slice ya yn yc,.slice y ln lc],.int .i64 e'])/\((a.kind=11\/a.kind=12)->e'=0/\aD1 base w B key x a e1 N ya yn yc y ln lc)
theorem cC0 (Q:Nat->Prop)(sa:Option Addr)(n sc:Nat)(B:Nat->Blk)(key:Int)(v:cB)(x:aK)(a:aP)(ba:Option Addr)(bn bc:Nat)(w:World)(hs:aN w sa n B)(hX:dK Q w v x)(hx:aV n B key x):
 Calls Tryz.prog 69 #[.agg #[.slice sa n sc],.int .i64 key,v.val,a.val ba bn bc] w fun e w'=>cV0 w.heap.size w' B key x a e/\Below w.heap.size w w':=by
 have hlb:=bB8 w sa n sc v a ba bn bc
 unfold bV1 at hlb
 replace hlb:=hid hlb
 unfold aP.val cB.val
 replace hs:=hid hs
 replace hX:=hid hX
 replace hx:=hid hx
 go_enter Tryz.func69,Tryz.ntmps69
 go_wp2_with fail
 generalize (((w.alloc (.cells #[.slice sa n sc] 24)).alloc (.cells #[.string v.name,.slice v.fa v.fn v.fc,.slice v.sa v.sn v.sc] 84)).alloc (.cells #[.int .i64 a.kind,.string a.set,.string a.file,.string a.to,.int .i64 a.pos,.int .i64 a.num,.slice ba bn bc] 30)).alloc (.cells #[.int .i64 0,.int .i64 0,.slice none 0 0,.slice none 0 0] 41)=w0 at *
 refine(uH Q sa n sc B key v x w0 (hs.out.below hlb.out.bel) (hX.out.below hlb.out.bel)).mono ?_
 rintro e w1 ⟨⟨e', rfl,he⟩,b1⟩
 obtain rfl:e'=0:=he.2 hx.out
 replace hlb:=hid (hlb.out.below b1)
 clear he b1
 have s0:=hlb.out.bS.cell 0
 have x0:=hlb.out.bX.cell 0
 have x1:=hlb.out.bX.cell 1
 have x2:=hlb.out.bX.cell 2
 have a0:=hlb.out.bA.cell 0
 have a1:=hlb.out.bA.cell 1
 have a2:=hlb.out.bA.cell 2
 have a3:=hlb.out.bA.cell 3
 have a4:=hlb.out.bA.cell 4
 have a5:=hlb.out.bA.cell 5
 have a6:=hlb.out.bA.cell 6
 simp at s0 x0 x1 x2 a0 a1 a2 a3 a4 a5 a6
 by_cases hk:a.kind=11
 ·have hk':(a.kind == 11)=true:=by simp[hk]
  replace hk:=hid hk
  go_wp2_with fail
  refine(bZ8 Q sa n sc B key v x a ba bn bc w1 (hs.out.below hlb.out.bel) (hX.out.below hlb.out.bel) hx.out hk.out).mono ?_
  rintro e w2 ⟨⟨e1,N,ya,yn,yc,y,ln,lc,rfl,hlk⟩,b2⟩
  have hsz2:=hid hlb.out.sz
  replace hlk:=hid hlk
  replace hlb:=hid (hlb.out.below b2)
  have q0:=hlb.out.r8.cell 0
  have q1:=hlb.out.r8.cell 1
  have q2:=hlb.out.r8.cell 2
  have q3:=hlb.out.r8.cell 3
  have z0:=hlb.out.r8.frozen 0
  have z1:=hlb.out.r8.frozen 1
  have z2:=hlb.out.r8.frozen 2
  have z3:=hlb.out.r8.frozen 3
  simp at q0 q1 q2 q3
  clear b2 s0 x0 x1 x2 a0 a1 a2 a3 a4 a5 a6
  go_wp2_with fail
  refine bodyPost_ret (v:=.tuple #[.agg #[.int .i64 e1,.int .i64 N,.slice ya yn yc,.slice y ln lc],.int .i64 0]) (by rw[results_cell_tmp rfl]; go_simp) rfl ?_
  exact⟨⟨_,_,_,_,_,_,_,_,_,rfl,fun _=>⟨rfl,hlk.out.kept (dM w2 (w.heap.size+1+1+1) e1 N ya yn yc y ln lc) (by have:=hsz2.out; omega) (by have:=hsz2.out; omega)⟩⟩,hlb.out.bel.trans ((dM w2 (w.heap.size+1+1+1) e1 N ya yn yc y ln lc).below (by omega))⟩
 ·have hk':(a.kind == 11)=false:=by simp[hk]
  by_cases hk2:a.kind=12
  ·have hk2':(a.kind == 12)=true:=by simp[hk2]
   replace hk2:=hid hk2
   replace hk:=hid hk
   go_wp2_with fail
   refine(cC2 Q v x w1 (hX.out.below hlb.out.bel) hx.out.files.few).mono ?_
   rintro e w2 ⟨⟨y,rfl,hst⟩,b2⟩
   have hsz2:=hid hlb.out.sz
   replace hst:=hid hst
   have hfl:=hid hX.out.files.1
   replace hlb:=hid (hlb.out.below b2)
   have q0:=hlb.out.r8.cell 0
   have q1:=hlb.out.r8.cell 1
   have q2:=hlb.out.r8.cell 2
   have q3:=hlb.out.r8.cell 3
   have z0:=hlb.out.r8.frozen 0
   have z1:=hlb.out.r8.frozen 1
   have z2:=hlb.out.r8.frozen 2
   have z3:=hlb.out.r8.frozen 3
   simp at q0 q1 q2 q3
   clear b2 s0 x0 x1 x2 a0 a1 a2 a3 a4 a5 a6
   go_wp2_with fail
   refine bodyPost_ret (v:=.tuple #[.agg #[.int .i64 0,.int .i64 (v.fn:Int),.slice y v.fn v.fn,.slice none 0 0],.int .i64 0]) (by rw[results_cell_tmp rfl]; go_simp) rfl ?_
   exact⟨⟨_,_,_,_,_,_,_,_,_,rfl,fun _=>⟨rfl,(cJ6 (B:=B) (key:=key) hk2.out hfl.out hst.out).kept (dM w2 (w.heap.size+1+1+1) 0 v.fn y v.fn v.fn none 0 0) (by have:=hsz2.out; omega) (by have:=hsz2.out; omega)⟩⟩,hlb.out.bel.trans ((dM w2 (w.heap.size+1+1+1) 0 v.fn y v.fn v.fn none 0 0).below (by omega))⟩
  ·have hk2':(a.kind == 12)=false:=by simp[hk2]
   have q0:=hlb.out.r8.cell 0
   have q1:=hlb.out.r8.cell 1
   have q2:=hlb.out.r8.cell 2
   have q3:=hlb.out.r8.cell 3
   have z0:=hlb.out.r8.frozen 0
   have z1:=hlb.out.r8.frozen 1
   have z2:=hlb.out.r8.frozen 2
   have z3:=hlb.out.r8.frozen 3
   simp at q0 q1 q2 q3
   replace hk2:=hid hk2
   replace hk:=hid hk
   go_wp2_with fail
   refine bodyPost_ret (v:=.tuple #[.agg #[.int .i64 0,.int .i64 0,.slice none 0 0,.slice none 0 0],.int .i64 4]) (by rw[results_cell_tmp rfl]; go_simp) rfl ?_
   exact⟨⟨_,_,_,_,_,_,_,_,_,rfl,fun f=>absurd f (fun f=>f.elim hk.out hk2.out)⟩,hlb.out.bel.trans ((dM w1 (w.heap.size+1+1+1) 0 0 none 0 0 none 0 0).below (by omega))⟩
def cS4 (n:Nat)(B:Nat->Blk)(t:aO)(k:Nat)(x:aK)(a:aP)(e1:Int):Prop:=(zN n B t.key x a/\lQ n B t.key e1 x a)\/(e1=8/\∃ D y q,Did n B t.key x a 2000 D y/\qU D (cZ (t.sets.set k y)) q/\t.quota<q)
def bL1 (a:aP):Prop:=a.kind≠1/\a.kind≠13/\a.kind≠11/\a.kind≠12/\a.kind≠2/\a.kind≠10
inductive dQ (n:Nat)(B:Nat->Blk)(l:List aO)(i:Nat)(t:aO)(a:aP):(Nat->Blk)->List aO->Int->Int->Prop
 | noadd (e1:Int):a.kind=1->e1≠0->vF t.sets a.set e1->dQ n B l i t a B l e1 0
 | add (p:Nat):a.kind=1->aM a.set->t.sets.length<3->Found aK.nm t.sets a.set.data.toList p false->dQ n B l i t a B (l.set i ⟨t.key,t.quota,t.sets.take p++⟨a.set,[],[]⟩::t.sets.drop p⟩) 0 0
 | uses (N:Int):a.kind=13->qU B (aL t) N->dQ n B l i t a B l 0 N
 | missing:a.kind≠1->a.kind≠13->(¬∃ x∈t.sets,x.nm=a.set.data.toList)->dQ n B l i t a B l 5 0
 | look (k:Nat) (x:aK) (e1 N:Int):t.sets[k]? =some x->x.nm=a.set.data.toList->(a.kind=11\/a.kind=12)->e1=zJ x a->N=zI x a->dQ n B l i t a B l e1 N
 | destroy (k:Nat) (x:aK) (D:Nat->Blk):t.sets[k]? =some x->x.nm=a.set.data.toList->a.kind=2->Right n D->iU n B D (aG x)->dQ n B l i t a D (l.set i ⟨t.key,t.quota,t.sets.eraseIdx k⟩) 0 0
 | noclone (k:Nat) (x:aK) (e1:Int):t.sets[k]? =some x->x.nm=a.set.data.toList->a.kind=10->e1≠0->vE t.sets x a e1->dQ n B l i t a B l e1 0
 | clone (k:Nat) (x:aK) (C:Nat->Blk) (y:aK) (p:Nat):t.sets[k]? =some x->x.nm=a.set.data.toList->a.kind=10->aV n C t.key y->ClF n B C x a.to a.file y->t.sets.length<3->Found aK.nm t.sets y.nm p false->dQ n B l i t a C (l.set i ⟨t.key,t.quota,t.sets.take p++y::t.sets.drop p⟩) 0 0
 | nochange (k:Nat) (x:aK) (e1:Int):t.sets[k]? =some x->x.nm=a.set.data.toList->bL1 a->e1≠0->cS4 n B t k x a e1->dQ n B l i t a B l e1 0
 | change (k:Nat) (x:aK) (D:Nat->Blk) (y:aK) (q:Int):t.sets[k]? =some x->x.nm=a.set.data.toList->bL1 a->Did n B t.key x a 2000 D y->qU D (cZ (t.sets.set k y)) q->q<=t.quota->dQ n B l i t a D (l.set i ⟨t.key,t.quota,t.sets.set k y⟩) 0 0
structure aY3 (n:Nat)(B D:Nat->Blk)(l l':List aO)(i:Nat)(t:aO)(a:aP)(e1:Int):Prop where
 ok:aQ n D l'
 set:∃ t', l'=l.set i t'/\t'.key=t.key/\t'.quota=t.quota
 oth:∀ (j:Nat) (u:aO),l[j]? =some u->j≠i->gJ n B D (aL u)
 still:(e1≠0\/a.kind=11\/a.kind=12\/a.kind=13)->D=B/\l'=l
theorem set_self {l:List aO}{i:Nat}{t:aO}(h:l[i]? =some t):l=l.set i t:=by
 obtain⟨hi,rfl⟩:=List.getElem?_eq_some_iff.1 h
 rw[List.set_getElem_self]
theorem aY3.same {n:Nat}{B:Nat->Blk}{l:List aO}{i:Nat}{t:aO}{a:aP}{e1:Int}(h:aQ n B l)(hi:l[i]? =some t):aY3 n B B l l i t a e1:=
 ⟨h,⟨t,set_self hi,rfl,rfl⟩,fun j u hj _=>bF1 h.right (h.tens u (List.mem_of_getElem? hj)).rootsOk,fun _=>⟨rfl,rfl⟩⟩
theorem aY3.of_step {n:Nat}{B D:Nat->Blk}{l:List aO}{i:Nat}{t t':aO}{a:aP}{e1:Int}(h:Step n B D l i t')(hk:t'.key=t.key)(hq:t'.quota=t.quota)(hno:e1=0/\a.kind≠11/\a.kind≠12/\a.kind≠13):aY3 n B D l (l.set i t') i t a e1:=
 ⟨h.ok,⟨t', rfl,hk,hq⟩,h.oth,fun f=>by rcases f with f | f | f | f<;>simp_all⟩
theorem qJ (a:aP):(2000:Int)+iP a+24<=1000000:=by unfold iP; split<;>omega
theorem dQ.is {n:Nat}{B D:Nat->Blk}{l l':List aO}{i:Nat}{t:aO}{a:aP}{e1 N:Int}(h:aQ n B l)(hi:l[i]? =some t)(hb:Bytes a.bytes)(hc:dQ n B l i t a D l' e1 N):aY3 n B D l l' i t a e1:=by
 cases hc with
 | noadd=>exact aY3.same h hi
 | add p h1 h2 h3 h4=>exact aY3.of_step (h.add hi h3 h2 h4) rfl rfl ⟨rfl,by omega,by omega,by omega⟩
 | uses=>exact aY3.same h hi
 | missing=>exact aY3.same h hi
 | look=>exact aY3.same h hi
 | destroy k x D h1 h2 h3 h4 h5=>exact aY3.of_step (h.destroy hi h1 h4 h5) rfl rfl ⟨rfl,by omega,by omega,by omega⟩
 | noclone=>exact aY3.same h hi
 | clone k x C y p h1 h2 h3 h4 h5 h6 h7=>exact aY3.of_step (h.clone hi h1 h6 h7 h4 h5) rfl rfl ⟨rfl,by omega,by omega,by omega⟩
 | nochange=>exact aY3.same h hi
 | change k x D y q h1 h2 h3 h4 h5 h6=>exact aY3.of_step (h.change hi h1 hb h.refs (qJ a) h4 h5 h6) rfl rfl ⟨rfl,h3.2.2.1,h3.2.2.2.1,h3.2.1⟩
def setOf (t:aO)(nm:List UInt8):Option aK:=t.sets.find? (fun x=>x.nm == nm)
def aH7 (t:aO)(a:aP):List ByteArray:=if a.kind=11\/a.kind=12 then match setOf t a.set.data.toList with | none=>[] | some x=>vB x a else []
def aH9 (B:Nat->Blk)(t:aO)(a:aP):List Int:=if a.kind=11\/a.kind=12 then match setOf t a.set.data.toList with | none=>[] | some x=>vC B t.key x a else []
theorem bF5 {t:aO}{nm:List UInt8}(h:¬∃ x∈t.sets,x.nm=nm):setOf t nm=none:=by
 unfold setOf
 rw[List.find?_eq_none]
 intro f hf
 simp only[beq_iff_eq]
 exact fun e=>h ⟨f,hf,e⟩
theorem bF4 {t:aO}{nm:List UInt8}{x:aK}(ho:t.sets.Pairwise fun a b=>a.nm<b.nm)(hf:x∈t.sets)(hn:x.nm=nm):setOf t nm=some x:=by
 unfold setOf
 cases h:t.sets.find? (fun x=>x.nm == nm) with
 | none=>
   rw[List.find?_eq_none] at h
   have:=h x hf
   simp only[beq_iff_eq] at this
   exact absurd hn this
 | some g=>
   have h1:=List.find?_some h
   simp only[beq_iff_eq] at h1
   rw[xI aK.nm ho (List.mem_of_find?_eq_some h) hf (h1.trans hn.symm)]
structure mO (Q:Nat->Prop)(w:World)(S:List ByteArray)(b:List Int)(ya:Option Addr)(yn yc:Nat)(y:Option Addr)(ln lc:Nat):Prop where
 names:gG Q w ya yn S
 bytes:aI Q .u8 w y ln b
 caps:yn<=yc/\ln<=lc
theorem yS (Q:Nat->Prop)(w:World):mO Q w [] [] none 0 0 none 0 0:=⟨oJ _ _ _,dL _ _ _ _,Nat.le_refl _,Nat.le_refl _⟩
theorem lK {Q:Nat->Prop}{w:World}{B:Nat->Blk}{t:aO}{a:aP}(h:¬(a.kind=11\/a.kind=12)):mO Q w (aH7 t a) (aH9 B t a) none 0 0 none 0 0:=by
 unfold aH7 aH9
 rw[if_neg h,if_neg h]
 exact yS _ _
theorem aH8 {Q:Nat->Prop}{w:World}{B:Nat->Blk}{t:aO}{a:aP}(h:¬∃ x∈t.sets,x.nm=a.set.data.toList):mO Q w (aH7 t a) (aH9 B t a) none 0 0 none 0 0:=by
 unfold aH7 aH9
 rw[bF5 h]
 split<;>exact yS _ _
theorem bK9 {base:Nat}{w:World}{B:Nat->Blk}{t:aO}{x:aK}{a:aP}{e1 N:Int}{ya:Option Addr}{yn yc:Nat}{y:Option Addr}{ln lc:Nat}(hk:a.kind=11\/a.kind=12)(hs:setOf t a.set.data.toList=some x)(h:aD1 base w B t.key x a e1 N ya yn yc y ln lc):mO (fun b=>base<=b) w (aH7 t a) (aH9 B t a) ya yn yc y ln lc:=by
 unfold aH7 aH9
 rw[if_pos hk,if_pos hk,hs]
 exact⟨h.names,h.bytes,h.caps⟩
theorem mO.below {Q:Nat->Prop}{w w':World}{S:List ByteArray}{l:List Int}{ya:Option Addr}{yn yc:Nat}{y:Option Addr}{ln lc:Nat}(h:mO Q w S l ya yn yc y ln lc)(b:Below w.heap.size w w'):mO Q w' S l ya yn yc y ln lc:=⟨h.names.below b,h.bytes.below b,h.caps⟩
theorem mO.weaken {Q R:Nat->Prop}{w:World}{S:List ByteArray}{l:List Int}{ya:Option Addr}{yn yc:Nat}{y:Option Addr}{ln lc:Nat}(h:mO Q w S l ya yn yc y ln lc)(hq:∀ b,b<w.heap.size->Q b->R b):mO R w S l ya yn yc y ln lc:=⟨h.names.weaken hq,h.bytes.weaken hq,h.caps⟩
theorem mO.kept {Q:Nat->Prop}{w w':World}{S:List ByteArray}{l:List Int}{ya:Option Addr}{yn yc:Nat}{y:Option Addr}{ln lc:Nat}{g:Nat}(h:mO Q w S l ya yn yc y ln lc)(hq:∀ b,Q b->b≠g)(k:Kept g w w'):mO Q w' S l ya yn yc y ln lc:=⟨h.names.kept hq k,h.bytes.kept hq k,h.caps⟩
theorem mO.only {M Q:Nat->Prop}{w w':World}{S:List ByteArray}{l:List Int}{ya:Option Addr}{yn yc:Nat}{y:Option Addr}{ln lc:Nat}(h:mO Q w S l ya yn yc y ln lc)(on:Only M w w')(hq:∀ b,Q b->¬M b):mO Q w' S l ya yn yc y ln lc:=⟨on.strs h.names hq,on.nums h.bytes hq,h.caps⟩
def uU (H:Nat)(X:Nat->Prop)(w:World)(ob n:Nat)(B:Nat->Blk)(tb tn tc:Nat)(L:List aY)(i:Nat)(m:aY)(a:aP)(e:Ending)(w':World):Prop:=
 ∃ (e1 N:Int) (ya:Option Addr) (yn yc:Nat) (y:Option Addr) (ln lc:Nat) (g':Nat) (D:Nat->Blk) (L':List aY),e=.returned (.agg #[.int .i64 e1,.int .i64 N,.slice ya yn yc,.slice y ln lc])/\Below H w w'/\Only (PM ob tb tn tc L) w w'/\PSt H X w' ob g' n D (some ⟨tb,0,none⟩) tn tc L'/\dQ n B (L.map aY.e) i m.e a D (L'.map aY.e) e1 N/\mO (fun b=>w.heap.size<=b) w' (aH7 m.e a) (aH9 B m.e a) ya yn yc y ln lc/\((yn=0/\ln=0)\/PSt H (fun b=>X b\/(w.heap.size<=b/\b<w'.heap.size)) w' ob g' n D (some ⟨tb,0,none⟩) tn tc L')
abbrev cA5 (a:aP)(ba:Option Addr)(bn bc:Nat):Obj:=.cells #[.int .i64 a.kind,.string a.set,.string a.file,.string a.to,.int .i64 a.pos,.int .i64 a.num,.slice ba bn bc] 30
abbrev cK3:Obj:=.cells #[.int .i64 0,.int .i64 0,.slice none 0 0,.slice none 0 0] 41
structure OB (W w:World)(a:aP)(ba:Option Addr)(bn bc:Nat):Prop where
 bel:Below W.heap.size W w
 bA:aC w W.heap.size #[.int .i64 a.kind,.string a.set,.string a.file,.string a.to,.int .i64 a.pos,.int .i64 a.num,.slice ba bn bc] 30
 bR:aC w (W.heap.size+1) #[.int .i64 0,.int .i64 0,.slice none 0 0,.slice none 0 0] 41
theorem OB.below {W w w':World}{a:aP}{ba:Option Addr}{bn bc:Nat}(h:OB W w a ba bn bc)(b:Below w.heap.size w w'):OB W w' a ba bn bc:=⟨Below.tr h.bel b,h.bA.below b,h.bR.below b⟩
theorem aF2 (w:World)(a:aP)(ba:Option Addr)(bn bc:Nat):OB w ((w.alloc (cA5 a ba bn bc)).alloc cK3) a ba bn bc:=
 ⟨aW w _ _,(aB w _ _).below (aA _ _),aF w (cA5 a ba bn bc) _ _⟩
abbrev YB (X:Nat->Prop)(q:Nat):Nat->Prop:=fun b=>X b\/b=q
theorem PSt.boxed {H:Nat}{X:Nat->Prop}{w w0:World}{ob g n:Nat}{B:Nat->Blk}{ta:Option Addr}{tn tc:Nat}{L:List aY}{a:aP}{ba:Option Addr}{bn bc:Nat}(h:PSt H X w ob g n B ta tn tc L)(o:OB w w0 a ba bn bc):PSt H (YB X (w.heap.size+1)) w0 ob g n B ta tn tc L:=
 h.clear o.bel (fun b y=>y.imp id (fun e=>⟨by omega,by rw[e]; exact o.bR.lt⟩)) (.inl h.hx)
theorem pX {H:Nat}{X:Nat->Prop}{w w1:World}{ob g g' n tb tn tc i:Nat}{B D:Nat->Blk}{L L':List aY}{m:aY}{a:aP}{c0 c1 c2 c3:Value}{e1 N:Int}{ya:Option Addr}{yn yc:Nat}{y:Option Addr}{ln lc:Nat}(h:PSt H X w ob g n B (some ⟨tb,0,none⟩) tn tc L)(h1:PSt H (YB X (w.heap.size+1)) w1 ob g' n D (some ⟨tb,0,none⟩) tn tc L')(hB:Below H w w1)(on:Only (PM ob tb tn tc L) w w1)(k:aC w1 (w.heap.size+1) #[c0,c1,c2,c3] 41)(hc:dQ n B (L.map aY.e) i m.e a D (L'.map aY.e) e1 N)
 (hr:mO (fun b=>w.heap.size+2<=b) w1 (aH7 m.e a) (aH9 B m.e a) ya yn yc y ln lc) (hf:(yn=0/\ln=0)\/PSt H (fun b=>X b\/(w.heap.size<=b/\b<w1.heap.size)) w1 ob g' n D (some ⟨tb,0,none⟩) tn tc L'):
 uU H X w ob n B tb tn tc L i m a (.returned (.agg #[.int .i64 e1,.int .i64 N,.slice ya yn yc,.slice y ln lc])) (cH0 w1 (w.heap.size+1) e1 N ya yn yc y ln lc):=by
 have kk:=dM w1 (w.heap.size+1) e1 N ya yn yc y ln lc
 have hob:=h.box.lt
 have hsz:=h.mine.sz
 refine⟨e1,N,ya,yn,yc,y,ln,lc,g', D,L', rfl,hB.trans (kk.below (by omega)),on.trans2 (Only.of_kept (M:=fun b=>b=w.heap.size+1) kk rfl) (fun q hq e=>by omega),(h1.kept kk (.inr rfl) (by omega)).clear (Below.refl _ _) (fun b x=>.inl (.inl x)) h.hx,hc,(hr.kept (g:=w.heap.size+1) (fun b hb=>by omega) kk).weaken (fun b _ q=>by omega),hf.imp id (fun hf=>by
  have:=k.lt
  have h2:=hf.kept kk (.inr ⟨by omega,this⟩) (by omega)
  rw[kk.size]
  exact h2)⟩
theorem bV2 {Q:Nat->Prop}{w:World}{nm:ByteArray}(h:nm.size<=maxLen):dK Q w ⟨nm,none,0,0,none,0,0⟩ ⟨nm,[],[]⟩:=by
 refine⟨rfl,h,?_,?_,?_⟩
 ·first | exact aC2 _ _ _ | exact⟨rfl,fun x hx=>by simp at hx,fun hp=>absurd hp (by omega)⟩
 ·first | exact wK _ _ _ | exact⟨rfl,fun x hx=>by simp at hx,fun hp=>absurd hp (by omega)⟩ | exact⟨rfl,fun hp=>absurd hp (by omega)⟩
 ·first | exact⟨Nat.le_refl _,Nat.le_refl _⟩ | simp
theorem rP (L:List aY)(i:Nat)(m:aY):(L.set i m).map aY.e=(L.map aY.e).set i m.e:=List.map_set
theorem bH2 (H:Nat)(X:Nat->Prop)(ob g n:Nat)(B:Nat->Blk)(tb tn tc:Nat)(L:List aY)(i:Nat)(m:aY)(a:aP)(ba:Option Addr)(bn bc:Nat)(w:World)(h:PSt H X w ob g n B (some ⟨tb,0,none⟩) tn tc L)(hm:L[i]? =some m)(hok:aQ n B (L.map aY.e))(hao:a.ok)(hk:a.kind=1):
 Calls Tryz.prog 20 #[.pointer (some ⟨ob,0,none⟩),.pointer (some ⟨tb,i*3,none⟩),.agg #[.int .i64 a.kind,.string a.set,.string a.file,.string a.to,.int .i64 a.pos,.int .i64 a.num,.slice ba bn bc]] w fun e w'=>uU H X w ob n B tb tn tc L i m a e w':=by
 have hob:=aF2 w a ba bn bc
 have hmT:m.e∈L.map aY.e:=List.mem_map.2 ⟨m,List.mem_of_getElem? hm,rfl⟩
 have hT:=hok.tens _ hmT
 have hml:(m.ms.map (·.x)).length=m.sn:=(h.sets hm).1
 have h3:m.sn<=3:=by have:=hT.few; rw[<-hml]; exact this
 have ho:(m.ms.map (·.x)).Pairwise fun a b=>a.nm<b.nm:=hT.order
 have h0:=hid (h.boxed hob)
 have hka:(a.kind == 1)=true:=by simp[hk]
 unfold cA5 cK3 at hob
 replace hob:=hid hob
 replace h:=hid h
 replace hk:=hid hk
 replace ho:=hid ho
 replace hml:=hid hml
 replace hm:=hid hm
 clear hT hmT
 go_enter Tryz.func20,Tryz.ntmps20
 go_upto_region 1 with fail
 generalize (w.alloc (.cells #[.int .i64 a.kind,.string a.set,.string a.file,.string a.to,.int .i64 a.pos,.int .i64 a.num,.slice ba bn bc] 30)).alloc (.cells #[.int .i64 0,.int .i64 0,.slice none 0 0,.slice none 0 0] 41)=w0 at *
 have a0:=hob.out.bA.cell 0
 have a1:=hob.out.bA.cell 1
 simp only[List.getElem?_toArray,List.getElem?_cons_zero,List.getElem?_cons_succ] at a0 a1
 go_wp2_with fail
 refine(xA H (YB X (w.heap.size+1)) ob g n B tb tn tc L i m ⟨a.set,none,0,0,none,0,0⟩ ⟨a.set,[],[]⟩ w0 h0.out hm.out ho.out h3 (bV2 hao.1.1)).mono ?_
 have hH:=h.out.mine.sz
 rintro e w1 (⟨e', rfl,he,b1,hno⟩ | ⟨rfl,hNm,hlt3,bH,a', c', p,hF,hPS,on,hR⟩)
 ·have hob1:=hob.out.below b1
  have q0:=hob1.bR.cell 0
  have q1:=hob1.bR.cell 1
  have q2:=hob1.bR.cell 2
  have q3:=hob1.bR.cell 3
  have z0:=hob1.bR.frozen 0
  have z1:=hob1.bR.frozen 1
  have z2:=hob1.bR.frozen 2
  have z3:=hob1.bR.frozen 3
  simp only[List.getElem?_toArray,List.getElem?_cons_zero,List.getElem?_cons_succ] at q0 q1 q2 q3
  replace hno:=hid hno
  replace b1:=hid b1
  replace hob1:=hid hob1
  clear a0 a1
  go_wp2_with fail
  refine bodyPost_ret (v:=.agg #[.int .i64 e', .int .i64 0,.slice none 0 0,.slice none 0 0]) (results_cell_row rfl _ _ (w.heap.size+1) _ _ _ _ rfl (dN hob1.out.bR e' 0 none 0 0 none 0 0) Tryz.underlying41 rfl (by kernel_rfl)) rfl ?_
  exact pX h.out (h0.out.below b1.out) ((Below.tr hob.out.bel b1.out).mono hH) ((Only.of_below hob.out.bel).trans (Only.of_below b1.out)) hob1.out.bR (.noadd e' hk.out he hno.out) (lK (by have:=hk.out; omega)) (.inl ⟨rfl,rfl⟩)
 ·have hnr:¬fD (.slice (some ⟨tb,0,none⟩) tn tc) L tn (w.heap.size+1):=fun f=>by have:=(h.out.mine.ge f).2; omega
  have kR:=on.cells hob.out.bR hnr
  have q0:=kR.cell 0
  have q1:=kR.cell 1
  have q2:=kR.cell 2
  have q3:=kR.cell 3
  have z0:=kR.frozen 0
  have z1:=kR.frozen 1
  have z2:=kR.frozen 2
  have z3:=kR.frozen 3
  simp only[List.getElem?_toArray,List.getElem?_cons_zero,List.getElem?_cons_succ] at q0 q1 q2 q3
  replace hPS:=hid hPS
  replace on:=hid on
  replace hF:=hid hF
  replace bH:=hid bH
  replace kR:=hid kR
  clear a0 a1 hR hnr
  go_wp2_with fail
  refine bodyPost_ret (v:=.agg #[.int .i64 0,.int .i64 0,.slice none 0 0,.slice none 0 0]) (results_cell_row rfl _ _ (w.heap.size+1) _ _ _ _ rfl (dN kR.out 0 0 none 0 0 none 0 0) Tryz.underlying41 rfl (by kernel_rfl)) rfl ?_
  refine pX h.out hPS.out ((hob.out.bel.mono hH).trans bH.out) ((Only.of_below hob.out.bel).trans (on.out.mono (fun b _ q=>.inr q))) kR.out ?_ (lK (by have:=hk.out; omega)) (.inl ⟨rfl,rfl⟩)
  rw[rP]
  have e:aY.e { m with sa:=a', sn:=m.sn+1,sc:=c', ms:=m.ms.take p++⟨⟨a.set,none,0,0,none,0,0⟩,⟨a.set,[],[]⟩⟩::m.ms.drop p }=⟨m.e.key,m.e.quota,m.e.sets.take p++⟨a.set,[],[]⟩::m.e.sets.drop p⟩:=by
   simp[aY.e,List.map_take,List.map_drop]
  rw[e]
  exact .add p hk.out hNm (by show (m.ms.map (·.x)).length<3; rw[hml.out]; exact hlt3) hF.out
def kP (B D:Nat->Blk)(t u:aO):Prop:=∃ f,u=aM2 f t/\Iso f B (aL t) D
theorem cT8 {f:Int->Int}{l:List aK}{s:List UInt8}:(∃ x∈l.map (fA f),x.nm=s)↔∃ x∈l,x.nm=s:=by
 constructor
 ·rintro⟨x,hx,rfl⟩
  obtain⟨y,hy,rfl⟩:=List.mem_map.1 hx
  exact⟨y,hy,rfl⟩
 ·rintro⟨x,hx,rfl⟩
  exact⟨fA f x,List.mem_map_of_mem hx,rfl⟩
theorem yX {f:Int->Int}{l:List aK}{nm:ByteArray}{e:Int}(h:vF (l.map (fA f)) nm e):vF l nm e:=by
 unfold vF at h
 rw[cT8,List.length_map] at h
 exact h
theorem vF.uni {l:List aK}{nm:ByteArray}{e e':Int}(h:vF l nm e)(k:vF l nm e'):e=e':=by
 rcases h with⟨h1,h2⟩ | ⟨h1,h2,h3⟩ | ⟨h1,h2,h3,h4⟩<;>rcases k with⟨k1,k2⟩ | ⟨k1,k2,k3⟩ | ⟨k1,k2,k3,k4⟩<;>first | omega | (exact absurd ‹aM nm› ‹¬aM nm›) | (exact absurd h3 k3) | (exact absurd k3 h3)
theorem bU0 {l:List aK}{s:List UInt8}{p:Nat}(ho:l.Pairwise fun a b=>a.nm<b.nm)(h:Found aK.nm l s p false):¬∃ x∈l,x.nm=s:=fun f=>absurd ((dI ho h).2 f) (by decide)
theorem vF.not {l:List aK}{nm:ByteArray}{e:Int}{p:Nat}(ho:l.Pairwise fun a b=>a.nm<b.nm)(h:vF l nm e)(hn:aM nm)(h3:l.length<3)(hf:Found aK.nm l nm.data.toList p false):False:=by
 rcases h with⟨_,h⟩ | ⟨_,_,h⟩ | ⟨_,_,_,h⟩
 ·exact h hn
 ·exact bU0 ho hf h
 ·omega
theorem yE {f:Int->Int}{l:List aK}{s:List UInt8}{p:Nat}(h:Found aK.nm (l.map (fA f)) s p false):Found aK.nm l s p false:=by
 refine⟨by have:=h.le; rwa [List.length_map] at this,fun x hx=>?_,fun x hx=>?_,?_⟩
 ·have:=h.ahead (fA f x) (by rw[<-List.map_take]; exact List.mem_map_of_mem hx)
  exact this
 ·have:=h.behind (fA f x) (by rw[<-List.map_drop]; exact List.mem_map_of_mem hx)
  exact this
 ·constructor
  ·intro e; cases e
  ·rintro⟨x,hx,e⟩
   exact h.there.2 ⟨fA f x,by rw[List.getElem?_map,hx]; rfl,e⟩
theorem aB9 {f:Int->Int}{l:List aK}{s:List UInt8}{p q:Nat}(ho:l.Pairwise fun a b=>a.nm<b.nm)(h:Found aK.nm l s p false)(k:Found aK.nm (l.map (fA f)) s q false)(z:aK):(l.map (fA f)).take q++fA f z::(l.map (fA f)).drop q=(l.take p++z::l.drop p).map (fA f):=by
 have k':=yE k
 obtain⟨e1,e2⟩:=vN (f:=aK.nm) h.ahead (jX ho h) k'.ahead (jX ho k')
 rw[List.map_append,List.map_cons,e1,e2,List.map_take,List.map_drop]
theorem vI {f:Int->Int}{l:List aK}{s:List UInt8}{k j:Nat}{x z:aK}(ho:l.Pairwise fun a b=>a.nm<b.nm)(hk:l[k]? =some x)(hx:x.nm=s)(hj:(l.map (fA f))[j]? =some z)(hz:z.nm=s):j=k/\z=fA f x:=by
 rw[List.getElem?_map,Option.map_eq_some_iff] at hj
 obtain⟨y,hy,rfl⟩:=hj
 obtain⟨h1,h2⟩:=List.getElem?_eq_some_iff.1 hk
 obtain⟨g1,g2⟩:=List.getElem?_eq_some_iff.1 hy
 obtain rfl:j=k:=qQ ho g1 h1 (by rw[g2,h2]; exact hz.trans hx.symm)
 rw[hk] at hy
 cases hy
 exact⟨rfl,rfl⟩
theorem vE.map {f:Int->Int}{l:List aK}{x:aK}{a:aP}{e:Int}(h:vE (l.map (fA f)) (fA f x) a e):vE l x a e:=by
 unfold vE ClE at h
 rw[cT0] at h
 exact h.imp id fun h=>⟨h.1,yX h.2⟩
theorem vE.uni {l:List aK}{x:aK}{a:aP}{e e':Int}(h:vE l x a e)(k:vE l x a e'):e=e':=by
 rcases h with (⟨h1,h2⟩ | ⟨h1,h2,h3⟩) | ⟨h1,h2⟩<;>rcases k with (⟨k1,k2⟩ | ⟨k1,k2,k3⟩) | ⟨k1,k2⟩
 ·omega
 ·exact absurd k2 h2
 ·rcases k2 with⟨k2,_⟩ | ⟨_,k2,_⟩ | ⟨_,k2,_⟩
  ·omega
  ·exact absurd k2 h2
  ·exact absurd k2 h2
 ·exact absurd h2 k2
 ·omega
 ·exact absurd k1 h3
 ·rcases h2 with⟨h2,_⟩ | ⟨_,h2,_⟩ | ⟨_,h2,_⟩
  ·omega
  ·exact absurd h2 k2
  ·exact absurd h2 k2
 ·exact absurd h1 k3
 ·exact h2.uni k2
theorem vE.not {n:Nat}{B C:Nat->Blk}{l:List aK}{x y:aK}{a:aP}{e key:Int}{p:Nat}(ho:l.Pairwise fun a b=>a.nm<b.nm)(h:vE l x a e)(hy:aV n C key y)(hF:ClF n B C x a.to a.file y)(h3:l.length<3)(hf:Found aK.nm l y.nm p false):False:=by
 have hn:aM a.file:=by rw[<-hF.name]; exact hy.name
 obtain⟨q,hq,e1,_⟩:=hF.snap
 rcases h with (⟨_,h⟩ | ⟨_,_,h⟩) | ⟨_,h⟩
 ·exact h hn
 ·exact h ⟨x.snaps[q],List.getElem_mem hq,e1⟩
 ·exact h.not ho hn h3 (p:=p) (by have e:y.nm=a.file.data.toList:=by unfold aK.nm; rw[hF.name]
                                  rw[<-e]; exact hf)
section
variable {n:Nat} {B D:Nat->Blk} {l m:List aO} {i:Nat} {t:aO} {a:aP} {e N:Int}
theorem cI1 (hk:a.kind=1)(h:dQ n B l i t a D m e N):N=0/\D=B/\((e≠0/\m=l/\vF t.sets a.set e)\/(e=0/\∃ p,aM a.set/\t.sets.length<3/\Found aK.nm t.sets a.set.data.toList p false/\m=l.set i ⟨t.key,t.quota,t.sets.take p++⟨a.set,[],[]⟩::t.sets.drop p⟩)):=by
 cases h with
 | noadd _ h1 h2 h3=>exact⟨rfl,rfl,.inl ⟨h2,rfl,h3⟩⟩
 | add p h1 h2 h3 h4=>exact⟨rfl,rfl,.inr ⟨rfl,p,h2,h3,h4,rfl⟩⟩
 | uses _ h1=>omega
 | missing h1=>exact absurd hk h1
 | look _ _ _ _ _ _ h1=>omega
 | destroy _ _ _ _ _ h1=>omega
 | noclone _ _ _ _ _ h1=>omega
 | clone _ _ _ _ _ _ _ h1=>omega
 | nochange _ _ _ _ _ h1=>exact absurd hk h1.1
 | change _ _ _ _ _ _ _ h1=>exact absurd hk h1.1
theorem bV3 (hk:a.kind=13)(h:dQ n B l i t a D m e N):e=0/\D=B/\m=l/\qU B (aL t) N:=by
 cases h with
 | noadd _ h1=>omega
 | add _ h1=>omega
 | uses _ h1 h2=>exact⟨rfl,rfl,rfl,h2⟩
 | missing _ h1=>exact absurd hk h1
 | look _ _ _ _ _ _ h1=>omega
 | destroy _ _ _ _ _ h1=>omega
 | noclone _ _ _ _ _ h1=>omega
 | clone _ _ _ _ _ _ _ h1=>omega
 | nochange _ _ _ _ _ h1=>exact absurd hk h1.2.1
 | change _ _ _ _ _ _ _ h1=>exact absurd hk h1.2.1
theorem bV4 (h1:a.kind≠1)(h13:a.kind≠13)(hno:¬∃ x∈t.sets,x.nm=a.set.data.toList)(h:dQ n B l i t a D m e N):e=5/\N=0/\D=B/\m=l:=by
 cases h with
 | noadd _ h=>exact absurd h h1
 | add _ h=>exact absurd h h1
 | uses _ h=>exact absurd h h13
 | missing=>exact⟨rfl,rfl,rfl,rfl⟩
 | look k x _ _ h g=>exact absurd ⟨x,List.mem_of_getElem? h,g⟩ hno
 | destroy k x _ h g=>exact absurd ⟨x,List.mem_of_getElem? h,g⟩ hno
 | noclone k x _ h g=>exact absurd ⟨x,List.mem_of_getElem? h,g⟩ hno
 | clone k x _ _ _ h g=>exact absurd ⟨x,List.mem_of_getElem? h,g⟩ hno
 | nochange k x _ h g=>exact absurd ⟨x,List.mem_of_getElem? h,g⟩ hno
 | change k x _ _ _ h g=>exact absurd ⟨x,List.mem_of_getElem? h,g⟩ hno
def bL4 (t:aO)(a:aP)(k:Nat)(x:aK):Prop:=t.sets[k]? =some x/\x.nm=a.set.data.toList
theorem bL4.has {k:Nat}{x:aK}(h:bL4 t a k x):∃ x∈t.sets,x.nm=a.set.data.toList:=⟨x,List.mem_of_getElem? h.1,h.2⟩
theorem bV5 (h1:a.kind=11\/a.kind=12)(hy:∃ x∈t.sets,x.nm=a.set.data.toList)(h:dQ n B l i t a D m e N):D=B/\m=l/\∃ k x,bL4 t a k x/\e=zJ x a/\N=zI x a:=by
 cases h with
 | noadd _ h=>omega
 | add _ h=>omega
 | uses _ h=>omega
 | missing _ _ h=>exact absurd hy h
 | look k x _ _ h g _ e1 e2=>exact⟨rfl,rfl,k,x,⟨h,g⟩,e1,e2⟩
 | destroy k x _ h g h2=>omega
 | noclone k x _ h g h2=>omega
 | clone k x _ _ _ h g h2=>omega
 | nochange k x _ h g h2=>exact(h1.elim h2.2.2.1 h2.2.2.2.1).elim
 | change k x _ _ _ h g h2=>exact(h1.elim h2.2.2.1 h2.2.2.2.1).elim
theorem aC3 (h1:a.kind=2)(hy:∃ x∈t.sets,x.nm=a.set.data.toList)(h:dQ n B l i t a D m e N):e=0/\N=0/\∃ k x,bL4 t a k x/\Right n D/\iU n B D (aG x)/\m=l.set i ⟨t.key,t.quota,t.sets.eraseIdx k⟩:=by
 cases h with
 | noadd _ h=>omega
 | add _ h=>omega
 | uses _ h=>omega
 | missing _ _ h=>exact absurd hy h
 | look k x _ _ h g h2=>omega
 | destroy k x _ h g h2 h3 h4=>exact⟨rfl,rfl,k,x,⟨h,g⟩,h3,h4,rfl⟩
 | noclone k x _ h g h2=>omega
 | clone k x _ _ _ h g h2=>omega
 | nochange k x _ h g h2=>exact absurd h1 h2.2.2.2.2.1
 | change k x _ _ _ h g h2=>exact absurd h1 h2.2.2.2.2.1
theorem bD3 (h1:a.kind=10)(hy:∃ x∈t.sets,x.nm=a.set.data.toList)(h:dQ n B l i t a D m e N):N=0/\∃ k x,bL4 t a k x/\((e≠0/\D=B/\m=l/\vE t.sets x a e)\/(e=0/\∃ y p,aV n D t.key y/\ClF n B D x a.to a.file y/\t.sets.length<3/\Found aK.nm t.sets y.nm p false/\m=l.set i ⟨t.key,t.quota,t.sets.take p++y::t.sets.drop p⟩)):=by
 cases h with
 | noadd _ h=>omega
 | add _ h=>omega
 | uses _ h=>omega
 | missing _ _ h=>exact absurd hy h
 | look k x _ _ h g h2=>omega
 | destroy k x _ h g h2=>omega
 | noclone k x _ h g h2 h3 h4=>exact⟨rfl,k,x,⟨h,g⟩,.inl ⟨h3,rfl,rfl,h4⟩⟩
 | clone k x _ y p h g h2 h3 h4 h5 h6=>exact⟨rfl,k,x,⟨h,g⟩,.inr ⟨rfl,y,p,h3,h4,h5,h6,rfl⟩⟩
 | nochange k x _ h g h2=>exact absurd h1 h2.2.2.2.2.2
 | change k x _ _ _ h g h2=>exact absurd h1 h2.2.2.2.2.2
theorem aP2 (h1:bL1 a)(hy:∃ x∈t.sets,x.nm=a.set.data.toList)(h:dQ n B l i t a D m e N):N=0/\∃ k x,bL4 t a k x/\((e≠0/\D=B/\m=l/\cS4 n B t k x a e)\/(e=0/\∃ y q,Did n B t.key x a 2000 D y/\qU D (cZ (t.sets.set k y)) q/\q<=t.quota/\m=l.set i ⟨t.key,t.quota,t.sets.set k y⟩)):=by
 cases h with
 | noadd _ h=>exact absurd h h1.1
 | add _ h=>exact absurd h h1.1
 | uses _ h=>exact absurd h h1.2.1
 | missing _ _ h=>exact absurd hy h
 | look k x _ _ h g h2=>exact(h2.elim h1.2.2.1 h1.2.2.2.1).elim
 | destroy k x _ h g h2=>exact absurd h2 h1.2.2.2.2.1
 | noclone k x _ h g h2=>exact absurd h2 h1.2.2.2.2.2
 | clone k x _ _ _ h g h2=>exact absurd h2 h1.2.2.2.2.2
 | nochange k x _ h g h2 h3 h4=>exact⟨rfl,k,x,⟨h,g⟩,.inl ⟨h3,rfl,rfl,h4⟩⟩
 | change k x _ y q h g h2 h3 h4 h5=>exact⟨rfl,k,x,⟨h,g⟩,.inr ⟨rfl,y,q,h3,h4,h5,rfl⟩⟩
end
theorem tL (f:Int->Int)(x:aK)(s:List UInt8):fileOf (fA f x) s=(fileOf x s).map (bR8 f):=by
 unfold fileOf fA jJ
 rw[List.find?_map]
 rfl
theorem bO0 (f:Int->Int)(t:aO)(s:List UInt8):setOf (aM2 f t) s=(setOf t s).map (fA f):=by
 unfold setOf aM2
 rw[List.find?_map]
 rfl
theorem bS3 (f:Int->Int)(x:aK)(a:aP):zJ (fA f x) a=zJ x a:=by
 unfold zJ
 rw[tL]
 cases fileOf x a.file.data.toList<;>rfl
theorem bS2 (f:Int->Int)(x:aK)(a:aP):zI (fA f x) a=zI x a:=by
 unfold zI
 rw[tL,cV8]
 cases fileOf x a.file.data.toList<;>rfl
theorem bS1 (f:Int->Int)(x:aK)(a:aP):vB (fA f x) a=vB x a:=by
 have e:(fA f x).files.map (·.name)=x.files.map (·.name):=by
  unfold fA jJ
  rw[List.map_map]; rfl
 unfold vB
 rw[e]
theorem bS4 {f:Int->Int}{B D:Nat->Blk}{R:List Int}(hI:Iso f B R D){x:aK}(hR:∀ r∈aG x,r∈R)(key:Int)(a:aP):vC D key (fA f x) a=vC B key x a:=by
 unfold vC
 rw[tL]
 cases h:fileOf x a.file.data.toList with
 | none=>rfl
 | some e=>
   have he:e∈x.files:=List.mem_of_find?_eq_some h
   have hr:e.root=0\/Clo B R e.root:=bB3 (hR _ (List.mem_append_left _ (bV.2 ⟨e,he,rfl⟩)))
   have hl:aH D 3 (f e.root)=aH B 3 e.root:=funext fun i=>hI.leaf 3 e.root hr i
   show (if a.kind=12 then [] else if bO7 a then nS (aR key (aH D 3 (f e.root))) e.size.toNat a.pos.toNat a.num.toNat else [])=_
   rw[hl]
theorem cM1 {B D:Nat->Blk}{t u:aO}(h:kP B D t u)(a:aP):aH7 u a=aH7 t a/\aH9 D u a=aH9 B t a:=by
 obtain⟨f,rfl,hI⟩:=h
 unfold aH7 aH9
 rw[bO0]
 cases h:setOf t a.set.data.toList with
 | none=>exact⟨rfl,rfl⟩
 | some x=>
   have hx:x∈t.sets:=List.mem_of_find?_eq_some h
   refine⟨?_,?_⟩
   ·show (if a.kind=11\/a.kind=12 then vB (fA f x) a else [])=_
    rw[bS1]
   ·show (if a.kind=11\/a.kind=12 then vC D t.key (fA f x) a else [])=_
    rw[bS4 hI fun r hr=>List.mem_flatMap.2 ⟨x,hx,hr⟩]
theorem pR {l:List aO}{i:Nat}{t:aO}(t':aO)(h:l[i]? =some t):(l.set i t')[i]? =some t':=by
 obtain⟨hi,_⟩:=List.getElem?_eq_some_iff.1 h
 rw[List.getElem?_set_self hi]
theorem bR5 {α:Type}{l:List α}{p:Nat}{y z:α}(h:z∈l.take p++y::l.drop p):z=y\/z∈l:=by
 rcases List.mem_append.1 h with h | h
 ·exact .inr (List.mem_of_mem_take h)
 ·rcases List.mem_cons.1 h with h | h
  ·exact .inl h
  ·exact .inr (List.mem_of_mem_drop h)
theorem aZ5 {α:Type}{l:List α}{k:Nat}(hk:k<l.length)(y:α):l.set k y=l.take k++y::l.drop (k+1):=by
 rw[List.set_eq_take_append_cons_drop,if_pos hk]
theorem rM {α:Type}{l:List α}{k:Nat}(hk:k<l.length){y z:α}(h:z∈l.eraseIdx k):z∈l.set k y:=by
 rw[aZ5 hk]
 rw[List.eraseIdx_eq_take_drop_succ] at h
 rcases List.mem_append.1 h with h | h
 ·exact List.mem_append_left _ h
 ·exact List.mem_append_right _ (List.mem_cons_of_mem _ h)
theorem aF6 {α:Type}{l:List α}{k:Nat}(hk:k<l.length){y z:α}(h:z∈l.set k y):z=y\/z∈l.eraseIdx k:=by
 rw[aZ5 hk] at h
 rw[List.eraseIdx_eq_take_drop_succ]
 rcases List.mem_append.1 h with h | h
 ·exact .inr (List.mem_append_left _ h)
 ·rcases List.mem_cons.1 h with h | h
  ·exact .inl h
  ·exact .inr (List.mem_append_right _ h)
theorem aA9 (f:Int->Int)(l:List aK)(k:Nat):(l.map (fA f)).eraseIdx k=(l.eraseIdx k).map (fA f):=by
 rw[List.eraseIdx_eq_take_drop_succ,List.eraseIdx_eq_take_drop_succ,List.map_append,List.map_take,List.map_drop]
theorem fK {l:List aK}{x:aK}{r:Int}(hx:x∈l)(hr:r∈aG x):r∈cZ l:=List.mem_flatMap.2 ⟨x,hx,hr⟩
theorem aP9 {n:Nat}{B C:Nat->Blk}{x y:aK}{fr nm:ByteArray}{R:List Int}(hB:Right n B)(hr:bE n B R)(h:ClF n B C x fr nm y):eH B C R:=fun z hz=>by
 have ht:=hz.there hB hr
 rw[h.more _ (ix ht.1 ht.2.1).1]
 exact⟨rfl,rfl,rfl⟩
theorem cQ8 {n:Nat}{B C D E:Nat->Blk}{x y y':aK}{fr nm:ByteArray}{f:Int->Int}(ho:oD x.snaps)(h:ClF n B C x fr nm y)(k:ClF n D E (fA f x) fr nm y'):y'=fA f y:=by
 obtain⟨q,hq,e1,e2⟩:=h.snap
 obtain⟨q', hq', e1', e2'⟩:=k.snap
 have hq0:q'<x.snaps.length:=by have:=cV7 (f:=f) (x:=x); omega
 have eg:(fA f x).snaps[q']=nW f x.snaps[q']:=List.getElem_map (nW f)
 have eq:q'=q:=qQ (f:=bD.nm) ho hq0 hq (by rw[e1,<-e1', eg]; rfl)
 subst eq
 have e3:y'.files=jJ f y.files:=by rw[e2', eg,e2]; rfl
 obtain⟨ny,fy,sy⟩:=y
 obtain⟨ny', fy', sy'⟩:=y'
 have a1:=h.name
 have a2:=k.name
 have a3:=h.none
 have a4:=k.none
 simp only at a1 a2 a3 a4 e3
 subst a1 a2 a3 a4 e3
 rfl
theorem bD4 {n:Nat}{B D B' D':Nat->Blk}{l m:List aO}{i k:Nat}{t:aO}{a:aP}{f:Int->Int}{x y y':aK}(hB:aQ n B l)(hD:aQ n D m)(hl:l[i]? =some t)(hm:m[i]? =some (aM2 f t))(hI:Iso f B (aL t) D)(hb:Bytes a.bytes)(hx:t.sets[k]? =some x)(d:Did n B t.key x a 2000 B' y)(d':Did n D t.key (fA f x) a 2000 D' y'):
 ∃ g,Iso g B' (cZ (t.sets.set k y)) D'/\(t.sets.map (fA f)).set k y'=(t.sets.set k y).map (fA g):=by
 have hBt:=hB.tens t (List.mem_of_getElem? hl)
 have hDu:=hD.tens _ (List.mem_of_getElem? hm)
 have hx':(aM2 f t).sets[k]? =some (fA f x):=by show (t.sets.map (fA f))[k]? =_; rw[List.getElem?_map,hx]; rfl
 obtain⟨_,tB,_⟩:=hB.changed hl hx hb hB.refs (qJ a) d
 obtain⟨_,tD,_⟩:=hD.changed hm hx' hb hD.refs (qJ a) d'
 obtain⟨hk,hkx⟩:=List.getElem?_eq_some_iff.1 hx
 have hxm:x∈t.sets:=List.mem_of_getElem? hx
 have hsub:∀ r∈aG x++cZ (t.sets.eraseIdx k),r∈aL t:=fun r hr=>by
  rcases List.mem_append.1 hr with hr | hr
  ·exact fK hxm hr
  ·obtain⟨z,hz,hr⟩:=List.mem_flatMap.1 hr
   exact fK (List.mem_of_mem_eraseIdx hz) hr
 have rB:=hBt.rootsOk
 have rD:=hDu.rootsOk
 rw[jT] at rD
 have hk':k<(t.sets.map (fA f)).length:=by rw[List.length_map]; exact hk
 obtain⟨g,hg,rfl,hgR⟩:=cK9 (R0:=cZ (t.sets.eraseIdx k)) (hBt.sets x hxm) hD.right hb ⟨by omega,by omega⟩ (fun r hr=>rB r (hsub r hr)) (fun r hr=>by
  obtain⟨s,hs,rfl⟩:=List.mem_map.1 hr
  exact rD _ (List.mem_map_of_mem (hsub s hs))) (hI.sub (xQ hsub)) d d' (fun r hr=>by
  refine tB.rootsOk r ?_
  rcases List.mem_append.1 hr with hr | hr
  ·exact fK (List.mem_set hk y) hr
  ·obtain⟨z,hz,hr⟩:=List.mem_flatMap.1 hr
   exact fK (rM hk hz) hr) (fun r hr=>by
  refine tD.rootsOk r ?_
  rcases List.mem_append.1 hr with hr | hr
  ·exact fK (List.mem_set hk' y') hr
  ·rw[<-oM,<-aA9] at hr
   obtain⟨z,hz,hr⟩:=List.mem_flatMap.1 hr
   exact fK (rM hk' hz) hr)
 refine⟨g,hg.sub (xQ fun r hr=>?_),?_⟩
 ·obtain⟨z,hz,hr2⟩:=List.mem_flatMap.1 hr
  rcases aF6 hk hz with rfl | hz
  ·exact List.mem_append_left _ hr2
  ·exact List.mem_append_right _ (fK hz hr2)
 ·have e:(t.sets.eraseIdx k).map (fA g)=(t.sets.eraseIdx k).map (fA f):=bI3 hgR
  rw[List.eraseIdx_eq_take_drop_succ,List.map_append,List.map_append] at e
  have hlen:((t.sets.take k).map (fA g)).length=((t.sets.take k).map (fA f)).length:=by rw[List.length_map,List.length_map]
  obtain⟨e1,e2⟩:=List.append_inj e hlen
  rw[aZ5 hk,aZ5 hk', List.map_append,List.map_cons,e1,e2,List.map_take,List.map_drop]
theorem cQ5 {n:Nat}{B D B' D':Nat->Blk}{l m l' m':List aO}{i:Nat}{t u:aO}{a:aP}{e N e' N':Int}(hB:aQ n B l)(hD:aQ n D m)(hl:l[i]? =some t)(hm:m[i]? =some u)(hI:kP B D t u)(hb:Bytes a.bytes)(h:dQ n B l i t a B' l' e N)(k:dQ n D m i u a D' m' e' N'):
 e'=e/\N'=N/\∃ t' u', l'[i]? =some t'/\m'[i]? =some u'/\kP B' D' t' u':=by
 have hBt:=hB.tens t (List.mem_of_getElem? hl)
 have hDu:=hD.tens u (List.mem_of_getElem? hm)
 have isB:=h.is hB hl hb
 have isD:=k.is hD hm hb
 obtain⟨f,rfl,hI⟩:=hI
 have hlen:(aM2 f t).sets.length=t.sets.length:=List.length_map _
 have h0:0<l.length:=by obtain⟨hi,_⟩:=List.getElem?_eq_some_iff.1 hl; omega
 have g0:0<m.length:=by obtain⟨hi,_⟩:=List.getElem?_eq_some_iff.1 hm; omega
 have stay:∃ t' u', l[i]? =some t'/\m[i]? =some u'/\kP B D t' u':=⟨t,_,hl,hm,f,rfl,hI⟩
 by_cases k1:a.kind=1
 ·obtain⟨rfl,rfl,hA⟩:=cI1 k1 h
  obtain⟨rfl,rfl,kA⟩:=cI1 k1 k
  rcases hA with⟨h1,rfl,h2⟩ | ⟨rfl,p,h1,h2,h3,rfl⟩<;>rcases kA with⟨g1,rfl,g2⟩ | ⟨rfl,p', g1,g2,g3,rfl⟩
  ·exact⟨(yX g2).uni h2,rfl,stay⟩
  ·exact(h2.not hBt.order g1 (by omega) (yE g3)).elim
  ·exact((yX g2).not hBt.order h1 h2 h3).elim
  ·refine⟨rfl,rfl,_,_,pR _ hl,pR _ hm,f,?_,hI.sub (xQ fun r hr=>?_)⟩
   ·have:=aB9 hBt.order h3 g3 ⟨a.set,[],[]⟩
    show aO.mk _ _ _=aO.mk _ _ _
    rw[<-this]
    rfl
   ·obtain⟨z,hz,hr2⟩:=List.mem_flatMap.1 hr
    rcases bR5 hz with rfl | hz
    ·cases hr2
    ·exact fK hz hr2
 by_cases k13:a.kind=13
 ·obtain⟨rfl,rfl,rfl,hu⟩:=bV3 k13 h
  obtain⟨rfl,rfl,rfl,gu⟩:=bV3 k13 k
  rw[jT] at gu
  exact⟨rfl,(hI.uses hu gu).symm,stay⟩
 by_cases hy:∃ x∈t.sets,x.nm=a.set.data.toList
 case neg=>
  obtain⟨rfl,rfl,rfl,rfl⟩:=bV4 k1 k13 hy h
  obtain⟨rfl,rfl,rfl,rfl⟩:=bV4 k1 k13 (fun f=>hy (cT8.1 f)) k
  exact⟨rfl,rfl,stay⟩
 have hy':∃ x∈(aM2 f t).sets,x.nm=a.set.data.toList:=cT8.2 hy
 by_cases k11:a.kind=11\/a.kind=12
 ·obtain⟨rfl,rfl,j,x,hx,rfl,rfl⟩:=bV5 k11 hy h
  obtain⟨rfl,rfl,j', x', hx', rfl,rfl⟩:=bV5 k11 hy' k
  obtain⟨rfl,rfl⟩:=vI hBt.order hx.1 hx.2 hx'.1 hx'.2
  exact⟨bS3 f x a,bS2 f x a,stay⟩
 by_cases k2:a.kind=2
 ·obtain⟨rfl,rfl,j,x,hx,hR,hF,rfl⟩:=aC3 k2 hy h
  obtain⟨rfl,rfl,j', x', hx', gR,gF,rfl⟩:=aC3 k2 hy' k
  obtain⟨rfl,rfl⟩:=vI hBt.order hx.1 hx.2 hx'.1 hx'.2
  have rB:=(isB.ok.tens _ (List.mem_of_getElem? (pR _ hl))).rootsOk
  have rD:=(isD.ok.tens _ (List.mem_of_getElem? (pR _ hm))).rootsOk
  have eu:(⟨(aM2 f t).key,(aM2 f t).quota,(aM2 f t).sets.eraseIdx j'⟩:aO)=aM2 f ⟨t.key,t.quota,t.sets.eraseIdx j'⟩:=by
   show aO.mk _ _ _=aO.mk _ _ _
   rw[<-aA9]
   rfl
  rw[eu,jT] at rD
  refine⟨rfl,rfl,_,_,pR _ hl,pR _ hm,f,eu,(hI.sub (xQ fun r hr=>?_)).keep (hF.sameOn hR rB) (gF.sameOn gR rD)⟩
  obtain⟨z,hz,hr⟩:=List.mem_flatMap.1 hr
  exact fK (List.mem_of_mem_eraseIdx hz) hr
 by_cases k10:a.kind=10
 ·obtain⟨rfl,j,x,hx,hA⟩:=bD3 k10 hy h
  obtain⟨rfl,j', x', hx', kA⟩:=bD3 k10 hy' k
  obtain⟨rfl,rfl⟩:=vI hBt.order hx.1 hx.2 hx'.1 hx'.2
  have hxm:x∈t.sets:=List.mem_of_getElem? hx.1
  rcases hA with⟨h1,rfl,rfl,h2⟩ | ⟨rfl,y,p,h1,h2,h3,h4,rfl⟩<;>rcases kA with⟨g1,rfl,rfl,g2⟩ | ⟨rfl,y', p', g1,g2,g3,g4,rfl⟩
  ·exact⟨g2.map.uni h2,rfl,stay⟩
  ·have hf:=yE g4
   have hn:aM a.file:=by rw[<-g2.name]; exact g1.name
   exfalso
   obtain⟨q,hq,e1,_⟩:=g2.snap
   have hs:∃ s∈x.snaps,s.nm=a.to.data.toList:=cT0.1 ⟨_,List.getElem_mem hq,e1⟩
   rcases h2 with (⟨_,h⟩ | ⟨_,_,h⟩) | ⟨_,h⟩
   ·exact h hn
   ·exact h hs
   ·have e:y'.nm=a.file.data.toList:=by unfold aK.nm; rw[g2.name]
    exact h.not hBt.order hn (by omega) (e▸hf)
  ·exact(g2.map.not hBt.order h1 h2 h3 h4).elim
  ·obtain rfl:=cQ8 (hBt.sets x hxm).orderS h2 g2
   have rB:bE n B (aL ⟨t.key,t.quota,t.sets.take p++y::t.sets.drop p⟩)/\∀ r∈aL ⟨t.key,t.quota,t.sets.take p++y::t.sets.drop p⟩,r∈aL t:=by
    have hs:∀ r∈aL ⟨t.key,t.quota,t.sets.take p++y::t.sets.drop p⟩,r∈aL t:=fun r hr=>by
     obtain⟨z,hz,hr2⟩:=List.mem_flatMap.1 hr
     rcases bR5 hz with rfl | hz
     ·obtain⟨q,hq,_,e2⟩:=h2.snap
      refine fK hxm ?_
      unfold aG at hr2 ⊢
      rw[h2.none,e2] at hr2
      rcases List.mem_append.1 hr2 with hr2 | hr2
      ·refine List.mem_append_right _ ?_
       exact List.mem_flatMap.2 ⟨x.snaps[q],List.getElem_mem hq,hr2⟩
      ·cases hr2
     ·exact fK hz hr2
    exact⟨fun r hr=>hBt.rootsOk r (hs r hr),hs⟩
   have rD:=hDu.rootsOk
   rw[jT] at rD
   refine⟨rfl,rfl,_,_,pR _ hl,pR _ hm,f,?_,(hI.sub (xQ rB.2)).keep (aP9 hB.right rB.1 h2) (aP9 hD.right (fun r hr=>?_) g2)⟩
   ·have:=aB9 hBt.order h4 g4 y
    show aO.mk _ _ _=aO.mk _ _ _
    rw[<-this]
    rfl
   ·obtain⟨s,hs,rfl⟩:=List.mem_map.1 hr
    exact rD _ (List.mem_map_of_mem (rB.2 s hs))
 have ho:bL1 a:=⟨k1,k13,fun f=>k11 (.inl f),fun f=>k11 (.inr f),k2,k10⟩
 obtain⟨rfl,j,x,hx,hA⟩:=aP2 ho hy h
 obtain⟨rfl,j', x', hx', kA⟩:=aP2 ho hy' k
 obtain⟨rfl,rfl⟩:=vI hBt.order hx.1 hx.2 hx'.1 hx'.2
 have tB:=hB.roomy h0
 have tD:=hD.roomy g0
 have can1:∀ {C y},Did n B t.key x a 2000 C y->aY4 x a:=fun⟨_,_,hY,_⟩=>hY.can
 have can2:∀ {C y},Did n D t.key (fA f x) a 2000 C y->aY4 x a:=fun⟨_,_,hY,_⟩=>yN.1 hY.can
 have both:∀ {B1 D1 y y' q q'},Did n B t.key x a 2000 B1 y->Did n D t.key (fA f x) a 2000 D1 y'->qU B1 (cZ (t.sets.set j' y)) q->qU D1 (cZ ((aM2 f t).sets.set j' y')) q'->q=q':=fun d d' u u'=>by
  obtain⟨g,hg,eg⟩:=bD4 hB hD hl hm hI hb hx.1 d d'
  have u2:qU _ (cZ ((t.sets.map (fA f)).set j' _)) _:=u'
  rw[eg,oM] at u2
  exact hg.uses u u2
 rcases hA with⟨h1,rfl,rfl,h2⟩ | ⟨rfl,y,q,h1,h2,h3,rfl⟩<;>rcases kA with⟨g1,rfl,rfl,g2⟩ | ⟨rfl,y', q', g1,g2,g3,rfl⟩
 ·refine⟨?_,rfl,stay⟩
  rcases h2 with⟨h2,h3⟩ | ⟨rfl,B1,y,q,h3,h4,h5⟩<;>rcases g2 with⟨g2,g3⟩ | ⟨rfl,D1,y', q', g3,g4,g5⟩
  ·exact(h3.same tB tD g3).symm
  ·exact absurd (can2 g3) (h3.cannot tB h2)
  ·exact absurd (yN.2 (can1 h3)) (g3.cannot tD g2)
  ·rfl
 ·exfalso
  rcases h2 with⟨h2,h3⟩ | ⟨rfl,B1,y,q,h3,h4,h5⟩
  ·exact absurd (can2 g1) (h3.cannot tB h2)
  ·have:=both h3 g1 h4 g2
   have hq:(aM2 f t).quota=t.quota:=rfl
   omega
 ·exfalso
  rcases g2 with⟨g2,g3⟩ | ⟨rfl,D1,y', q', g3,g4,g5⟩
  ·exact absurd (yN.2 (can1 h1)) (g3.cannot tD g2)
  ·have:=both h1 g3 h2 g4
   have hq:(aM2 f t).quota=t.quota:=rfl
   omega
 ·obtain⟨g,hg,eg⟩:=bD4 hB hD hl hm hI hb hx.1 h1 g1
  refine⟨rfl,rfl,_,_,pR _ hl,pR _ hm,g,?_,hg⟩
  show aO.mk _ _ _=aO.mk _ _ _
  rw[<-eg]
  rfl
end Go.Proofs.YtjafgnohlkkopaaGreatDoor
