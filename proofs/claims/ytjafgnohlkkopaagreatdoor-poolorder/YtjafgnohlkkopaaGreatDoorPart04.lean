import Derived.Test.YtjafgnohlkkopaaGreatDoorPart03
import Derived.Laws.IdiomCopy
import Derived.Laws.CopyOwn
import Derived.Test.YtjafgnohlkkopaaGreatDoorPart02
set_option linter.unusedVariables false
set_option maxHeartbeats 8000000
set_option maxRecDepth 100000
namespace Go.Proofs.YtjafgnohlkkopaaGreatDoor
open Go.RowKit
theorem cJ7 {i l:Nat}(h:i<=l):pw i<=pw l:=by
 induction l with
 | zero=>obtain rfl:i=0:=by omega
         exact Nat.le_refl _
 | succ l ih=>
   by_cases e:i=l+1
   ·subst e; exact Nat.le_refl _
   ·have:=ih (by omega); simp only[pw]; omega
theorem bO8 {l:Nat}(h:l<=3):pw l<=64:=cJ7 h
theorem vZ (l:Nat)(w:World)(hl:l<=3):
 Calls Tryz.prog 129 #[.int .i64 l] w fun e w'=>e=.returned (.int .i64 (pw l))/\w'=w:=by
 go_enter Tryz.func129,Tryz.ntmps129
 go_wp2_with fail
 go_loopw [3,5] (fun v u wr=>∃ i:Nat,i<=l/\v=.int .i64 (pw i)/\u=.int .i64 i/\wr=w) (fun _ u _=>l-(Go.RowKit.intOf u).toNat)
 case atStart=>exact⟨0,Nat.zero_le _,rfl,rfl,rfl⟩
 case round=>
  obtain⟨i,hil,rfl,rfl,rfl⟩:=hrel
  have hb:=bO8 (Nat.le_trans hil hl)
  have hs:((pw i:Nat):Int)*4=((pw (i+1):Nat):Int):=by simp only[pw]; omega
  have hs2:Int.ofNat (pw i)*4=((pw (i+1):Nat):Int):=hs
  by_cases hlt:i<l
  ·generalize pw i=q at *
   go_wp2_with fail
   go_roundw
   case rel=>exact⟨i+1,by omega,by go_num,by go_num,by simp⟩
   case measure=>simp[Go.RowKit.intOf]; omega
  ·obtain rfl:i=l:=by omega
   clear hs hs2
   go_wp2_with fail
   go_ret
   exact⟨rfl,rfl⟩
def cX2 (e:Ending)(lv:Int):Prop:=(∃ l:Nat,l<=3/\lv=l/\e=.returned (.tuple #[.int .i64 (pw l),.int .i64 0]))\/((lv<0\/3<lv)/\e=.returned (.tuple #[.int .i64 0,.int .i64 3]))
theorem bI7 (lv:Int)(w:World):
 Calls Tryz.prog 155 #[.int .i64 lv] w fun e w'=>cX2 e lv/\w'=w:=by
 by_cases h1:lv<0
 ·go_enter Tryz.func155,Tryz.ntmps155
  go_wp2_with fail
  go_ret2
  exact⟨.inr ⟨.inl h1,rfl⟩,rfl⟩
 ·by_cases h2:3<lv
  ·go_enter Tryz.func155,Tryz.ntmps155
   go_wp2_with fail
   go_ret2
   exact⟨.inr ⟨.inr h2,rfl⟩,rfl⟩
  ·obtain⟨l,rfl⟩:∃ l:Nat,lv=(l:Int):=⟨lv.toNat,by omega⟩
   have hl:l<=3:=by omega
   go_enter Tryz.func155,Tryz.ntmps155
   go_wp2_with fail
   refine(vZ l w hl).mono ?_
   rintro e w1 ⟨rfl,rfl⟩
   go_wp2_with fail
   go_ret2
   exact⟨.inl ⟨l,hl,rfl,rfl⟩,rfl⟩
def cW9 (e:Ending)(w:World)(l:List Int):Prop:=∃ ba bn bc,e=.returned (.slice ba bn bc)/\aI (fun _=>True) .u8 w ba bn l
theorem aX9 (p:Addr)(a:Option Addr)(n c:Nat)(B:Nat->Blk)(x:Int)(w:World)(hn:n<=400)(hs:w.cell? p=some (.slice a n c))(hS:aN w a n B)(hx:x=0\/There n B x):
 Calls Tryz.prog 131 #[.pointer (some p),.int .i64 x] w fun e w'=>cW9 e w (bytesL B x)/\w'=w:=by
 by_cases h0:x=0
 ·subst h0
  go_enter Tryz.func131,Tryz.ntmps131
  go_wp2_with fail
  go_ret
  exact⟨⟨none,0,0,rfl,by simp[bytesL]; exact dL _ _ _ _⟩,rfl⟩
 ·rcases hx with hx | hx
  ·exact absurd hx h0
  have hx0':(x == 0)=false:=by simp[h0]
  obtain⟨i,rfl⟩:∃ i:Nat,x=(i:Int)+1:=⟨(x-1).toNat,by have:=hx.1; omega⟩
  have hi:i<n:=by have:=hx.2.1; omega
  obtain⟨b,off,rfl,hlt,hB⟩:=hS (by omega)
  obtain⟨ka,kn,kc,ba,bn,bc,hb⟩:=hB i hi
  have c3:=hb.c3
  have hbb:=hb.bytes
  have e1:bytesL B ((i:Int)+1)=(B i).bytes:=by unfold bytesL; rw[if_neg h0,show ((i:Int)+1-1).toNat=i by omega]
  rw[e1]
  replace hbb:=hid hbb
  clear hb hB hS e1 hx
  go_enter Tryz.func131,Tryz.ntmps131
  go_wp2_with fail
  refine(uT p b off n c i _ hn hs hi).mono ?_
  rintro e w1 ⟨rfl,rfl⟩
  go_wp2_with fail
  go_ret
  exact⟨⟨_,_,_,rfl,hbb.out⟩,rfl⟩
def Checked (n:Nat)(B:Nat->Blk)(root lv i:Int):Prop:=Right n B/\∃ l:Nat,l<=3/\lv=l/\Root n B l root/\0<=i/\i<pw l
def aD4 (n:Nat)(B:Nat->Blk)(root lv i c:Int):Prop:=Right n B->lv=3->i=0->c=5/\¬(root=0\/There n B root)\/c=4/\(root=0\/There n B root)
def cT3 (e:Ending)(S:Int->Prop):Prop:=∀ c:Int,e=.returned (.tuple #[.slice none 0 0,.int .i64 c])->c≠0->S c
theorem qN {c:Int}{S:Int->Prop}(h:S c):cT3 (.returned (.tuple #[.slice none 0 0,.int .i64 c])) S:=fun d e _=>by
 simp at e
 exact e▸h
theorem aH2 {v:Value}{S:Int->Prop}:cT3 (.returned (.tuple #[v,.int .i64 0])) S:=fun d e h=>by
 simp at e
 exact absurd e.2.symm h
theorem wH (p:Addr)(a:Option Addr)(n c:Nat)(B:Nat->Blk)(root lv i:Int)(w:World)(h:kU w p a n c B):
 Calls Tryz.prog 128 #[.pointer (some p),.int .i64 root,.int .i64 lv,.int .i64 i] w fun e w'=>zB e (Checked n B root lv i) (aD4 n B root lv i)/\Below w.heap.size w w':=by
 replace h:=hid h
 go_enter Tryz.func128,Tryz.ntmps128
 go_wp2_with fail
 refine(mH p a n c B w h.out).mono ?_
 rintro e w1 ⟨⟨e1,rfl,he⟩,b1⟩
 replace h:=hid (h.out.below b1)
 by_cases h0:e1=0
 ·have h0':(e1 == 0)=true:=by simp[h0]
  have hR:=hid (he.1 h0)
  have hn:=hR.out.small
  clear he
  go_wp2_with fail
  refine(bI7 lv w1).mono ?_
  rintro e w2 ⟨⟨l,hl,rfl,rfl⟩ | ⟨hlv,rfl⟩,rfl⟩
  ·have hb:=bO8 hl
   by_cases hr0:root=0
   ·have hr0':(root == 0)=true:=by simp[hr0]
    by_cases hi:0<=i/\i<pw l
    ·have hi1:¬(i<0):=by omega
     have hi2:¬(((pw l:Nat):Int)<=i):=by omega
     have hy:=hid (gV (S:=aD4 n B root l i) (p:=Checked n B root l i) ⟨hR.out,l,hl,rfl,.inl hr0,hi.1,hi.2⟩)
     clear hi
     generalize pw l=q at *
     go_wp2_with fail
     go_ret
     exact⟨hy.out,b1⟩
    ·have hno:Hid (¬Checked n B root l i):=hid (fun f=>by obtain⟨_,l', _,e,_,h1,h2⟩:=f; have e':l=l':=(by omega); subst e'; exact hi ⟨h1,h2⟩)
     have hs3:Hid (aD4 n B root l i 3):=hid fun _ _ e=>absurd ⟨by omega,by have:=lH l; omega⟩ hi
     by_cases hi1:i<0
     ·clear hi
      generalize pw l=q at *
      go_wp2_with fail
      go_ret
      exact⟨aU 3 (by omega) hno.out hs3.out,b1⟩
     ·have hi2:((pw l:Nat):Int)<=i:=by omega
      clear hi
      generalize pw l=q at *
      go_wp2_with fail
      go_ret
      exact⟨aU 3 (by omega) hno.out hs3.out,b1⟩
   ·have hr0':(root == 0)=false:=by simp[hr0]
    have s1:=h.out.cell
    go_wp2_with fail
    refine(nM p a n c B root w2 hn s1 h.out.store).mono ?_
    rintro e w3 ⟨⟨t,rfl,ht⟩,rfl⟩
    cases t
    ·have hno:Hid (¬Checked n B root l i):=hid (fun f=>by
      obtain⟨_,l', _,e,hr,_⟩:=f
      rcases hr with hr | ⟨hr,_⟩
      ·exact hr0 hr
      ·exact absurd (ht.2 hr) (by simp))
     have hs5:Hid (aD4 n B root l i 5):=hid fun _ _ _=>.inl ⟨rfl,fun f=>by
      rcases f with f | f
      ·exact hr0 f
      ·exact absurd (ht.2 f) (by simp)⟩
     clear ht
     go_wp2_with fail
     go_ret
     exact⟨aU 5 (by omega) hno.out hs5.out,b1⟩
    ·have hth:=ht.1 rfl
     obtain⟨j,rfl⟩:∃ j:Nat,root=(j:Int)+1:=⟨(root-1).toNat,by have:=hth.1; omega⟩
     have hj:j<n:=by have:=hth.2.1; omega
     obtain⟨b,off,rfl,hlt,hB⟩:=h.out.store (by omega)
     obtain⟨ka,kn,kc,ba,bn,bc,hbk⟩:=hB j hj
     have c1:=hbk.c1
     have ej:((j:Int)+1-1).toNat=j:=by omega
     clear ht hbk hB
     replace hth:=hid hth
     go_wp2_with fail
     refine(uT p b off n c j _ hn s1 hj).mono ?_
     rintro e w4 ⟨rfl,rfl⟩
     by_cases hlv:(B j).level=l
     ·have hlv':((B j).level == (l:Int))=true:=by simp[hlv]
      by_cases hi:0<=i/\i<pw l
      ·have hi1:¬(i<0):=by omega
       have hi2:¬(((pw l:Nat):Int)<=i):=by omega
       have hy:=hid (gV (S:=aD4 n B ((j:Int)+1) l i) (p:=Checked n B ((j:Int)+1) l i) ⟨hR.out,l,hl,rfl,.inr ⟨hth.out,by rw[ej]; exact hlv⟩,hi.1,hi.2⟩)
       clear hi
       generalize pw l=q at *
       generalize (B j).level=lv at *
       go_wp2_with fail
       go_ret
       exact⟨hy.out,b1⟩
      ·have hno:Hid (¬Checked n B ((j:Int)+1) l i):=hid (fun f=>by obtain⟨_,l', _,e,_,h1,h2⟩:=f; have e':l=l':=(by omega); subst e'; exact hi ⟨h1,h2⟩)
       have hs3:Hid (aD4 n B ((j:Int)+1) l i 3):=hid fun _ _ e=>absurd ⟨by omega,by have:=lH l; omega⟩ hi
       by_cases hi1:i<0
       ·clear hi
        generalize pw l=q at *
        generalize (B j).level=lv at *
        go_wp2_with fail
        go_ret
        exact⟨aU 3 (by omega) hno.out hs3.out,b1⟩
       ·have hi2:((pw l:Nat):Int)<=i:=by omega
        clear hi
        generalize pw l=q at *
        generalize (B j).level=lv at *
        go_wp2_with fail
        go_ret
        exact⟨aU 3 (by omega) hno.out hs3.out,b1⟩
     ·have hlv':((B j).level == (l:Int))=false:=by simp[hlv]
      have hlv2:((B j).level != (l:Int))=true:=by simp[hlv]
      have hj2:((j:Int)+1 != 0)=true:=by simp; omega
      have hno:Hid (¬Checked n B ((j:Int)+1) l i):=hid (fun f=>by
       obtain⟨_,l', _,e,hr,_⟩:=f
       obtain rfl:l=l':=by omega
       rcases hr with hr | ⟨_,hr⟩
       ·omega
       ·rw[ej] at hr; exact hlv hr)
      clear hlv
      generalize (B j).level=lv at *
      go_wp2_with fail
      go_ret
      exact⟨aU 4 (by omega) hno.out (fun _ _ _=>.inr ⟨rfl,.inr hth.out⟩),b1⟩
  ·have hno:Hid (¬Checked n B root lv i):=hid (fun f=>by obtain⟨_,l,_,e,_⟩:=f; omega)
   have hs3:Hid (aD4 n B root lv i 3):=hid fun _ e _=>by omega
   go_wp2_with fail
   go_ret
   exact⟨aU 3 (by omega) hno.out hs3.out,b1⟩
 ·have h0':(e1 == 0)=false:=by simp[h0]
  have hno:Hid (¬Checked n B root lv i):=hid (fun f=>h0 (he.2 f.1))
  have hs1:Hid (aD4 n B root lv i e1):=hid fun f=>absurd (he.2 f) h0
  clear he
  go_wp2_with fail
  go_ret
  exact⟨aU e1 h0 hno.out hs1.out,b1⟩
theorem aD5 (p:Addr)(a:Option Addr)(n c:Nat)(B:Nat->Blk)(root lv i:Int)(w:World)(h:kU w p a n c B):
 Calls Tryz.prog 128 #[.pointer (some p),.int .i64 root,.int .i64 lv,.int .i64 i] w fun e w'=>aY1 e (Checked n B root lv i)/\Below w.heap.size w w':=(wH p a n c B root lv i w h).mono fun _ _ f=>⟨f.1.ret,f.2⟩
theorem Tryz.infoInt1:(Tryz.prog.info? 3).map (·.size)=some 1:=by kernel_rfl
theorem cT9 (w:World)(g kb ko kc:Nat)(k0 k1 k2 k3:Int)(t:TypeId)(hg:aC w g #[.int .i64 0,.int .i64 0,.int .i64 0,.int .i64 0] t)
 (c0:w.cell? ⟨kb,ko,none⟩=some (.int .i64 k0)) (c1:w.cell? ⟨kb,ko+1,none⟩=some (.int .i64 k1)) (c2:w.cell? ⟨kb,ko+2,none⟩=some (.int .i64 k2)) (c3:w.cell? ⟨kb,ko+3,none⟩=some (.int .i64 k3)):
 ∃ w', (∀ ty,(Builtin.copy_ #[36,36] ty #[.slice (some ⟨g,0,none⟩) 4 4,.slice (some ⟨kb,ko,none⟩) 4 kc]).run Tryz.prog w=.ok (goInt 4) w')/\aC w' g #[.int .i64 k0,.int .i64 k1,.int .i64 k2,.int .i64 k3] t/\Kept g w w':=by
 refine⟨w.setRow g #[.int .i64 k0,.int .i64 k1,.int .i64 k2,.int .i64 k3],fun ty=>?_,?_,⟨rfl,rfl,rfl,by simp[World.setRow],fun k hk=>setRow_other w g k _ hk⟩⟩
 ·have:=run_copy_row (P:=Tryz.prog) w 36 36 ty 3 g 0 4 4 ⟨kb,ko,none⟩ 4 kc _ t [.int .i64 k0,.int .i64 k1,.int .i64 k2,.int .i64 k3] Tryz.underlying36 Tryz.infoInt1 hg rfl (by
   intro j v hj
   match j,hj with
   | 0,hj=>simp at hj; subst hj; exact c0
   | 1,hj=>simp at hj; subst hj; exact c1
   | 2,hj=>simp at hj; subst hj; exact c2
   | 3,hj=>simp at hj; subst hj; exact c3
   | j+4,hj=>simp at hj) (by simp) (by intro v hv; simp at hv; rcases hv with rfl | rfl | rfl | rfl<;>rfl)
  simpa using this
 ·exact setRow_heap w g _ _ t _ hg
theorem aB5 (p:Addr)(a:Option Addr)(n c:Nat)(B:Nat->Blk)(x:Int)(k0 k1 k2 k3:Int)(w:World)(hn:n<=400)(h:kU w p a n c B)(hx:x=0\/There n B x)(hk:kidsL B x=[k0,k1,k2,k3]):
 Calls Tryz.prog 132 #[.pointer (some p),.int .i64 x] w fun e w'=>e=.returned (.agg #[.int .i64 k0,.int .i64 k1,.int .i64 k2,.int .i64 k3])/\Below w.heap.size w w':=by
 have b0:=(aA w (.cells #[.int .i64 0,.int .i64 0,.int .i64 0,.int .i64 0] 202)).alloc (by simp) (.cells #[.int .i64 0,.int .i64 0,.int .i64 0,.int .i64 0] 202)
 have r1:aC _ w.heap.size #[.int .i64 0,.int .i64 0,.int .i64 0,.int .i64 0] 202:=(aB w _ _).below (aA _ (.cells #[.int .i64 0,.int .i64 0,.int .i64 0,.int .i64 0] 202))
 have r2:=aF w (.cells #[.int .i64 0,.int .i64 0,.int .i64 0,.int .i64 0] 202) #[.int .i64 0,.int .i64 0,.int .i64 0,.int .i64 0] 202
 replace h:=hid h
 replace r1:=hid r1
 replace r2:=hid r2
 by_cases h0:x=0
 ·subst h0
  obtain⟨rfl,rfl,rfl,rfl⟩:k0=0/\k1=0/\k2=0/\k3=0:=by rw[jV] at hk; simp at hk; omega
  go_enter Tryz.func132,Tryz.ntmps132
  go_wp2_with fail
  refine bodyPost_ret (v:=.agg #[.int .i64 0,.int .i64 0,.int .i64 0,.int .i64 0]) ?_ rfl ⟨rfl,b0⟩
  exact results_cell_row rfl _ _ w.heap.size _ _ _ _ rfl r1.out Tryz.underlying202 rfl (by kernel_rfl)
 ·rcases hx with hx | hx
  ·exact absurd hx h0
  have hx0':(x == 0)=false:=by simp[h0]
  obtain⟨i,rfl⟩:∃ i:Nat,x=(i:Int)+1:=⟨(x-1).toNat,by have:=hx.1; omega⟩
  have hi:i<n:=by have:=hx.2.1; omega
  have hP:=h.out.below b0
  have s1:=hP.cell
  obtain⟨b,off,rfl,hlt,hB⟩:=hP.store (by omega)
  obtain⟨ka,kn,kc,ba,bn,bc,hb⟩:=hB i hi
  have c2:=hb.c2
  have e1:kidsL B ((i:Int)+1)=(B i).kids:=by unfold kidsL; rw[if_neg h0,show ((i:Int)+1-1).toNat=i by omega]
  rw[e1] at hk
  have hkk:=hb.kids
  rw[hk] at hkk
  obtain rfl:kn=4:=hkk.1.symm
  obtain⟨kb,ko,rfl,hkb,_,hc⟩:=hkk.2.2 (by omega)
  have q0:World.cell? _ ⟨kb,ko,none⟩=some (.int .i64 k0):=hc 0 (by omega)
  have q1:World.cell? _ ⟨kb,ko+1,none⟩=some (.int .i64 k1):=hc 1 (by omega)
  have q2:World.cell? _ ⟨kb,ko+2,none⟩=some (.int .i64 k2):=hc 2 (by omega)
  have q3:World.cell? _ ⟨kb,ko+3,none⟩=some (.int .i64 k3):=hc 3 (by omega)
  clear hc hkk hk e1 hb hB hP hx
  go_enter Tryz.func132,Tryz.ntmps132
  go_upto_region 3 with fail
  have bd:=b0.drew
  obtain⟨w5,hcp,k5,kp5⟩:=cT9 _ (w.heap.size+1) kb ko kc k0 k1 k2 k3 202 (r2.out.below (aD _ _)) q0 q1 q2 q3
  clear q0 q1 q2 q3
  replace k5:=hid k5
  replace kp5:=hid kp5
  go_cut [] from 8 (fun wc=>aC wc w.heap.size #[.int .i64 0,.int .i64 0,.int .i64 0,.int .i64 0] 202/\aC wc (w.heap.size+1) #[.int .i64 k0,.int .i64 k1,.int .i64 k2,.int .i64 k3] 202/\Below w.heap.size w wc)
  case first=>
   go_region_with (go_at_call 109; refine(uT p b off n c i _ hn ?_ hi).mono ?_; exact s1; rintro e w1 ⟨rfl,rfl⟩)
   all_goals (go_wp2_with fail; go_meet; exact⟨(by unfold aC; rw[kp5.out.block w.heap.size (by omega)]; exact r1.out.below (aD _ _)),k5.out,bd.trans (kp5.out.below (by omega))⟩)
  case rest=>
   obtain⟨m1,m2,bm⟩:=hcut
   clear hcp k5 kp5 bd r1 r2 b0 s1 hlt hkb c2 h
   have d0:=m1.cell 0
   have d1:=m1.cell 1
   have d2:=m1.cell 2
   have d3:=m1.cell 3
   have e0:=m1.frozen 0
   have e1:=m1.frozen 1
   have e2:=m1.frozen 2
   have e3:=m1.frozen 3
   have l0:=m2.cell 0
   have l1:=m2.cell 1
   have l2:=m2.cell 2
   have l3:=m2.cell 3
   simp at d0 d1 d2 d3 l0 l1 l2 l3
   replace m1:=hid m1
   replace m2:=hid m2
   go_wp2_with fail
   clear d0 d1 d2 d3 e0 e1 e2 e3 l0 l1 l2 l3
   rename_i wc
   have kk2:=jG wc w.heap.size 0 (.int .i64 k0) (.int .i64 k1) (.int .i64 k2) (.int .i64 k3)
   have kz:=(((m1.out.set 0 (.int .i64 k0)).set 1 (.int .i64 k1)).set 2 (.int .i64 k2)).set 3 (.int .i64 k3)
   simp only[List.setIfInBounds_toArray,List.set_cons_succ,List.set_cons_zero] at kz
   refine bodyPost_ret (v:=.agg #[.int .i64 k0,.int .i64 k1,.int .i64 k2,.int .i64 k3]) ?_ rfl ⟨rfl,bm.trans (kk2.below (Nat.le_refl _))⟩
   exact results_cell_row rfl _ _ w.heap.size _ _ _ _ rfl kz Tryz.underlying202 rfl (by kernel_rfl)
def sK (w w':World)(a:Addr):Prop:=w'.cell? a=w.cell? a\/∃ (x:Option Addr) (ln lc:Nat),w'.cell? a=some (.slice x ln lc)/\(0<ln->∃ b off,x=some ⟨b,off,none⟩/\w.heap.size<=b)
def eD (w w':World)(g n:Nat):Prop:=∀ k,k<n->sK w w' ⟨g,k*4+2,none⟩/\sK w w' ⟨g,k*4+3,none⟩
theorem sK.trans {a b c:World}{x:Addr}(h:sK a b x)(k:sK b c x)(hs:a.heap.size<=b.heap.size):sK a c x:=by
 rcases k with k | ⟨y,ln,lc,k1,k2⟩
 ·rcases h with h | ⟨y,ln,lc,h1,h2⟩
  ·exact .inl (k.trans h)
  ·exact .inr ⟨y,ln,lc,k.trans h1,h2⟩
 ·exact .inr ⟨y,ln,lc,k1,fun hn=>by obtain⟨b,off,e,hb⟩:=k2 hn; exact⟨b,off,e,Nat.le_trans hs hb⟩⟩
theorem eD.trans {a b c:World}{g n:Nat}(h:eD a b g n)(k:eD b c g n)(hs:a.heap.size<=b.heap.size):eD a c g n:=fun i hi=>⟨(h i hi).1.trans (k i hi).1 hs,(h i hi).2.trans (k i hi).2 hs⟩
theorem eD.of_below {w w':World}{g n:Nat}(h:Below w.heap.size w w')(hg:g<w.heap.size):eD w w' g n:=fun k _=>⟨.inl (h.cell (p:=⟨g,k*4+2,none⟩) hg),.inl (h.cell (p:=⟨g,k*4+3,none⟩) hg)⟩
theorem eD.of_kept {w w':World}{g n q:Nat}(h:Kept q w w')(hg:g≠q):eD w w' g n:=fun k _=>⟨.inl (h.cell (p:=⟨g,k*4+2,none⟩) hg),.inl (h.cell (p:=⟨g,k*4+3,none⟩) hg)⟩
theorem eD.set {w w':World}{g n:Nat}(h:eD w w' g n)(m:Nat)(v:Value):eD w (w'.setCell ⟨g,m*4,none⟩ v) g n:=fun k hk=>by
 have e1:(w'.setCell ⟨g,m*4,none⟩ v).cell? ⟨g,k*4+2,none⟩=w'.cell? ⟨g,k*4+2,none⟩:=aJ (by omega)
 have e2:(w'.setCell ⟨g,m*4,none⟩ v).cell? ⟨g,k*4+3,none⟩=w'.cell? ⟨g,k*4+3,none⟩:=aJ (by omega)
 unfold sK
 rw[e1,e2]
 exact h k hk
theorem bO9 {w w4 w5:World}{g n i:Nat}{v0 v1:Value}{ka ba xa ya:Option Addr}{kn kc bn bc xn xc yn yc:Nat}{K1 K2:List Int}(b1:Below w.heap.size w w4)(b5:Below w4.heap.size w4 w5)(hg:g<w.heap.size)(hi:i<n)
 (d2:w5.cell? ⟨g,i*4+2,none⟩=some (.slice xa xn xc)) (d3:w5.cell? ⟨g,i*4+3,none⟩=some (.slice ya yn yc)) (hK:aI (fun b=>w4.heap.size<=b) .i64 w5 ka kn K1) (hB:aI (fun b=>w4.heap.size<=b) .u8 w5 ba bn K2):
 eD w (cA0 w5 g (i*4) v0 v1 (.slice ka kn kc) (.slice ba bn bc)) g n:=by
 have hs:=b1.size
 have f5:eD w w5 g n:=eD.of_below (Below.tr b1 b5) hg
 intro k hk
 by_cases e:k=i
 ·subst e
  refine⟨.inr ⟨ka,kn,kc,?_,fun hn=>?_⟩,.inr ⟨ba,bn,bc,?_,fun hn=>?_⟩⟩
  ·rw[aJ (by omega)]
   exact gX (u:=.slice xa xn xc) (by rw[aJ (by omega),aJ (by omega)]; exact d2)
  ·obtain⟨b,off,e,_,hq,_⟩:=hK.2.2 hn; exact⟨b,off,e,by omega⟩
  ·exact gX (u:=.slice ya yn yc) (by rw[aJ (by omega),aJ (by omega),aJ (by omega)]; exact d3)
  ·obtain⟨b,off,e,_,hq,_⟩:=hB.2.2 hn; exact⟨b,off,e,by omega⟩
 ·have e1:(cA0 w5 g (i*4) v0 v1 (.slice ka kn kc) (.slice ba bn bc)).cell? ⟨g,k*4+2,none⟩=w5.cell? ⟨g,k*4+2,none⟩:=by rw[aJ (by omega),aJ (by omega),aJ (by omega),aJ (by omega)]
  have e2:(cA0 w5 g (i*4) v0 v1 (.slice ka kn kc) (.slice ba bn bc)).cell? ⟨g,k*4+3,none⟩=w5.cell? ⟨g,k*4+3,none⟩:=by rw[aJ (by omega),aJ (by omega),aJ (by omega),aJ (by omega)]
  unfold sK
  rw[e1,e2]
  exact f5 k hk
theorem dF.past {w w' wq:World}{p:Addr}{g n q:Nat}{B C:Nat->Blk}{v:Value}{d:Nat}(h:dF w p g n B)(hq:w.heap.size<=q)(k:dF w' p g n C)(hf:eD wq w' g n)(hw2:∀ k,k<n->wq.cell? ⟨g,k*4+2,none⟩=w.cell? ⟨g,k*4+2,none⟩/\wq.cell? ⟨g,k*4+3,none⟩=w.cell? ⟨g,k*4+3,none⟩)(hlt:q<wq.heap.size):
 dF (w'.setCell ⟨q,d,none⟩ v) p g n C:=by
 have hpl:=h.lt
 have hgl:=h.own.lt
 have hk:Kept q w' (w'.setCell ⟨q,d,none⟩ v):=Kept.setCell (Kept.refl _ _) (p:=⟨q,d,none⟩) rfl v
 refine⟨by rw[hk.size]; exact k.lt,k.ne,(hk.cell (by omega)).trans k.cell,⟨by rw[hk.size]; exact k.own.lt,fun i hi=>?_,fun i hi=>(hk.frozen (p:=⟨g,i,none⟩) (by show g≠q; omega)).trans (k.own.free i hi)⟩⟩
 obtain⟨ka,kn,kc,ba,bn,bc,b⟩:=k.own.cell hi
 obtain⟨ka', kn', kc', ba', bn', bc', b'⟩:=h.own.cell hi
 rw[Nat.zero_add]
 have key:∀ {kd:IntKind} {x x':Option Addr} {ln lc ln' lc' j:Nat} {L L':List Int},sK wq w' ⟨g,i*4+j,none⟩->wq.cell? ⟨g,i*4+j,none⟩=w.cell? ⟨g,i*4+j,none⟩->w'.cell? ⟨g,i*4+j,none⟩=some (.slice x ln lc)->w.cell? ⟨g,i*4+j,none⟩=some (.slice x' ln' lc')->
  aI (fun b=>g<b) kd w x' ln' L'->aI (fun b=>g<b) kd w' x ln L->aI (fun b=>g<b) kd (w'.setCell ⟨q,d,none⟩ v) x ln L:=by
  intro kd x x' ln lc ln' lc' j L L' hfc hc hw' hw0 hL' hL
  have hne:0<ln->∃ b off,x=some ⟨b,off,none⟩/\b≠q:=by
   intro hn
   rcases hfc with e | ⟨y,ln2,lc2,e,hy⟩
   ·rw[hw', hc,hw0] at e
    simp at e
    obtain⟨e1,e2,_⟩:=e
    obtain⟨b,off,e3,hlt', _⟩:=hL'.2.2 (by omega)
    exact⟨b,off,by rw[e1,e3],by omega⟩
   ·rw[hw'] at e
    simp at e
    obtain⟨e1,e2,_⟩:=e
    obtain⟨b,off,e3,hb⟩:=hy (by omega)
    exact⟨b,off,by rw[e1,e3],by omega⟩
  refine⟨hL.1,hL.2.1,fun hn=>?_⟩
  obtain⟨b,off,rfl,hlt', hgb,hcs⟩:=hL.2.2 hn
  obtain⟨b2,off2,e,hne'⟩:=hne hn
  simp at e
  obtain⟨rfl,rfl⟩:=e
  exact⟨b,off,rfl,by rw[hk.size]; exact hlt', hgb,fun t ht=>(hk.cell (p:=⟨b,off+t,none⟩) hne').trans (hcs t ht)⟩
 have hfi:=hf i hi
 have hwi:=hw2 i hi
 have gq:g≠q:=by omega
 exact⟨ka,kn,kc,ba,bn,bc,(hk.cell (p:=⟨g,i*4,none⟩) gq).trans b.c0,(hk.cell (p:=⟨g,i*4+1,none⟩) gq).trans b.c1,(hk.cell (p:=⟨g,i*4+2,none⟩) gq).trans b.c2,(hk.cell (p:=⟨g,i*4+3,none⟩) gq).trans b.c3,
  key hfi.1 hwi.1 b.c2 b'.c2 b'.kids b.kids,key hfi.2 hwi.2 b.c3 b'.c3 b'.bytes b.bytes,b.refs,b.level,b.caps⟩
theorem aM3 (p:Addr)(g n:Nat)(B:Nat->Blk)(K:Blk)(ka:Option Addr)(kn kc:Nat)(ba:Option Addr)(bn bc:Nat)(Q:Nat->Prop)(w:World)(h:dF w p g n B)
 (hQ:∀ b,Q b->b≠g) (hk:aI Q .i64 w ka kn K.kids) (hb:aI Q .u8 w ba bn K.bytes) (hl:-9223372036854775808<=K.level/\K.level<=9223372036854775807) (hcc:kn<=kc/\bn<=bc):
 Calls Tryz.prog 206 #[.pointer (some p),.agg #[.int .i64 K.refs,.int .i64 K.level,.slice ka kn kc,.slice ba bn bc]] w fun e w'=>Made e p g n B K w'/\Out g w w'/\eD w w' g n:=by
 have hg0:g<w.heap.size:=h.own.lt
 have b0:=aA w (.cells #[.int .i64 K.refs,.int .i64 K.level,.slice ka kn kc,.slice ba bn bc] 135)
 have k0:=aB w #[.int .i64 K.refs,.int .i64 K.level,.slice ka kn kc,.slice ba bn bc] 135
 replace k0:=hid k0
 replace hk:=hid hk
 replace hb:=hid hb
 replace h:=hid h
 replace hQ:=hid hQ
 go_enter Tryz.func206,Tryz.ntmps206
 go_wp2_with fail
 generalize w.alloc (.cells #[.int .i64 K.refs,.int .i64 K.level,.slice ka kn kc,.slice ba bn bc] 135)=w0 at *
 refine(mH p _ n n B w0 (h.out.below b0).ptr).mono ?_
 rintro e w1 ⟨⟨e', rfl,he⟩,b1⟩
 replace k0:=k0.out.below b1
 replace b1:=Below.tr b0 b1
 clear b0
 replace he:=hid he
 by_cases h0:e'=0
 ·have h0':(e' == 0)=true:=by simp[h0]
  have hR:=he.out.1 h0
  have hn:=hR.small
  have c0:=k0.cell 0
  have f0:=k0.frozen 0
  simp at c0
  replace hR:=hid hR
  replace k0:=hid k0
  go_wp2_with fail
  clear c0 f0
  have kk:=Kept.setCell (g:=w.heap.size) (Kept.refl _ w1) (p:=⟨w.heap.size,0,none⟩) rfl (.int .i64 1)
  have k1:=k0.out.set 0 (.int .i64 1)
  simp only[List.setIfInBounds_toArray,List.set_cons_zero] at k1
  replace b1:=b1.trans (kk.below (Nat.le_refl _))
  clear kk k0
  generalize w1.setCell ⟨w.heap.size,0,none⟩ (.int .i64 1)=w2 at *
  have hP2:=h.out.below b1
  refine(zL p _ n n B w.heap.size 0 Q { K with refs:=1 } ka kn kc ba bn bc w2 hn hP2.cell hP2.own.store ⟨k1.cell 0,k1.cell 1,k1.cell 2,k1.cell 3,hk.out.below b1,hb.out.below b1,by simp,hl,hcc⟩).mono ?_
  rintro e w3 ⟨⟨e2,rfl,he2⟩,m,rfl⟩
  replace b1:=b1.trans (below_drewN w.heap.size w2 m)
  replace k1:=k1.below (below_drewN _ w2 m)
  clear hP2
  generalize w2.drewN m=w3 at *
  replace he2:=hid he2
  by_cases h2:e2=0
  ·have h2':(e2 == 0)=true:=by simp[h2]
   have hF:=he2.out.1 h2
   have h4:kn<=4/\bn<=4:=by rw[<-hk.out.1,<-hb.out.1]; exact⟨hF.few,hF.few2⟩
   have hP3:=h.out.below b1
   have s3:=hP3.cell
   replace hF:=hid hF
   replace k1:=hid k1
   go_wp2_with fail
   refine(aG4 _ n n B w3 hn hP3.own.store).mono ?_
   rintro e w4 ⟨hix,b4⟩
   replace k1:=hid (k1.out.below b4)
   replace b1:=Below.tr b1 b4
   clear b4 hP3 s3
   rcases hix with⟨rfl,hno⟩ | ⟨i,hi,rfl,hi0,hmin⟩
   ·replace hno:=hid hno
    go_wp2_with fail
    go_ret2
    exact⟨.inl ⟨8,rfl,by omega,⟨fun f=>by obtain⟨_,_,k,hk', hk0⟩:=f; exact hno.out k hk' hk0,fun _ _=>rfl⟩⟩,Out.of_below b1,eD.of_below b1 hg0⟩
   ·replace hi0:=hid hi0
    replace hmin:=hid hmin
    have hP4:=h.out.below b1
    have s4:=hP4.cell
    have q0:=k1.out.cell 0
    have q1:=k1.out.cell 1
    have q2:=k1.out.cell 2
    have q3:=k1.out.cell 3
    simp at q0 q1 q2 q3
    have hlt4:=k1.out.lt
    obtain⟨xa,xn,xc,ya,yn,yc,hx⟩:=hP4.own.cell hi
    have hiI:(i:Int)<(n:Int):=by omega
    have hiI0:(0:Int)<=(i:Int):=by omega
    replace hP4:=hid hP4
    replace hx:=hid hx
    go_upto_region 11 with fail
    go_cut [] from 29 (fun wc=>dF wc p g n (upd B i { K with refs:=1 })/\aC wc w.heap.size #[.int .i64 1,.int .i64 K.level,.slice ka kn kc,.slice ba bn bc] 135/\Out g w wc/\eD w wc g n)
    case first=>
     go_region_with (go_at_call 63; refine(rX { K with refs:=1 } ka kn kc ba bn bc Q _ ?_ ?_ h4).mono ?_; exact(hk.out.below b1).below (aD _ _); exact(hb.out.below b1).below (aD _ _); rintro e w5 ⟨⟨ka', kn', kc', ba', bn', bc', rfl,hK', hB', hc1', hc2'⟩,b5⟩; replace b5:Below w4.heap.size w4 w5:=(aD _ _).trans b5; have s5:=(b5.cell (p:=p) hP4.out.lt).trans s4; have hx5:=hx.out.below b5; have d0:=hx5.c0; have d1:=hx5.c1; have d2:=hx5.c2; have d3:=hx5.c3; have hO5:=hP4.out.own.below b5; have e0:=hO5.free (i*4) (by omega); have e1:=hO5.free (i*4+1) (by omega); have e2:=hO5.free (i*4+2) (by omega); have e3:=hO5.free (i*4+3) (by omega); have k5:=hid (k1.out.below b5); replace hK':=hid hK'; replace hB':=hid hB'; replace b5:=hid b5; clear hO5 hx5)
     all_goals (go_wp2_with fail; go_meet; exact⟨cJ8 hP4.out b5.out hi { K with refs:=1 } hK'.out hB'.out (by simp) hl ⟨hc1', hc2'⟩,bP0 k5.out (by omega),cJ9 b1 b5.out hlt4,bO9 b1 b5.out hg0 hi d2 d3 hK'.out hB'.out⟩)
    case rest=>
     obtain⟨hP,hk5,hout,hfr⟩:=hcut
     replace hfr:=hid hfr
     have q5:=hk5.cell 2
     simp at q5
     have hkl:=hid hk.out.1
     replace hP:=hid hP
     clear s4 q0 q1 q2 q3 hiI hiI0 hP4 hx k1 hk5
     go_wp2_with fail
     go_loopw [40] (fun v wr=>∃ j:Nat,j<=kn/\v=.int .i64 j/\dF wr p g n (bump (upd B i { K with refs:=1 }) K.kids j)/\Out g w wr/\eD w wr g n) (fun v _=>kn-(Go.RowKit.intOf v).toNat)
     case atStart=>exact⟨0,Nat.zero_le _,rfl,by rw[bW6]; exact hP.out,hout,hfr.out⟩
     case round=>
      clear hP hout q5 hfr
      obtain⟨j,hjn,rfl,hP,hout,hfr⟩:=hrel
      replace hfr:=hid hfr
      by_cases hlt:j<kn
      ·obtain⟨kb,ko,rfl,hkb,hqb,hc⟩:=hk.out.2.2 (by omega)
       have hck:wr.cell? ⟨kb,ko+j,none⟩=some (.int .i64 (K.kids.getD j 0)):=(hout.cell (p:=⟨kb,ko+j,none⟩) hkb (hQ.out kb hqb)).trans (hc j hlt)
       have hjl:j<K.kids.length:=by rw[hkl.out]; exact hlt
       have hkid:=hF.out.kids _ (hk.out.getD hlt)
       have I1:=hid (bW7 (upd B i { K with refs:=1 }) K.kids j hjl)
       have I2:=hid (fun m=>bW8 (upd B i { K with refs:=1 }) K.kids j m hjl)
       have I3:=hid (cL7 (n:=n) (upd B i { K with refs:=1 }) K.kids j (by
            intro k hk'
            unfold upd
            split
            ·simp
            ·have:=(hR.out.one k hk').bounds; omega))
       clear hc
       simp only at hkid
       generalize K.kids.getD j 0=x at *
       by_cases hx0:x=0
       ·have hx0':(x == 0)=true:=by simp[hx0]
        have hP':=hid (I1.out hx0▸hP)
        replace hP:=hid hP
        go_wp2_with fail
        go_roundw
        case rel=>exact⟨j+1,by omega,by go_num,hP'.out,hout,hfr.out⟩
        case measure=>simp[Go.RowKit.intOf]; omega
       ·have hx0':(x == 0)=false:=by simp[hx0]
        obtain⟨m,rfl,hm⟩:=cH6 hkid hx0
        obtain⟨xa,xn,xc,ya,yn,yc,hx⟩:=hP.own.cell hm
        have c0:=hx.c0
        have f0:=hP.own.free (m*4) (by omega)
        have hbd:=I3.out m hm
        have sp:=hP.cell
        have hkl4:K.kids.length<=4:=by rw[hkl.out]; exact h4.1
        have hP':=hid (hP.kept (Kept.setCell (g:=g) (Kept.refl _ wr) (p:=⟨g,m*4,none⟩) rfl _) (hP.own.refs hm ((bump (upd B i { K with refs:=1 }) K.kids j m).refs+1) (by omega)))
        rw[<-I2.out m rfl] at hP'
        have ho':=hid (hout.trans (Out.of_kept (Kept.setCell (g:=g) (Kept.refl _ wr) (p:=⟨g,m*4,none⟩) rfl (.int .i64 ((bump (upd B i { K with refs:=1 }) K.kids j m).refs+1)))))
        replace hP:=hid hP
        clear hx I1 I2 I3 hkid
        generalize (bump (upd B i { K with refs:=1 }) K.kids j m).refs=rf at *
        go_wp2_with fail
        refine(yR p g n n m _ hn sp hm).mono ?_
        rintro e w6 ⟨rfl,rfl⟩
        go_wp2_with fail
        go_roundw
        case rel=>exact⟨j+1,by omega,by go_num,hP'.out,ho'.out,hfr.out.set m _⟩
        case measure=>simp[Go.RowKit.intOf]; omega
      ·obtain rfl:j=kn:=by omega
       have hP':Hid (dF wr p g n (made B K i)):=hid ⟨hP.lt,hP.ne,hP.cell,hP.own.congr (fun k _=>by rw[<-hkl.out]; exact bW9 B K i n hi hi0.out hF.out k)⟩
       clear hP
       go_wp2_with fail
       go_ret2
       exact⟨.inr ⟨i,hi,rfl,⟨hR.out,hF.out,i,hi,hi0.out⟩,hi0.out,hmin.out,hP'.out⟩,hout,hfr.out⟩
  ·have h2':(e2 == 0)=false:=by simp[h2]
   go_wp2_with fail
   go_ret2
   exact⟨.inl ⟨e2,rfl,h2,⟨fun f=>h2 (he2.out.2 f.2.1),fun _ f=>absurd (he2.out.2 f) h2⟩⟩,Out.of_below b1,eD.of_below b1 hg0⟩
 ·have h0':(e' == 0)=false:=by simp[h0]
  go_wp2_with fail
  go_ret2
  exact⟨.inl ⟨e', rfl,h0,⟨fun f=>h0 (he.out.2 f.1),fun f=>absurd (he.out.2 f) h0⟩⟩,Out.of_below b1,eD.of_below b1 hg0⟩
def cR6 (e:Ending)(p:Addr)(g n:Nat)(P:(Nat->Blk)->Int->Prop)(E:Int->Prop)(w:World):Prop:=
 (∃ e':Int,e=.returned (.tuple #[.int .i64 0,.int .i64 e'])/\e'≠0/\E e')\/
 (∃ (C:Nat->Blk) (a:Int),e=.returned (.tuple #[.int .i64 a,.int .i64 0])/\P C a/\dF w p g n C)
theorem aT7 (p:Addr)(g n:Nat)(B:Nat->Blk)(ba:Option Addr)(bn bc:Nat)(bs:List Int)(w:World)(h:dF w p g n B)(hb:aI (fun b=>b≠g) .u8 w ba bn bs)(hc:bn<=bc):
 Calls Tryz.prog 204 #[.pointer (some p),.slice ba bn bc] w fun e w'=>cR6 e p g n (fun C a=>aD2 n B bs C a) (fun e'=>bs≠[]/\aY2 n B (xX bs) e') w'/\Out g w w'/\eD w w' g n:=by
 replace h:=hid h
 by_cases h0:bn=0
 ·subst h0
  have hnil:bs=[]:=List.eq_nil_of_length_eq_zero hb.1
  replace hb:=hid hb
  go_enter Tryz.func204,Tryz.ntmps204
  go_wp2_with fail
  go_ret2
  exact⟨.inr ⟨B,0,rfl,.inl ⟨hnil,rfl,rfl⟩,h.out⟩,Out.of_below (Below.refl _ _),eD.of_below (Below.refl _ _) h.out.own.lt⟩
 ·have h0':((bn:Int) == 0)=false:=by simp; omega
  have hnil:bs≠[]:=fun e=>h0 (by rw[<-hb.1,e]; rfl)
  replace hb:=hid hb
  go_enter Tryz.func204,Tryz.ntmps204
  go_wp2_with fail
  refine(aM3 p g n B (xX bs) none 0 0 ba bn bc (fun b=>b≠g) w h.out (fun b h=>h) (dL _ _ _ _) hb.out (by simp[xX]) ⟨Nat.le_refl _,hc⟩).mono ?_
  rintro e w1 ⟨hD,hO,hF⟩
  replace hO:=hid hO
  replace hF:=hid hF
  rcases hD with⟨e', rfl,he,hn⟩ | ⟨i,hi,rfl,hy,hi0,hmin,hC⟩
  ·replace hn:=hid hn
   go_wp2_with fail
   go_ret2
   exact⟨.inl ⟨e', rfl,he,hnil,hn.out⟩,hO.out,hF.out⟩
  ·replace hy:=hid hy
   replace hi0:=hid hi0
   replace hmin:=hid hmin
   replace hC:=hid hC
   go_wp2_with fail
   go_ret2
   exact⟨.inr ⟨_,_,rfl,.inr ⟨hnil,i,⟨hi,hi0.out,hmin.out⟩,hy.out,rfl,rfl⟩,hC.out⟩,hO.out,hF.out⟩
theorem eq4 (k0 k1 k2 k3:Int)(w:World):(Op.equalIn 10000 202 (.agg #[.int .i64 k0,.int .i64 k1,.int .i64 k2,.int .i64 k3]) (.agg #[.int .i64 0,.int .i64 0,.int .i64 0,.int .i64 0])).run Tryz.prog w=.ok (decide ([k0,k1,k2,k3]=[0,0,0,0])) w:=by
 have u3:=Tryz.underlying3
 have a3:=Tryz.isAgg3
 have z3:=Tryz.sizeOf3
 rw[show (10000:Nat)=9999+1 from rfl,Op.equalIn]
 simp only[Sem.run_bind,run_underlying Tryz.underlying202,Result.andThen_ok]
 simp only[Std.Legacy.Range.forIn_eq_forIn_range', Std.Legacy.Range.size,Nat.sub_zero,Nat.add_sub_cancel,Nat.div_one,List.range'_succ,List.range'_zero,List.forIn_cons,List.forIn_nil]
 go_simp
 by_cases h0:k0=0<;>by_cases h1:k1=0<;>by_cases h2:k2=0<;>by_cases h3:k3=0<;>simp[h0,h1,h2,h3]
theorem aK9 (p:Addr)(g n l:Nat)(B:Nat->Blk)(k0 k1 k2 k3 new:Int)(w:World)(h:dF w p g n B)(hl:l<=3)(hn:n<=400)(hwf:∀ x∈[k0,k1,k2,k3],(Lit.int .i64 x).wf=true)(hnew:new=0\/(There n B new/\new∈[k0,k1,k2,k3])):
 Calls Tryz.prog 205 #[.pointer (some p),.int .i64 l,.agg #[.int .i64 k0,.int .i64 k1,.int .i64 k2,.int .i64 k3],.int .i64 new] w fun e w'=>cR6 e p g n (fun C a=>aY5 n B l [k0,k1,k2,k3] new C a) (fun e'=>[k0,k1,k2,k3]≠[0,0,0,0]/\aY2 n B (gI l [k0,k1,k2,k3]) e') w'/\Out g w w'/\eD w w' g n:=by
 have hg0:g<w.heap.size:=h.own.lt
 have b0:=aA w (.cells #[.int .i64 k0,.int .i64 k1,.int .i64 k2,.int .i64 k3] 202)
 have r1:=aB w #[.int .i64 k0,.int .i64 k1,.int .i64 k2,.int .i64 k3] 202
 replace r1:=hid r1
 replace h:=hid h
 by_cases hz:[k0,k1,k2,k3]=[0,0,0,0]
 ·obtain⟨rfl,rfl,rfl,rfl⟩:k0=0/\k1=0/\k2=0/\k3=0:=by simp at hz; omega
  have heq:∀ w,(Op.equalIn 10000 202 (.agg #[.int .i64 0,.int .i64 0,.int .i64 0,.int .i64 0]) (.agg #[.int .i64 0,.int .i64 0,.int .i64 0,.int .i64 0])).run Tryz.prog w=.ok true w:=fun w=>(eq4 0 0 0 0 w).trans rfl
  go_enter Tryz.func205,Tryz.ntmps205
  go_wp2_with fail
  go_ret2
  exact⟨.inr ⟨B,0,rfl,.inl ⟨rfl,rfl,rfl⟩,h.out.below b0⟩,Out.of_below b0,eD.of_below b0 hg0⟩
 ·have heq:∀ w,(Op.equalIn 10000 202 (.agg #[.int .i64 k0,.int .i64 k1,.int .i64 k2,.int .i64 k3]) (.agg #[.int .i64 0,.int .i64 0,.int .i64 0,.int .i64 0])).run Tryz.prog w=.ok false w:=fun w=>(eq4 k0 k1 k2 k3 w).trans (by rw[decide_eq_false hz])
  have hks:∀ w', aC w' w.heap.size #[.int .i64 k0,.int .i64 k1,.int .i64 k2,.int .i64 k3] 202->aI (fun b=>b=w.heap.size) .i64 w' (some ⟨w.heap.size,0,none⟩) 4 [k0,k1,k2,k3]:=fun w' hc=>⟨rfl,hwf,fun _=>⟨w.heap.size,0,rfl,hc.lt,rfl,fun j hj=>by
   rw[hc.cell]
   match j,hj with
   | 0,_=>rfl
   | 1,_=>rfl
   | 2,_=>rfl
   | 3,_=>rfl⟩⟩
  replace hks:=hid hks
  replace hz:=hid hz
  go_enter Tryz.func205,Tryz.ntmps205
  go_wp2_with fail
  generalize w.alloc (.cells #[.int .i64 k0,.int .i64 k1,.int .i64 k2,.int .i64 k3] 202)=w0 at *
  clear heq
  refine(aM3 p g n B (gI l [k0,k1,k2,k3]) (some ⟨w.heap.size,0,none⟩) 4 4 none 0 0 (fun b=>b=w.heap.size) w0 (h.out.below b0) (fun b h=>by omega) (hks.out _ r1.out) (dL _ _ _ _) (by simp[gI]; omega) (by omega)).mono ?_
  rintro e w1 ⟨hD,hO,hF⟩
  replace hO:=hid ((Out.of_below (g:=g) b0).trans hO)
  replace hF:=hid ((eD.of_below b0 hg0).trans hF b0.size)
  rcases hD with⟨e', rfl,he,hno⟩ | ⟨i,hi,rfl,hy,hi0,hmin,hC⟩
  ·have he':(e' == 0)=false:=by simp[he]
   replace hno:=hid hno
   go_wp2_with fail
   go_ret2
   exact⟨.inl ⟨e', rfl,he,hz.out,hno.out⟩,hO.out,hF.out⟩
  ·replace hy:=hid hy
   replace hi0:=hid hi0
   replace hmin:=hid hmin
   by_cases hn0:new=0
   ·subst hn0
    replace hC:=hid hC
    go_wp2_with fail
    go_ret2
    exact⟨.inr ⟨_,_,rfl,.inr ⟨hz.out,i,⟨hi,hi0.out,hmin.out⟩,hy.out,rfl,rfl⟩,hC.out⟩,hO.out,hF.out⟩
   ·have hn0':(new == 0)=false:=by simp[hn0]
    have hth:There n B new/\new∈[k0,k1,k2,k3]:=hnew.resolve_left hn0
    obtain⟨m,rfl⟩:∃ m:Nat,new=(m:Int)+1:=⟨(new-1).toNat,by have:=hth.1.1; omega⟩
    have hm:m<n:=by have:=hth.1.2.1; omega
    obtain⟨xa,xn,xc,ya,yn,yc,hx⟩:=hC.own.cell hm
    have c0:=hx.c0
    have f0:=hC.own.free (m*4) (by omega)
    have sp:=hC.cell
    have hbd:=hx.refs
    have hlo:-9223372036854775807<=(made B (gI l [k0,k1,k2,k3]) i m).refs:=by
     have hbm:=(hy.out.1.one m hm).bounds
     by_cases e:m=i
     ·rw[e,bJ]; show (-9223372036854775807:Int)<=1; omega
     ·rw[dA _ _ e]; show (-9223372036854775807:Int)<=(B m).refs+_; omega
    have em:((m:Int)+1-1).toNat=m:=by omega
    have hP':=hid (hC.kept (Kept.setCell (g:=g) (Kept.refl _ w1) (p:=⟨g,m*4,none⟩) rfl _) (hC.own.refs hm ((made B (gI l [k0,k1,k2,k3]) i m).refs-1) (by omega)))
    have hO':=hid (hO.out.trans (Out.of_kept (Kept.setCell (g:=g) (Kept.refl _ w1) (p:=⟨g,m*4,none⟩) rfl (.int .i64 ((made B (gI l [k0,k1,k2,k3]) i m).refs-1)))))
    have hle:Hid (upd (made B (gI l [k0,k1,k2,k3]) i) m { made B (gI l [k0,k1,k2,k3]) i m with refs:=(made B (gI l [k0,k1,k2,k3]) i m).refs-1 }=dZ (made B (gI l [k0,k1,k2,k3]) i) ((m:Int)+1)):=hid (by unfold dZ; rw[if_neg (by omega),em])
    rw[hle.out] at hP'
    clear hx hC hth hle
    generalize (made B (gI l [k0,k1,k2,k3]) i m).refs=rf at *
    go_wp2_with fail
    refine(yR p g n n m _ hn sp hm).mono ?_
    rintro e w6 ⟨rfl,rfl⟩
    go_wp2_with fail
    go_ret2
    exact⟨.inr ⟨_,_,rfl,.inr ⟨hz.out,i,⟨hi,hi0.out,hmin.out⟩,hy.out,rfl,rfl⟩,hP'.out⟩,hO'.out,hF.out.set m _⟩
def bL2 (n:Nat)(B C:Nat->Blk):Prop:=∀ k,k<n->(B k).refs=0->(C k).refs≠0->1<=(C k).level->∃ x∈(C k).kids,x=0\/(B (x-1).toNat).refs=0
theorem bQ8 {n:Nat}{B C:Nat->Blk}{bs:List Int}{a:Int}(h:aD2 n B bs C a):bL2 n B C:=by
 intro k hk hb hc hl
 rcases h with⟨_,rfl,_⟩ | ⟨_,j,_,_,_,rfl⟩
 ·exact absurd hb hc
 ·by_cases e:k=j
  ·subst e
   rw[bJ] at hl
   have:(1:Int)<=0:=hl
   omega
  ·rw[dA _ _ e] at hc
   exact absurd (show (B k).refs+(((xX bs).kids.count ((k:Int)+1):Nat):Int)=0 by rw[hb]; rfl) hc
theorem uL (B:Nat->Blk)(a:Int)(k:Nat):(dZ B a k).kids=(B k).kids/\(dZ B a k).level=(B k).level/\(a=0\/k≠(a-1).toNat->dZ B a k=B k):=by
 unfold dZ
 by_cases h0:a=0
 ·rw[if_pos h0]; exact⟨rfl,rfl,fun _=>rfl⟩
 ·rw[if_neg h0]
  by_cases e:k=(a-1).toNat
  ·subst e
   rw[upd_same]
   exact⟨rfl,rfl,fun h=>h.elim (fun h=>absurd h h0) (fun h=>absurd rfl h)⟩
  ·rw[bI _ _ _ _ e]; exact⟨rfl,rfl,fun _=>rfl⟩
theorem bQ7 {n l:Nat}{B D C:Nat->Blk}{ks:List Int}{new a c:Int}(hg:cG4 n B D l new c)(hk:bL2 n B D)(hin:new∈ks)(h:aY5 n D (l+1) ks new C a):bL2 n B C:=by
 rcases h with⟨_,rfl,_⟩ | ⟨_,j,⟨_,_,_⟩,⟨_,hF,_⟩,_,rfl⟩
 ·exact hk
 intro k hkn hb hc hl
 obtain⟨h1,h2,h3⟩:=uL (made D (gI (l+1) ks) j) new k
 rw[h1]
 rw[h2] at hl
 by_cases e:k=j
 ·subst e
  rw[bJ]
  refine⟨new,hin,?_⟩
  by_cases h0:new=0
  ·exact .inl h0
  ·exact .inr (hg.fresh h0)
 ·rw[dA _ _ e] at hl ⊢
  refine hk k hkn hb (fun hd=>hc ?_) hl
  by_cases h0:new=0\/k≠(new-1).toNat
  ·rw[h3 h0,dA _ _ e]
   show (D k).refs+_=0
   rw[hd,rT hF hd]; rfl
  ·have hn0:new≠0:=fun h=>h0 (.inl h)
   have hke:k=(new-1).toNat:=by
    by_cases e:k=(new-1).toNat
    ·exact e
    ·exact absurd (.inr e) h0
   have:=hg.one hn0
   rw[<-hke,hd] at this
   omega
def cI5 (n:Nat)(B C:Nat->Blk)(r:Int):Prop:=∀ k,k<n->(B k).refs=0->(C k).refs≠0->∀ x∈(C k).kids,x=0\/(B (x-1).toNat).refs=0\/Clo B [r] x
theorem bR2 {n:Nat}{B C:Nat->Blk}{bs:List Int}{a r:Int}(h:aD2 n B bs C a):cI5 n B C r:=by
 intro k hk hb hc x hx
 rcases h with⟨_,rfl,_⟩ | ⟨_,j,_,_,_,rfl⟩
 ·exact absurd hb hc
 ·by_cases e:k=j
  ·subst e
   rw[bJ] at hx
   exact absurd hx (by simp[xX])
  ·rw[dA _ _ e] at hc
   exact absurd (show (B k).refs+(((xX bs).kids.count ((k:Int)+1):Nat):Int)=0 by rw[hb]; rfl) hc
theorem aP8 {B:Nat->Blk}{r x:Int}(hx:x∈kidsL B r)(h0:x≠0):Clo B [r] x:=by
 unfold kidsL at hx
 by_cases hr:r=0
 ·rw[if_pos hr] at hx
  simp only[List.mem_cons,List.not_mem_nil,or_false] at hx
  omega
 ·rw[if_neg hr] at hx
  exact(Clo.root (List.mem_singleton.2 rfl) hr).kid hx h0
theorem bR1 {n:Nat}{B C:Nat->Blk}{q r:Int}(h:cI5 n B C q)(hq:q≠0->Clo B [r] q):cI5 n B C r:=fun k hk hb hc x hx=>by
 rcases h k hk hb hc x hx with h | h | h
 ·exact .inl h
 ·exact .inr (.inl h)
 ·exact .inr (.inr (h.mono fun s hs h0=>by
   rw[List.mem_singleton.1 hs] at h0 ⊢
   exact hq h0))
theorem bR0 {n l:Nat}{B D C:Nat->Blk}{ks:List Int}{new a c r:Int}(hg:cG4 n B D l new c)(hk:cI5 n B D r)(hin:∀ x∈ks,x=new\/x=0\/Clo B [r] x)(h:aY5 n D (l+1) ks new C a):cI5 n B C r:=by
 rcases h with⟨_,rfl,_⟩ | ⟨_,j,⟨_,_,_⟩,⟨_,hF,_⟩,_,rfl⟩
 ·exact hk
 intro k hkn hb hc x hx
 obtain⟨h1,h2,h3⟩:=uL (made D (gI (l+1) ks) j) new k
 rw[h1] at hx
 by_cases e:k=j
 ·subst e
  rw[bJ] at hx
  rcases hin x hx with rfl | h | h
  ·by_cases h0:x=0
   ·exact .inl h0
   ·exact .inr (.inl (hg.fresh h0))
  ·exact .inl h
  ·exact .inr (.inr h)
 ·rw[dA _ _ e] at hx
  refine hk k hkn hb (fun hd=>hc ?_) x hx
  by_cases h0:new=0\/k≠(new-1).toNat
  ·rw[h3 h0,dA _ _ e]
   show (D k).refs+_=0
   rw[hd,rT hF hd]; rfl
  ·have hn0:new≠0:=fun h=>h0 (.inl h)
   have hke:k=(new-1).toNat:=by
    by_cases e:k=(new-1).toNat
    ·exact e
    ·exact absurd (.inr e) h0
   have:=hg.one hn0
   rw[<-hke,hd] at this
   omega
theorem cI5.clo {n:Nat}{B C:Nat->Blk}{r a x:Int}(h:cI5 n B C r)(hB:Right n B)(hr:bE n B [r])(hC:Right n C)(ha:bE n C [a])(hx:Ext n B C)(h0:a=0\/(B (a-1).toNat).refs=0\/Clo B [r] a)(hc:Clo C [a] x):(B (x-1).toNat).refs=0\/Clo B [r] x:=by
 have key:There n C x/\((B (x-1).toNat).refs=0\/Clo B [r] x):=by
  refine hc (fun y=>There n C y/\((B (y-1).toNat).refs=0\/Clo B [r] y)) (fun s hs hs0=>?_) (fun y hy k hk hk0=>?_)
  ·rw[List.mem_singleton.1 hs] at hs0 ⊢
   exact⟨(ha a (List.mem_singleton.2 rfl)).resolve_left hs0,h0.resolve_left hs0⟩
  ·obtain⟨hyt,hy⟩:=hy
   have hkt:There n C k:=by
    rcases(hC.one _ (ix hyt.1 hyt.2.1).1).kids k hk with h | ⟨h,_⟩
    ·exact absurd h hk0
    ·exact h
   refine⟨hkt,?_⟩
   by_cases hf:(B (y-1).toNat).refs=0
   ·rcases h _ (ix hyt.1 hyt.2.1).1 hf hyt.2.2 k hk with h | h | h
    ·exact absurd h hk0
    ·exact .inl h
    ·exact .inr h
   ·have hcy:=hy.resolve_left hf
    have:=(hx.keep _ (ix hyt.1 hyt.2.1).1 hf).2.2.1
    rw[this] at hk
    exact .inr (hcy.kid hk hk0)
 exact key.2
structure kQ (n:Nat)(B:Nat->Blk)(l:Nat)(root:Int)(i:Nat)(bs:List Int)(c:Int)(C:Nat->Blk)(a:Int):Prop where
 puts:cS3 n bs l B root i C a
 grew:cG4 n B C l a (c+4*(l+1))
 leaf:∀ j,j<pw l->aH C l a j=if j=i then bs else aH B l root j
 newk:bL2 n B C
 newf:cI5 n B C root
theorem bG9 {n:Nat}{B C:Nat->Blk}{root a c:Int}{i:Nat}{bs:List Int}(hR:Right n B)(h1:1<=c)(hcm:c<=999984)(hc:∀ k,k<n->(B k).refs<=c)(hi:i<pw 0)(h:aD2 n B bs C a):kQ n B 0 root i bs c C a:=by
 obtain⟨hg,hb⟩:=xV hR h1 (by omega) hc h
 refine⟨h,by simpa using hg,fun j hj=>?_,bQ8 h,bR2 h⟩
 simp only[pw] at hi hj
 rw[if_pos (by omega)]
 exact hb
theorem aN0 {n:Nat}{B:Nat->Blk}{bs:List Int}(h:bs.length=4):Form n B { xX bs with refs:=1 }:=.inr ⟨by simp[xX],.inl ⟨rfl,rfl,h⟩⟩
theorem cD5 (l:List Int)(d:Nat)(x:Int)(q:Nat)(hd:d<l.length):(l.set d x).getD q 0=if q=d then x else l.getD q 0:=by
 simp only[List.getD_eq_getElem?_getD,List.getElem?_set]
 by_cases e:q=d
 ·subst e; simp[hd]
 ·rw[if_neg (fun h=>e h.symm),if_neg e]
theorem bQ4 {n l:Nat}{B D:Nat->Blk}{root k c:Int}{d:Nat}(hl:l+1<=3)(hR:Right n B)(hr:Root n B (l+1) root)(hd:d<4)(hg:cG4 n B D l k c)(hz:(kidsL B root).set d k≠[0,0,0,0]):Form n D { gI (l+1) ((kidsL B root).set d k) with refs:=1 }:=by
 have h4:((kidsL B root).set d k).length=4:=by rw[List.length_set,hr.len hR]
 refine .inr ⟨by simp[gI]; omega,.inr ⟨by simp[gI]; omega,h4,rfl,?_,?_⟩⟩
 ·intro x hx
  have hroot:Root n D l x:=by
   rcases List.mem_or_eq_of_mem_set hx with h | h
   ·exact(hg.ext.root (hr.kid hR h)).1
   ·subst h; exact hg.root
  rcases hroot with h | ⟨h,h'⟩
  ·exact .inl h
  ·exact .inr ⟨h,by rw[h']; simp[gI]⟩
 ·show ∃ x∈(kidsL B root).set d k,x≠0
  match hs:(kidsL B root).set d k,h4 with
  | [a,b,c', e],_=>
    rw[hs] at hz
    by_cases ha:a=0
    ·by_cases hb:b=0
     ·by_cases hc:c'=0
      ·by_cases he:e=0
       ·subst ha; subst hb; subst hc; subst he; exact absurd rfl hz
       ·exact⟨e,by simp,he⟩
      ·exact⟨c', by simp,hc⟩
     ·exact⟨b,by simp,hb⟩
    ·exact⟨a,by simp,ha⟩
theorem bG8 {n l:Nat}{B D C:Nat->Blk}{root k a c:Int}{i:Nat}{bs:List Int}(hl:l+1<=3)(hR:Right n B)(h1:1<=c)(hcm:c<=999984)(hr:Root n B (l+1) root)(hi:i<pw (l+1))
 (hk:kQ n B l ((kidsL B root).getD (i / pw l) 0) (i%pw l) bs c D k) (h:aY5 n D (l+1) ((kidsL B root).set (i / pw l) k) k C a):kQ n B (l+1) root i bs c C a:=by
 have hp:=lH l
 have hd:i / pw l<4:=by simp only[pw] at hi; exact Nat.div_lt_of_lt_mul (by rw[Nat.mul_comm]; exact hi)
 have hd':i / pw l<(kidsL B root).length:=by rw[hr.len hR]; exact hd
 obtain⟨hg,hks,hE⟩:=aC9 hR hk.grew (by omega) (by omega) (fun _=>List.mem_iff_getElem.2 ⟨i / pw l,by simpa using hd', by simp⟩) h
 refine⟨⟨D,k,hk.puts,h⟩,?_,fun j hj=>?_,bQ7 hk.grew hk.newk (List.mem_iff_getElem.2 ⟨i / pw l,by simpa using hd', by simp⟩) h,bR0 hk.grew (bR1 hk.newf fun h0=>aP8 (aG8 hd') h0) (fun x hx=>?_) h⟩
 rotate_left 2
 ·rcases List.mem_or_eq_of_mem_set hx with h | h
  ·by_cases h0:x=0
   ·exact .inr (.inl h0)
   ·exact .inr (.inr (aP8 h h0))
  ·exact .inl h
 ·have e:c+4*(((l+1:Nat):Int)+1)=c+4*((l:Int)+1)+4:=by omega
  rw[e]; exact hg
 ·have hdj:j / pw l<4:=by simp only[pw] at hj; exact Nat.div_lt_of_lt_mul (by rw[Nat.mul_comm]; exact hj)
  have hm:=Nat.mod_lt j hp
  simp only[aH]
  rw[hks,cD5 _ _ _ _ hd']
  by_cases e:j / pw l=i / pw l
  ·rw[if_pos e,hE.leaf hk.grew.right l k hk.grew.root _ hm,hk.leaf _ hm]
   by_cases e2:j%pw l=i%pw l
   ·have:j=i:=by rw[<-Nat.div_add_mod j (pw l),<-Nat.div_add_mod i (pw l),e,e2]
    rw[if_pos e2,if_pos this]
   ·have:j≠i:=fun h=>e2 (by rw[h])
    rw[if_neg e2,if_neg this,e]
  ·have:j≠i:=fun h=>e (by rw[h])
   rw[if_neg e,if_neg this]
   exact hg.ext.leaf hR l _ (hr.kidAt hR hdj) _ hm
theorem kQ.from' {n:Nat}{B C:Nat->Blk}{l:Nat}{root a c x:Int}{i:Nat}{bs:List Int}(h:kQ n B l root i bs c C a)(hB:Right n B)(hr:Root n B l root)(hc:Clo C [a] x):(B (x-1).toNat).refs=0\/Clo B [root] x:=by
 refine h.newf.clo hB (fun r hr'=>?_) h.grew.right (fun r hr'=>?_) h.grew.ext ?_ hc
 ·rw[List.mem_singleton.1 hr']
  exact hr.imp id (fun h=>h.1)
 ·rw[List.mem_singleton.1 hr']
  exact h.grew.root.imp id (fun h=>h.1)
 ·by_cases h0:a=0
  ·exact .inl h0
  ·exact .inr (.inl (h.grew.fresh h0))
theorem four {l:List Int}(h:l.length=4):∃ a b c d,l=[a,b,c,d]:=by
 match l,h with
 | [a,b,c,d],_=>exact⟨a,b,c,d,rfl⟩
theorem bK2 (k0 k1 k2 k3 x:Int)(d:Nat)(hd:d<4)(l0 l1 l2 l3:Int)(h:[k0,k1,k2,k3].set d x=[l0,l1,l2,l3]):
 (#[Value.int .i64 k0,.int .i64 k1,.int .i64 k2,.int .i64 k3]).setIfInBounds d (.int .i64 x)=#[.int .i64 l0,.int .i64 l1,.int .i64 l2,.int .i64 l3]:=by
 match d,hd with
 | 0,_=>simp at h; simp[h]
 | 1,_=>simp at h; simp[h]
 | 2,_=>simp at h; simp[h]
 | 3,_=>simp at h; simp[h]
theorem bE1 {w:World}{g:Nat}{k0 k1 k2 k3:Int}{t:TypeId}(h:aC w g #[.int .i64 k0,.int .i64 k1,.int .i64 k2,.int .i64 k3] t)(d:Nat)(hd:d<4):w.cell? ⟨g,d,none⟩=some (.int .i64 ([k0,k1,k2,k3].getD d 0)):=by
 rw[h.cell]
 match d,hd with
 | 0,_=>rfl
 | 1,_=>rfl
 | 2,_=>rfl
 | 3,_=>rfl
theorem cR6.uni {e:Ending}{p:Addr}{g n:Nat}{P:(Nat->Blk)->Int->Prop}{w:World}{q:Prop}(h:cR6 e p g n P (fun e'=>e'=8/\q) w):
 ∃ a e':Int,e=.returned (.tuple #[.int .i64 a,.int .i64 e'])/\((a=0/\e'=8/\q)\/(e'=0/\∃ D,P D a/\dF w p g n D)):=by
 rcases h with⟨e', rfl,_,rfl,hq⟩ | ⟨C,a,rfl,h1,h2⟩
 ·exact⟨0,8,rfl,.inl ⟨rfl,rfl,hq⟩⟩
 ·exact⟨a,0,rfl,.inr ⟨rfl,C,h1,h2⟩⟩
def Mid (W W3 wc:World)(p:Addr)(g n h:Nat)(k0 k1 k2 k3:Int)(P:(Nat->Blk)->Int->Prop)(q:Prop)(u v:Value):Prop:=
 Out g W wc/\eD W3 wc g n/\aC wc h #[.int .i64 k0,.int .i64 k1,.int .i64 k2,.int .i64 k3] 202/\
 ∃ k e':Int,u=.int .i64 k/\v=.int .i64 e'/\((k=0/\e'=8/\q)\/(e'=0/\∃ D,P D k/\dF wc p g n D))
theorem bR4 {w w':World}{g h:Nat}{cs:Array Value}{t:TypeId}(k:aC w h cs t)(o:Out g w.drew w')(hg:h≠g):aC w' h cs t:=by
 have:=k.lt
 unfold aC
 rw[o.block h (by simpa using this) hg]
 exact k
theorem bY6 (i q:Nat):(i:Int).tdiv (q:Int)=((i / q:Nat):Int):=by simp[Int.tdiv]
theorem bY2 (i q:Nat):(i:Int).tmod (q:Int)=((i%q:Nat):Int):=by simp[Int.tmod]
theorem cK0 (p:Addr)(g n:Nat)(ba:Option Addr)(bn bc:Nat)(bs:List Int)(c:Int)(hbs:bs=[]\/bs.length=4)(hcc:bn<=bc)(h1:1<=c)(hcm:c<=999984)(l:Nat):
 ∀ (B:Nat->Blk) (root:Int) (i:Nat) (w:World),l<=3->Right n B->Root n B l root->i<pw l->(∀ k,k<n->(B k).refs<=c)->dF w p g n B->aI (fun b=>b≠g) .u8 w ba bn bs->
 Calls Tryz.prog 203 #[.pointer (some p),.int .i64 root,.int .i64 l,.int .i64 i,.slice ba bn bc] w fun e w'=>cR6 e p g n (fun C a=>kQ n B l root i bs c C a) (fun e'=>e'=8/\n<=cO B n+l) w'/\Out g w w'/\eD w w' g n:=by
 induction l with
 | zero=>
   intro B root i w hl hR hr hi hc h hb
   replace h:=hid h
   replace hb:=hid hb
   replace hR:=hid hR
   go_enter Tryz.func203,Tryz.ntmps203
   go_wp2_with fail
   refine(aT7 p g n B ba bn bc bs w h.out hb.out hcc).mono ?_
   rintro e w1 ⟨hD,hO,hF⟩
   replace hO:=hid hO
   replace hF:=hid hF
   rcases hD with⟨e', rfl,he,hne,hno⟩ | ⟨C,a,rfl,hP,hC⟩
   ·obtain rfl:e'=8:=hno.2 hR.out (aN0 (hbs.resolve_left hne))
    have hus:=aI8 hR.out (fun f=>hno.1 ⟨hR.out,aN0 (hbs.resolve_left hne),f⟩)
    clear hno
    go_wp2_with fail
    go_ret2
    exact⟨.inl ⟨8,rfl,by omega,rfl,by omega⟩,hO.out,hF.out⟩
   ·replace hP:=hid hP
    replace hC:=hid hC
    go_wp2_with fail
    go_ret2
    exact⟨.inr ⟨C,a,rfl,bG9 hR.out h1 hcm hc hi hP.out,hC.out⟩,hO.out,hF.out⟩
 | succ l ih=>
   intro B root i w hl hR hr hi hc h hb
   have hp:=lH l
   have hq64:=bO8 (show l<=3 by omega)
   have hi64:=bO8 hl
   have hd:i / pw l<4:=by simp only[pw] at hi; exact Nat.div_lt_of_lt_mul (by rw[Nat.mul_comm]; exact hi)
   have hm:=Nat.mod_lt i hp
   have hdv:=bY6 i (pw l)
   have hmv:=bY2 i (pw l)
   obtain⟨k0,k1,k2,k3,hks⟩:=four (hr.len hR)
   have hx:root=0\/There n B root:=hr.imp id (·.1)
   have hn:=hR.small
   have hroot:=hr.kidAt hR hd
   have hwf:∀ x∈[k0,k1,k2,k3],-9223372036854775808<=x/\x<=9223372036854775807:=by
    intro x hx'
    rw[<-hks] at hx'
    rcases hr.kid hR hx' with h | ⟨⟨h1,h2,_⟩,_⟩<;>omega
   have hnode:∀ D k c', cG4 n B D l k c'->(kidsL B root).set (i / pw l) k≠[0,0,0,0]->Form n D { gI (l+1) ((kidsL B root).set (i / pw l) k) with refs:=1 }:=fun D k c' hg hz=>bQ4 hl hR hr hd hg hz
   have hnext:∀ D k C a,kQ n B l ((kidsL B root).getD (i / pw l) 0) (i%pw l) bs c D k->aY5 n D (l+1) ((kidsL B root).set (i / pw l) k) k C a->kQ n B (l+1) root i bs c C a:=fun D k C a h h'=>bG8 hl hR h1 hcm hr hi h h'
   rw[hks] at hnode hnext hroot
   have hg0:g<w.heap.size:=h.own.lt
   have hI:=ih B ([k0,k1,k2,k3].getD (i / pw l) 0) (i%pw l)
   have hiI:i<9223372036854775807:=by omega
   generalize hqd:pw l=q at *
   generalize i / q=d at *
   generalize i%q=r at *
   replace hI:=hid hI
   replace hnode:=hid hnode
   replace hnext:=hid hnext
   replace hroot:=hid hroot
   replace hb:=hid hb
   replace h:=hid h
   replace hR:=hid hR
   replace hc:=hid hc
   replace hwf:=hid hwf
   clear ih
   have el:((l+1:Nat):Int)-1=(l:Int):=by omega
   have el':((l:Int)+1)-1=(l:Int):=by omega
   have hll:l<=3:=by omega
   go_enter Tryz.func203,Tryz.ntmps203
   go_wp2_with fail
   refine(vZ l w hll).mono ?_
   rintro e w1 ⟨rfl,rfl⟩
   rw[hqd]
   go_wp2_with fail
   refine(aB5 p _ n n B root k0 k1 k2 k3 w1 hn h.out.ptr hx hks).mono ?_
   rintro e w2 ⟨rfl,b2⟩
   go_upto_region 5 with fail
   have k3':=aB w2 #[.int .i64 k0,.int .i64 k1,.int .i64 k2,.int .i64 k3] 202
   have b23:=aA w2 (.cells #[.int .i64 k0,.int .i64 k1,.int .i64 k2,.int .i64 k3] 202)
   have hP2:=h.out.below b2
   have hP3:=hid (hP2.below b23)
   have hb3:=hid ((hb.out.below b2).below b23)
   have hsz2:=b2.size
   have hw2:Hid (∀ k,k<n->(w2.alloc (.cells #[.int .i64 k0,.int .i64 k1,.int .i64 k2,.int .i64 k3] 202)).cell? ⟨g,k*4+2,none⟩=w2.cell? ⟨g,k*4+2,none⟩/\(w2.alloc (.cells #[.int .i64 k0,.int .i64 k1,.int .i64 k2,.int .i64 k3] 202)).cell? ⟨g,k*4+3,none⟩=w2.cell? ⟨g,k*4+3,none⟩):=hid fun k _=>⟨b23.cell (p:=⟨g,k*4+2,none⟩) (by show g<_; omega),b23.cell (p:=⟨g,k*4+3,none⟩) (by show g<_; omega)⟩
   have cd:=bE1 k3' d hd
   have hb13:=hid (Below.tr b2 b23)
   have hlt3:=k3'.lt
   replace k3':=hid k3'
   replace hP2:=hid hP2
   replace b23:=hid b23
   clear hb h
   have hq0:¬q=0:=by omega
   have wd:IntKind.i64.wrap (d:Int)=(d:Int):=Go.IntWalk.i64_in _ (by omega)
   have wr:IntKind.i64.wrap (r:Int)=(r:Int):=Go.IntWalk.i64_in _ (by omega)
   have wl:IntKind.i64.wrap (l:Int)=(l:Int):=Go.IntWalk.i64_in _ (by omega)
   generalize w2.alloc (.cells #[.int .i64 k0,.int .i64 k1,.int .i64 k2,.int .i64 k3] 202)=w3 at *
   generalize hxd:[k0,k1,k2,k3].getD d 0=x at *
   replace hxd:=hid hxd
   go_cut [14,15] from 30 (fun u v wc=>Mid w1 w3 wc p g n w2.heap.size k0 k1 k2 k3 (fun D k=>kQ n B l x r bs c D k) (n<=cO B n+l) u v)
   case first=>
    go_region_with (go_at_call 203; refine(hI.out _ hll hR.out hroot.out hm hc.out ?_ ?_).mono ?_; exact hP3.out.below (aD _ _); exact hb3.out.below (aD _ _); rintro e w4 ⟨hD,hO,hF⟩; obtain⟨u4,v4,rfl,hcase⟩:=hD.uni; replace hO:=hid hO; replace hF:=hid hF; replace hcase:=hid hcase; clear hD)
    all_goals (go_wp2_with fail; go_meet; exact⟨((Out.of_below hb13.out).trans (Out.of_below (aD _ _))).trans hO.out,(eD.of_below (aD _ _) (by omega)).trans hF.out (Nat.le_refl _),bR4 k3'.out hO.out (by omega),u4,v4,rfl,rfl,hcase.out⟩)
   case rest=>
    obtain⟨hO,hF,k4,k,e', rfl,rfl,hcase⟩:=hcut
    rename_i wc
    rcases hcase with⟨rfl,rfl,hus⟩ | ⟨rfl,D,hPk,hP4⟩
    ·replace hF:=hid hF
     replace k4:=hid k4
     go_wp2_with fail
     go_ret2
     exact⟨.inl ⟨8,rfl,by omega,rfl,by omega⟩,hO,(eD.of_below hb13.out hg0).trans hF.out hb13.out.size⟩
    ·obtain⟨l0,l1,l2,l3,hls⟩:=four (show ([k0,k1,k2,k3].set d k).length=4 by simp)
     have c4:=bE1 k4 d hd
     have f4:=k4.frozen d
     have k5:=k4.set d (.int .i64 k)
     rw[bK2 k0 k1 k2 k3 k d hd l0 l1 l2 l3 hls] at k5
     have hP5:=hid (dF.past (v:=.int .i64 k) (d:=d) hP2.out (Nat.le_refl _) hP4 hF hw2.out (by omega))
     have hO5:=hid (hO.setNew (a:=⟨w2.heap.size,d,none⟩) (v:=.int .i64 k) hsz2)
     have hF5:=hid (((eD.of_below hb13.out hg0).trans hF hb13.out.size).trans (eD.of_kept (Kept.setCell (Kept.refl w2.heap.size wc) (p:=⟨w2.heap.size,d,none⟩) rfl (.int .i64 k)) (by omega)) hO.size)
     replace hPk:=hid hPk
     replace k4:=hid k4
     clear hF hP4 hO
     go_upto_region 9 with fail
     clear c4 f4 cd
     generalize wc.setCell ⟨w2.heap.size,d,none⟩ (.int .i64 k)=w5 at *
     have m0:=k5.cell 0
     have m1:=k5.cell 1
     have m2:=k5.cell 2
     have m3:=k5.cell 3
     simp at m0 m1 m2 m3
     replace k5:=hid k5
     go_wp2_with fail
     refine(aK9 p g n (l+1) D l0 l1 l2 l3 k w5 hP5.out hl hn ?_ ?_).mono ?_
     ·intro x hx'
      rw[<-hls] at hx'
      rcases List.mem_or_eq_of_mem_set hx' with h | h
      ·exact WalkArith.wf_i64 (by have:=hwf.out x h; omega)
      ·rcases hPk.out.grew.root with h' | ⟨⟨h1', h2', _⟩,_⟩
       ·exact WalkArith.wf_i64 (by omega)
       ·exact WalkArith.wf_i64 (by omega)
     ·rcases hPk.out.grew.root with h' | ⟨h', _⟩
      ·exact .inl h'
      ·exact .inr ⟨h', by rw[<-hls]; exact List.mem_iff_getElem.2 ⟨d,by simpa using hd,by simp⟩⟩
     rintro e w6 ⟨hD,hO6,hF6⟩
     replace hO6:=hid (hO5.out.trans hO6)
     replace hF6:=hid (hF5.out.trans hF6 hO5.out.size)
     rcases hD with⟨e', rfl,he,hne,hno⟩ | ⟨C,a,rfl,hP,hC⟩
     ·rw[<-hls] at hne hno
      obtain rfl:e'=8:=hno.2 hPk.out.grew.right (hnode.out D k _ hPk.out.grew hne)
      have hus:=aI8 hPk.out.grew.right (fun f=>hno.1 ⟨hPk.out.grew.right,hnode.out D k _ hPk.out.grew hne,f⟩)
      have hus2:=hPk.out.grew.used
      clear hno hne
      go_wp2_with fail
      go_ret2
      exact⟨.inl ⟨8,rfl,by omega,rfl,by omega⟩,hO6.out,hF6.out⟩
     ·rw[<-hls] at hP
      replace hP:=hid hP
      replace hC:=hid hC
      go_wp2_with fail
      go_ret2
      exact⟨.inr ⟨C,a,rfl,hnext.out D k C a (hxd.out▸hPk.out) hP.out,hC.out⟩,hO6.out,hF6.out⟩
end Go.Proofs.YtjafgnohlkkopaaGreatDoor
