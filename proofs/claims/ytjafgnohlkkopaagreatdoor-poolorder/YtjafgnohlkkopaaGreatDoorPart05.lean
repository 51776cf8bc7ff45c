import Derived.Test.YtjafgnohlkkopaaGreatDoorPart04
import Derived.Deep.DeepAppendRoom
import Derived.Laws.EntriesVeiled
import Derived.Deep.RegionLaw
set_option linter.unusedVariables false
set_option maxHeartbeats 8000000
set_option maxRecDepth 100000
namespace Go.Proofs.YtjafgnohlkkopaaGreatDoor
open Go.RowKit
def lM (B:Nat->Blk)(l:Nat)(a:Int):List (List Int):=(List.range (pw l)).map (aH B l a)
def uN (B:Nat->Blk)(l:Nat)(a:Int)(k:Nat):List (List Int):=(List.range k).map (aH B l a)
theorem aV9 (B:Nat->Blk)(l:Nat)(a:Int)(j:Nat):uN B (l+1) a ((j+1)*pw l)=uN B (l+1) a (j*pw l)++lM B l ((kidsL B a).getD j 0):=by
 have hp:=lH l
 unfold uN lM
 rw[Nat.add_mul,Nat.one_mul,List.range_add,List.map_append,List.map_map]
 congr 1
 apply List.map_congr_left
 intro r hr
 have hr':r<pw l:=List.mem_range.1 hr
 show aH B (l+1) a (j*pw l+r)=_
 simp only[aH]
 rw[Nat.mul_comm,Nat.mul_add_div hp,Nat.mul_add_mod,Nat.div_eq_of_lt hr', Nat.mod_eq_of_lt hr', Nat.add_zero]
theorem bJ3 (B:Nat->Blk)(l:Nat)(a:Int):uN B (l+1) a (4*pw l)=lM B (l+1) a:=rfl
def yY (g q:Nat)(w:World)(xs:List Value)(L:List (List Int)):Prop:=xs.length=L.length/\∀ j,j<L.length->∃ x ln lc,xs[j]? =some (.slice x ln lc)/\ln<=lc/\aI (fun b=>b≠g/\b≠q) .u8 w x ln (L.getD j [])
theorem yY.below {g q:Nat}{w w':World}{xs:List Value}{L:List (List Int)}(h:yY g q w xs L)(b:Below w.heap.size w w'):yY g q w' xs L:=⟨h.1,fun j hj=>by
 obtain⟨x,ln,lc,h1,h2,h3⟩:=h.2 j hj
 exact⟨x,ln,lc,h1,h2,h3.below b⟩⟩
theorem aI.frame {Q:Nat->Prop}{k:IntKind}{w w':World}{a:Option Addr}{n:Nat}{l:List Int}(h:aI Q k w a n l)(hs:w.heap.size<=w'.heap.size)(hb:∀ b,b<w.heap.size->Q b->w'.heap[b]? =w.heap[b]?):aI Q k w' a n l:=by
 refine⟨h.1,h.2.1,fun hn=>?_⟩
 obtain⟨b,off,rfl,hlt,hq,hc⟩:=h.2.2 hn
 exact⟨b,off,rfl,Nat.lt_of_lt_of_le hlt hs,hq,fun i hi=>(World.cell?_of_block (a:=⟨b,off+i,none⟩) (hb b hlt hq)).trans (hc i hi)⟩
structure AE (W w:World)(sb g ab wb:Nat)(a:Option Addr)(n c cap m:Nat)(L:List (List Int)):Prop where
 bel:Below W.heap.size W w
 s:w.cell? ⟨sb,0,none⟩=some (.slice a n c)
 slt:sb<w.heap.size
 all:aC w ab #[.slice (some ⟨g,0,none⟩) m cap] 174
 fn:w.cell? ⟨wb,0,none⟩=some (.func (.func 130) #[] #[.pointer (some ⟨ab,0,none⟩),.pointer (some ⟨sb,0,none⟩),.pointer (some ⟨wb,0,none⟩)])
 wlt:wb<w.heap.size
 row:∃ xs,w.ownsRow W.heap.size 28 1 (.slice (some ⟨g,0,none⟩) m cap) m xs/\yY g ab w xs L
 len:L.length=m
 gW:W.heap.size<=g/\W.heap.size<=ab
 ne:g≠ab/\sb≠g/\sb≠ab/\wb≠g/\wb≠ab
theorem AE.glt {W w:World}{sb g ab wb:Nat}{a:Option Addr}{n c cap m:Nat}{L:List (List Int)}(h:AE W w sb g ab wb a n c cap m L):g<w.heap.size:=by
 obtain⟨xs,h1,_⟩:=h.row
 exact(h1.lt g rfl).2
theorem mY {w w':World}{base:Nat}{e:TypeId}{g m cap:Nat}{xs:List Value}(h:w.ownsRow base e 1 (.slice (some ⟨g,0,none⟩) m cap) m xs)(hb:w'.heap[g]? =w.heap[g]?):w'.ownsRow base e 1 (.slice (some ⟨g,0,none⟩) m cap) m xs:=by
 refine⟨h.1,?_⟩
 rcases h.2 with⟨h0,_⟩ | ⟨g', cap', cur,hv,h1,h2,h3⟩
 ·cases h0
 ·cases hv
  exact .inr ⟨g,cap,cur,rfl,h1,hb.trans h2,h3⟩
theorem AE.below {W w w':World}{sb g ab wb:Nat}{a:Option Addr}{n c cap m:Nat}{L:List (List Int)}(h:AE W w sb g ab wb a n c cap m L)(b:Below w.heap.size w w'):AE W w' sb g ab wb a n c cap m L:=by
 have hg:=h.glt
 obtain⟨xs,h1,h2⟩:=h.row
 exact⟨h.bel.trans (b.mono h.bel.size),(b.cell (p:=⟨sb,0,none⟩) h.slt).trans h.s,Nat.lt_of_lt_of_le h.slt b.size,h.all.below b,(b.cell (p:=⟨wb,0,none⟩) h.wlt).trans h.fn,Nat.lt_of_lt_of_le h.wlt b.size,⟨xs,mY h1 (b.block g hg),h2.below b⟩,h.len,h.gW,h.ne⟩
theorem bT7 (L:List (List Int))(l:List Int)(j:Nat):(L++[l]).getD j []=if j<L.length then L.getD j [] else if j=L.length then l else []:=by
 simp only[List.getD_eq_getElem?_getD]
 by_cases h:j<L.length
 ·rw[if_pos h,List.getElem?_append_left h]
 ·rw[if_neg h,List.getElem?_append_right (by omega)]
  by_cases e:j=L.length
  ·subst e; simp
  ·rw[if_neg e]
   have:j-L.length≠0:=by omega
   cases hd:j-L.length with
   | zero=>omega
   | succ k=>simp
theorem AE.push {W w w3:World}{sb g ab wb:Nat}{a:Option Addr}{n c cap m:Nat}{L:List (List Int)}{xs:List Value}{x:Option Addr}{ln lc:Nat}{l:List Int}(h:AE W w sb g ab wb a n c cap m L)(hL:yY g ab w xs L)(hN:aI (fun b=>b≠g/\b≠ab) .u8 w x ln l)(hlc:ln<=lc)
 (hrow:w3.ownsRow W.heap.size 28 1 (.slice (some ⟨g,0,none⟩) (m+1) cap) (m+1) (xs++[.slice x ln lc])) (hg:w.grownBy w3 (some g)):
 AE W (w3.setCell ⟨ab,0,none⟩ (.slice (some ⟨g,0,none⟩) (m+1) cap)) sb g ab wb a n c cap (m+1) (L++[l]):=by
 obtain⟨n1,n2,n3,n4,n5⟩:=h.ne
 have hab:=h.all.lt
 have hs:=hg.size
 have hslt:=h.slt
 have hwlt:=h.wlt
 have hk:Kept ab w3 (w3.setCell ⟨ab,0,none⟩ (.slice (some ⟨g,0,none⟩) (m+1) cap)):=Kept.setCell (Kept.refl _ _) (p:=⟨ab,0,none⟩) rfl _
 have blk:∀ b,b<w.heap.size->b≠g/\b≠ab->(w3.setCell ⟨ab,0,none⟩ (.slice (some ⟨g,0,none⟩) (m+1) cap)).heap[b]? =w.heap[b]? :=fun b hb hq=>(hk.block b hq.2).trans (hg.block b hb (by simp; exact hq.1))
 have hall:aC w3 ab #[.slice (some ⟨g,0,none⟩) m cap] 174:=by
  unfold aC
  rw[hg.block ab hab (by simp; omega)]
  exact h.all
 have hlen:=hL.1
 refine⟨?_,(World.cell?_of_block (a:=⟨sb,0,none⟩) (blk sb hslt ⟨n2,n3⟩)).trans h.s,by rw[hk.size]; omega,?_,(World.cell?_of_block (a:=⟨wb,0,none⟩) (blk wb hwlt ⟨n4,n5⟩)).trans h.fn,by rw[hk.size]; omega,
  ⟨_,mY hrow (hk.block g n1),?_⟩,by simp[h.len],h.gW,h.ne⟩
 ·exact(h.bel.grown hg h.bel.size (fun k hk'=>by cases hk'; exact h.gW.1)).trans (hk.below h.gW.2)
 ·have:=hall.set 0 (.slice (some ⟨g,0,none⟩) (m+1) cap)
  simpa using this
 ·refine⟨by simp[hlen],fun j hj=>?_⟩
  rw[bT7]
  by_cases e:j<L.length
  ·obtain⟨y,yn,yc,h1,h2,h3⟩:=hL.2 j e
   rw[if_pos e]
   exact⟨y,yn,yc,by rw[List.getElem?_append_left (by omega)]; exact h1,h2,h3.frame (by rw[hk.size]; exact hs) blk⟩
  ·have e2:j=L.length:=by simp at hj; omega
   subst e2
   rw[if_neg e,if_pos rfl]
   exact⟨x,ln,lc,by rw[List.getElem?_append_right (by omega),hlen]; simp,hlc,hN.frame (by rw[hk.size]; exact hs) blk⟩
theorem cA7 (w:World)(v:Value)(t:TypeId):∀ j u,([v]:List Value)[j]? =some u->(w.alloc (.cells #[v] t)).cell? ((⟨w.heap.size,0,none⟩:Addr).add j)=some u:=by
 intro j u hj
 match j,hj with
 | 0,hj=>simp at hj; subst hj; exact(aB w #[v] t).cell 0
 | j+1,hj=>simp at hj
theorem cF7 {W w w3:World}{sb g ab wb:Nat}{a:Option Addr}{n c cap m:Nat}{L:List (List Int)}(h:AE W w sb g ab wb a n c cap m L)(hg:w.grownBy w3 (some g)):aC w3 ab #[.slice (some ⟨g,0,none⟩) m cap] 174:=by
 have hne:=h.ne.1
 unfold aC
 rw[hg.block ab h.all.lt (by simp; omega)]
 exact h.all
theorem nO {P:Program}{ops:Array Oper}{o:Oper}{a:Act}{w:World}{K:Act->World->Prop}{Q:Exit->Act->World->Prop}{E:Prop}(hgd:o.guard=none)(s x:Operand)(t:TypeId)
 (ho:o.op=.call { callee:=.builtin .append,args:=#[s,x],argTypes:=#[t,t] }) (v u v':Value) (w':World) (hs:a.eval s=v) (hx:a.eval x=u) (hrun:(Builtin.append_ #[t,t] o.type #[v,u]).run P w=.ok v' w') (h:K (a.put o.dst v') w'):
 if Region.wanted o (yielded ops a.tmps)=true then Oper.wp P o a w K Q else E:=by
 have hw:Region.wanted o (yielded ops a.tmps)=true:=by simp[Region.wanted,hgd]
 rw[if_pos hw]
 unfold Oper.wp execOp
 simp only[ho,resolve,invoke,builtin,Sem.run_bind,Sem.run_pure,Result.andThen_ok,List.map_toArray,List.map_cons,List.map_nil,hs,hx,hrun]
 exact h
theorem cP4 (k0 k1 k2 k3:Int)(j:Nat)(hj:j<4)(w:World):(Instr.index 202 (.agg #[.int .i64 k0,.int .i64 k1,.int .i64 k2,.int .i64 k3]) (.int .i64 (j:Int))).run Tryz.prog w=.ok (.int .i64 ([k0,k1,k2,k3].getD j 0)) w:=by
 match j,hj with
 | 0,_=>simp[Instr.index,run_underlying Tryz.underlying202,asIntOf,go_sem]
 | 1,_=>simp[Instr.index,run_underlying Tryz.underlying202,asIntOf,go_sem]
 | 2,_=>simp[Instr.index,run_underlying Tryz.underlying202,asIntOf,go_sem]
 | 3,_=>simp[Instr.index,run_underlying Tryz.underlying202,asIntOf,go_sem]
theorem Tryz.infoSlb:(Tryz.prog.info? 28).map (fun i=>(i.zero,i.size,i.bytes))=some (some (.slice none 0 0),1,24):=by kernel_rfl
theorem aY0 (W:World)(a:Option Addr)(n c:Nat)(B:Nat->Blk)(sb g ab wb cap:Nat)(hS:aN W a n B)(hR:Right n B)(l:Nat):
 ∀ (root:Int) (m:Nat) (L:List (List Int)) (w:World),l<=3->Root n B l root->m+pw l<=cap->AE W w sb g ab wb a n c cap m L->
 Calls Tryz.prog 130 #[.int .i64 root,.int .i64 l,.pointer (some ⟨ab,0,none⟩),.pointer (some ⟨sb,0,none⟩),.pointer (some ⟨wb,0,none⟩)] w fun e w'=>e=.returned (.tuple #[])/\AE W w' sb g ab wb a n c cap (m+pw l) (L++lM B l root):=by
 obtain⟨i0,hi0,hz0,hz1,hz2⟩:=info_parts Tryz.infoSlb
 have hn:=hR.small
 induction l with
 | zero=>
   intro root m L w hl hr hm hE
   have hx:root=0\/There n B root:=hr.imp id (·.1)
   have h4:(bytesL B root).length<=4:=by rw[hr.leaf hR]; split<;>omega
   have eL:lM B 0 root=[bytesL B root]:=by simp[lM,pw,aH]
   rw[eL]
   have m0:=hE.all.cell 0
   have f0:=hE.all.frozen 0
   simp only[List.getElem?_toArray,List.getElem?_cons_zero] at m0
   replace hE:=hid hE
   replace hS:=hid hS
   replace hR:=hid hR
   simp only[pw] at hm ⊢
   go_enter Tryz.func130,Tryz.ntmps130
   go_upto_region 1 with fail
   go_region_law (first | (refine nO rfl (.tmp 11) (.tmp 15) 174 rfl _ _ _ w3 rfl rfl hrun ?_) | (go_simp; go_at_call 131; refine Calls.mono (aX9 ⟨sb,0,none⟩ a n c B root _ hn ?_ ?_ hx) ?_; exact hE.out.s; exact(hS.out.below hE.out.bel).below (aD _ _); rintro e wb1 ⟨⟨ba,bn,bc,rfl,hN⟩,rfl⟩; replace hN:=hid hN) | (go_simp; go_at_call 29; refine Calls.mono (pY ba bn bc (bytesL B root) (fun _=>True) _ ?_ hN.out) ?_; exact hN.out.1▸h4; rintro e w1 ⟨b1,ba', bc', rfl,hbc,hN1⟩; have hE0:=hE.out.below (aD _ _); have hE1:=hE0.below b1; have hgl:=hE0.glt; have hal:=hE0.all.lt; have hN2:=hN1.weaken (R:=fun b=>b≠g/\b≠ab) (fun b _ h=>by omega); have bz:=aA w1 (.cells #[.slice ba' bn bc'] 28); have hE2:=hE1.below bz; obtain⟨xs,hrow,hL⟩:=hE2.row; obtain⟨w3,hrun,hrow3,hg3⟩:=run_append_own_spare (P:=Tryz.prog) (w1.alloc (.cells #[.slice ba' bn bc'] 28)) W.heap.size 174 174 28 i0 1 Tryz.underlying174 hi0 hz1 g m cap xs hrow ⟨w1.heap.size,0,none⟩ 1 1 [.slice ba' bn bc'] rfl (cA7 _ _ _) (fun u hu=>by simp at hu; subst hu; rfl) (by omega); have m1:=hE1.all.cell 0; have m2:=hE2.all.cell 0; have a3:=cF7 hE2 hg3; have f3:=a3.frozen 0; have a3':=a3.cell 0; simp only[List.getElem?_toArray,List.getElem?_cons_zero] at m1 m2 a3'; have hfin:=hid (hE2.push hL (hN2.below bz) hbc hrow3 hg3); clear hE0 hE1 hE2 hrow hL hrow3 hg3 hN1 hN2 b1 bz hgl hal a3))
   all_goals (go_wp2_with fail; exact bodyPost_ret (results_none rfl _ _ _) rfl ⟨rfl,hfin.out⟩)
 | succ l ih=>
   intro root m L w hl hr hm hE
   obtain⟨k0,k1,k2,k3,hks⟩:=four (hr.len hR)
   have hx:root=0\/There n B root:=hr.imp id (·.1)
   have hP:kU w ⟨sb,0,none⟩ a n c B:=⟨hE.slt,hE.s,hS.below hE.bel⟩
   have hnx:=aV9 B l root
   have hkid:∀ j,j<4->Root n B l ((kidsL B root).getD j 0):=fun j hj=>hr.kidAt hR hj
   have hfl:=bJ3 B l root
   have epw:pw (l+1)=4*pw l:=rfl
   rw[epw] at hm ⊢
   rw[hks] at hnx hkid
   generalize pw l=q at *
   replace ih:=hid ih
   replace hnx:=hid hnx
   replace hkid:=hid hkid
   replace hfl:=hid hfl
   replace hE:=hid hE
   replace hS:=hid hS
   replace hR:=hid hR
   have el:((l+1:Nat):Int)-1=(l:Int):=by omega
   have el':((l:Int)+1)-1=(l:Int):=by omega
   have wl:IntKind.i64.wrap (l:Int)=(l:Int):=Go.IntWalk.i64_in _ (by omega)
   have hll:l<=3:=by omega
   go_enter Tryz.func130,Tryz.ntmps130
   go_wp2_with fail
   refine(aB5 ⟨sb,0,none⟩ a n c B root k0 k1 k2 k3 w hn hP hx hks).mono ?_
   rintro e w1 ⟨rfl,b1⟩
   replace hE:=hid (hE.out.below b1)
   clear hP b1
   go_wp2_with fail
   go_loopw [19] (fun v wr=>∃ j:Nat,j<=4/\v=.int .i64 j/\AE W wr sb g ab wb a n c cap (m+j*q) (L++uN B (l+1) root (j*q))) (fun v _=>4-(Go.RowKit.intOf v).toNat)
   case atStart=>exact⟨0,Nat.zero_le _,rfl,by simpa [uN] using hE.out⟩
   case round=>
    clear hE
    obtain⟨j,hj4,rfl,hE⟩:=hrel
    have fn0:=hE.fn
    by_cases hlt:j<4
    ·have hroot:=hid (hkid.out j hlt)
     have hstep:Hid (∀ w', AE W w' sb g ab wb a n c cap (m+j*q+q) ((L++uN B (l+1) root (j*q))++lM B l ([k0,k1,k2,k3].getD j 0))->AE W w' sb g ab wb a n c cap (m+(j+1)*q) (L++uN B (l+1) root ((j+1)*q))):=hid (fun w' h=>by
      have e1:m+(j+1)*q=m+j*q+q:=by rw[Nat.add_mul]; omega
      rw[hnx.out j,<-List.append_assoc,e1]; exact h)
     have hcap:m+j*q+q<=cap:=by
      have h1:(j+1)*q<=4*q:=Nat.mul_le_mul_right q (by omega)
      rw[Nat.add_mul] at h1
      omega
     replace hE:=hid hE
     have hix:=cP4 k0 k1 k2 k3 j hlt
     generalize [k0,k1,k2,k3].getD j 0=x at *
     go_wp2_with fail
     refine(ih.out _ _ _ wr hll hroot.out hcap hE.out).mono ?_
     rintro e w2 ⟨rfl,hE2⟩
     replace hE2:=hid (hstep.out _ hE2)
     go_wp2_with fail
     go_roundw
     case rel=>exact⟨j+1,by omega,by go_num,hE2.out⟩
     case measure=>simp[Go.RowKit.intOf]; omega
    ·have hge:¬((j:Int)<4):=by omega
     have e4:Hid (j=4):=hid (by omega)
     replace hE:=hid hE
     go_wp2_with fail
     go_end0
     exact⟨rfl,by rw[<-hfl.out]; exact e4.out▸hE.out⟩
def aQ6 (w:World)(a:Option Addr)(m:Nat)(L:List (List Int)):Prop:=L.length=m/\∀ j,j<m->∃ b off x ln lc,a=some ⟨b,off,none⟩/\b<w.heap.size/\w.cell? ⟨b,off+j,none⟩=some (.slice x ln lc)/\aI (fun _=>True) .u8 w x ln (L.getD j [])
theorem aQ6.below {w w':World}{a:Option Addr}{m:Nat}{L:List (List Int)}(h:aQ6 w a m L)(hb:Below w.heap.size w w'):aQ6 w' a m L:=⟨h.1,fun j hj=>by
 obtain⟨b,off,x,ln,lc,h1,h2,h3,h4⟩:=h.2 j hj
 exact⟨b,off,x,ln,lc,h1,Nat.lt_of_lt_of_le h2 hb.size,(hb.cell (p:=⟨b,off+j,none⟩) h2).trans h3,h4.below hb⟩⟩
theorem AE.rows {W w:World}{sb g ab wb:Nat}{a:Option Addr}{n c cap m:Nat}{L:List (List Int)}(h:AE W w sb g ab wb a n c cap m L):aQ6 w (some ⟨g,0,none⟩) m L:=by
 refine⟨h.len,fun j hj=>?_⟩
 have hg:=h.glt
 obtain⟨xs,h1,h2⟩:=h.row
 obtain⟨x,ln,lc,h3,_,h4⟩:=h2.2 j (by rw[h.len]; exact hj)
 refine⟨g,0,x,ln,lc,rfl,hg,?_,h4.weaken (fun _ _ _=>trivial)⟩
 rcases h1.2 with⟨h0,_⟩ | ⟨g', cap', cur,hv,_,hh,_,_,_,ht⟩
 ·cases h0
 ·cases hv
  rw[Nat.zero_add]
  have e:w.cell? ⟨g,j,none⟩=cur[j]? :=by simp[World.cell?,hh]
  rw[e,<-h3,<-ht,List.getElem?_take_of_lt (by omega),Array.getElem?_toList]
theorem cF9 {w w2 w3:World}{a:Option Addr}{n c q:Nat}(b1:Below w.heap.size w w2)(ks:aC w2 w.heap.size #[.slice a n c] 24)(hown:w3.ownsRow w.heap.size 28 1 (.slice (some ⟨w2.heap.size,0,none⟩) 0 q) 0 [])(hgr:w2.grownBy w3 none):
 AE w ((w3.alloc (.cells #[.slice (some ⟨w2.heap.size,0,none⟩) 0 q] 174)).alloc (.cells #[.func (.func 130) #[] #[.pointer (some ⟨w3.heap.size,0,none⟩),.pointer (some ⟨w.heap.size,0,none⟩),.pointer (some ⟨w3.heap.size+1,0,none⟩)]] 200)) w.heap.size w2.heap.size w3.heap.size (w3.heap.size+1) a n c q 0 []:=by
 have b3:Below w2.heap.size w2 w3:=⟨hgr.os,hgr.tape,hgr.output,hgr.size,fun k hk=>hgr.block k hk (by simp)⟩
 have b4:=aA w3 (.cells #[.slice (some ⟨w2.heap.size,0,none⟩) 0 q] 174)
 have b5:=aA (w3.alloc (.cells #[.slice (some ⟨w2.heap.size,0,none⟩) 0 q] 174)) (.cells #[.func (.func 130) #[] #[.pointer (some ⟨w3.heap.size,0,none⟩),.pointer (some ⟨w.heap.size,0,none⟩),.pointer (some ⟨w3.heap.size+1,0,none⟩)]] 200)
 have b35:=Below.tr b4 b5
 have hg3:=(hown.lt w2.heap.size rfl).2
 have hs:=ks.lt
 have k5:=(ks.below b3).below b35
 have kf:=aF w3 (.cells #[.slice (some ⟨w2.heap.size,0,none⟩) 0 q] 174) #[.func (.func 130) #[] #[.pointer (some ⟨w3.heap.size,0,none⟩),.pointer (some ⟨w.heap.size,0,none⟩),.pointer (some ⟨w3.heap.size+1,0,none⟩)]] 200
 refine⟨Below.tr (Below.tr b1 b3) b35,by simpa using k5.cell 0,k5.lt,(aB w3 _ _).below b5,by simp,kf.lt,⟨[],mY hown (b35.block _ hg3),rfl,fun j hj=>by simp at hj⟩,rfl,⟨by omega,by omega⟩,by omega,by omega,by omega,by omega,by omega⟩
def cX4 (e:Ending)(w:World)(n:Nat)(B:Nat->Blk)(root lv:Int):Prop:=
 (∃ e':Int,e=.returned (.tuple #[.slice none 0 0,.int .i64 e'])/\e'≠0/\¬Checked n B root lv 0)\/
 (∃ (l:Nat) (v:Option Addr) (cap:Nat),e=.returned (.tuple #[.slice v (pw l) cap,.int .i64 0])/\l<=3/\lv=l/\Right n B/\Root n B l root/\aQ6 w v (pw l) (lM B l root))
theorem bM5 (a:Option Addr)(n c:Nat)(B:Nat->Blk)(root lv:Int)(w:World)(h:aN w a n B):
 Calls Tryz.prog 100 #[.agg #[.slice a n c],.int .i64 root,.int .i64 lv] w fun e w'=>(cX4 e w' n B root lv/\cT3 e (aD4 n B root lv 0))/\Below w.heap.size w w':=by
 have hmf:∀ (fn:Fn) (first cap:Array Value) (w:World),(Instr.makeFunc fn first cap).run Tryz.prog w=.ok (.func fn first cap) w:=fun _ _ _ _=>rfl
 obtain⟨i0,hi0,hz0,hz1,hz2⟩:=info_parts Tryz.infoSlb
 have b0:=aA w (.cells #[.slice a n c] 24)
 have ks:=aB w #[.slice a n c] 24
 have hP:=lV a n c B w 24 h
 replace hP:=hid hP
 replace ks:=hid ks
 replace h:=hid h
 go_enter Tryz.func100,Tryz.ntmps100
 go_wp2_with fail
 generalize w.alloc (.cells #[.slice a n c] 24)=w0 at *
 refine(wH ⟨w.heap.size,0,none⟩ a n c B root lv 0 w0 hP.out).mono ?_
 rintro e w1 ⟨⟨e1,rfl,he,hs2⟩,b1⟩
 replace ks:=hid (ks.out.below b1)
 replace b1:=Below.tr b0 b1
 clear b0 hP
 by_cases h0:e1=0
 ·have h0':(e1 == 0)=true:=by simp[h0]
  obtain⟨hR,l,hl,rfl,hr,_,_⟩:=he.1 h0
  have hq:=bO8 hl
  replace hR:=hid hR
  replace hr:=hid hr
  clear he hs2
  go_wp2_with fail
  refine(vZ l w1 hl).mono ?_
  rintro e w2 ⟨rfl,rfl⟩
  have hs2:=b1.size
  go_wp2_with (at_make; refine wpList_make_own _ rfl (.const (.int .i64 0)) (.tmp 18) 174 rfl w.heap.size 28 i0 (.slice none 0 0) 1 Tryz.underlying174 hi0 hz0 hz1 .i64 .i64 _ (pw l) rfl rfl rfl (by rw[hz2]; omega) (by unfold maxLen; omega) hs2 ?_; intro w3 hown hgr; replace hown:=hid hown; replace hgr:=hid hgr)
  have hA:=cF9 b1 ks.out hown.out hgr.out
  refine(aY0 w a n c B w.heap.size w2.heap.size w3.heap.size (w3.heap.size+1) (pw l) h.out hR.out l root 0 [] _ hl hr.out (by omega) hA).mono ?_
  rintro e w6 ⟨rfl,hE⟩
  rw[Nat.zero_add,List.nil_append] at hE
  have m6:=hE.all.cell 0
  simp only[List.getElem?_toArray,List.getElem?_cons_zero] at m6
  replace hE:=hid hE
  clear hA
  go_wp2_with fail
  go_ret2
  exact⟨⟨.inr ⟨l,_,_,rfl,hl,rfl,hR.out,hr.out,hE.out.rows⟩,aH2⟩,hE.out.bel⟩
 ·have h0':(e1 == 0)=false:=by simp[h0]
  have hno:Hid (¬Checked n B root lv 0):=hid (fun f=>h0 (he.2 f))
  replace hs2:=hid (hs2 h0)
  clear he
  go_wp2_with fail
  go_ret2
  exact⟨⟨.inl ⟨e1,rfl,h0,hno.out⟩,qN hs2.out⟩,b1⟩
theorem eQ {l m:List Int}(hl:l.length=m.length)(h:∀ i,i<l.length->l.getD i 0=m.getD i 0):l=m:=by
 apply List.ext_getElem hl
 intro i h1 h2
 have:=h i h1
 simpa [List.getD,h1,h2] using this
end Go.Proofs.YtjafgnohlkkopaaGreatDoor
