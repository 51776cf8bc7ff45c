import Derived.Test.YtjafgnohlkkopaaGreatDoorPart02
import Derived.Maps.Own
import Derived.Maps.OwnOps
import Derived.Lib.SlKeysI
import Derived.Shelf.SlIterI.Nil
import Derived.Shelf.SortM.Plain
import Derived.Shelf.SortM.SortNone
import Derived.Ground.GgzProg
import Derived.Ground.SlgmProg
import Derived.Test.YtjafgnohlkkopaaGreatDoorRows
import Derived.Maps.Views
set_option linter.unusedVariables false
set_option maxHeartbeats 8000000
set_option maxRecDepth 100000
namespace Go.Proofs.YtjafgnohlkkopaaGreatDoor
open Go.RowKit Go.Maps
def Clo (B:Nat->Blk)(l:List Int)(x:Int):Prop:=
 ∀ S:Int->Prop,(∀ r∈l,r≠0->S r)->(∀ y,S y->∀ k∈(B (y-1).toNat).kids,k≠0->S k)->S x
theorem Clo.root {B:Nat->Blk}{l:List Int}{x:Int}(h:x∈l)(h0:x≠0):Clo B l x:=fun S h1 _=>h1 x h h0
theorem Clo.kid {B:Nat->Blk}{l:List Int}{x k:Int}(h:Clo B l x)(hk:k∈(B (x-1).toNat).kids)(h0:k≠0):Clo B l k:=fun S h1 h2=>h2 x (h S h1 h2) k hk h0
theorem Clo.mono {B:Nat->Blk}{l m:List Int}{x:Int}(h:Clo B l x)(hs:∀ r∈l,r≠0->Clo B m r):Clo B m x:=
 h _ hs fun y hy k hk h0=>hy.kid hk h0
theorem Clo.nil {B:Nat->Blk}{x:Int}(h:Clo B [] x):False:=h (fun _=>False) (by simp) (by simp)
def bE (n:Nat)(B:Nat->Blk)(l:List Int):Prop:=∀ r∈l,r=0\/There n B r
theorem Clo.there {n:Nat}{B:Nat->Blk}{l:List Int}{x:Int}(hR:Right n B)(hl:bE n B l)(h:Clo B l x):There n B x:=by
 refine h (There n B) (fun r hr h0=>(hl r hr).resolve_left h0) fun y hy k hk h0=>?_
 rcases(hR.one _ (ix hy.1 hy.2.1).1).kids k hk with h | ⟨h,_⟩
 ·exact absurd h h0
 ·exact h
theorem aA4:∀ (n:Nat) (V:List Int),V.Nodup->(∀ x∈V,1<=x/\x<=n)->V.length<=n
 | 0,V,_,h=>by
   cases V with
   | nil=>simp
   | cons x r=>have:=h x (by simp); omega
 | n+1,V,hn,h=>by
   by_cases hm:((n:Int)+1)∈V
   ·have h1:=aA4 n (V.erase ((n:Int)+1)) (hn.erase _) (fun x hx=>by
     have hx':=(hn.mem_erase_iff).1 hx
     have:=h x hx'.2
     have:=hx'.1
     omega)
    have h2:=List.length_erase_of_mem hm
    have h3:0<V.length:=List.length_pos_of_mem hm
    omega
   ·have:=aA4 n V hn (fun x hx=>by
     have h1:=h x hx
     have:x≠(n:Int)+1:=fun e=>hm (e▸hx)
     omega)
    omega
theorem cP1:Keyed Tryz.prog 3:=int_keyed Tryz.underlying3
theorem bL8 (w:World):(zeroValue 3).run Tryz.prog w=.ok (.int .i64 0) w:=by kernel_rfl
def Seen (w:World)(b:Nat)(V:List Int):Prop:=
 ∃ D:DataW Unit,w.ownsMap Tryz.prog 3 (plainElem Tryz.prog 3) b V.length D/\IsMap D/\V.Nodup/\(∀ x,x∈V↔has D (.int .i64 x)=true)/\∀ x∈V,∀ z,D.atKey (.int .i64 x) z=.lit (.int .i64 1)
theorem Seen.out {w w':World}{b:Nat}{V:List Int}(h:Seen w b V)(hb:w'.heap[b]? =w.heap[b]?):Seen w' b V:=by
 obtain⟨D,⟨es,clock,h1,h2,h3,h4⟩,r⟩:=h
 exact⟨D,⟨es,clock,hb.trans h1,h2,h3,h4⟩,r⟩
theorem uM (x:Int):WideAt.IsKeyLit (.int .i64 x):=by first | exact⟨_,_,rfl⟩ | trivial | (unfold WideAt.IsKeyLit; simp)
theorem aZ7 {D:DataW Unit}{V:List Int}{x:Int}(hD:IsMap D)(hn:V.Nodup)(hx:x∉V)(hm:∀ x,x∈V↔has D (.int .i64 x)=true)(ha:∀ x∈V,∀ z,D.atKey (.int .i64 x) z=.lit (.int .i64 1)):
 IsMap (D.put (.int .i64 x) (.lit (.int .i64 1)))/\(V++[x]).Nodup/\(∀ y,y∈V++[x]↔has (D.put (.int .i64 x) (.lit (.int .i64 1))) (.int .i64 y)=true)/\∀ y∈V++[x],∀ z,(D.put (.int .i64 x) (.lit (.int .i64 1))).atKey (.int .i64 y) z=.lit (.int .i64 1):=by
 refine⟨hD.put _ _,List.nodup_append.2 ⟨hn,by simp,fun a ha b hb=>by simp at hb; subst hb; exact fun e=>hx (e▸ha)⟩,fun y=>?_,fun y hy z=>?_⟩
 ·by_cases e:y=x
  ·subst e; simp[has_put_same hD (uM y)]
  ·rw[has_put_other (by simpa using e)]
   simp[hm y,e]
 ·by_cases e:y=x
  ·subst e; rw[atKey_put_same hD (uM y)]
  ·rw[atKey_put_other (by simpa using e)]
   exact ha y (by simpa [e] using hy) z
structure RE (W w:World)(mb wb sb:Nat):Prop where
 bel:Below W.heap.size W w
 m:aC w mb #[.map (some W.heap.size)] 70
 l:aC w wb #[.func (.func 108) #[] #[.pointer (some ⟨mb,0,none⟩),.pointer (some ⟨wb,0,none⟩),.pointer (some ⟨sb,0,none⟩)]] 183
 nm:mb≠W.heap.size
 nw:wb≠W.heap.size
theorem RE.grown {W w w':World}{mb wb sb:Nat}(h:RE W w mb wb sb)(hg:w.grownBy w' (some W.heap.size)):RE W w' mb wb sb:=by
 refine⟨h.bel.grown hg h.bel.size (fun k hk=>by cases hk; exact Nat.le_refl _),?_,?_,h.nm,h.nw⟩
 ·unfold aC
  rw[hg.block mb h.m.lt (by simp; exact h.nm)]
  exact h.m
 ·unfold aC
  rw[hg.block wb h.l.lt (by simp; exact h.nw)]
  exact h.l
theorem RE.drew {W w:World}{mb wb sb:Nat}(h:RE W w mb wb sb):RE W w.drew mb wb sb:=⟨h.bel.drew,h.m,h.l,h.nm,h.nw⟩
structure Got (n:Nat)(B:Nat->Blk)(l l':List Int)(V V':List Int):Prop where
 there:∀ x∈V', There n B x
 sub:∀ x∈V,x∈V'
 all:∀ x∈l', x≠0->x∈V'
 clo:∀ x∈V', x∈V\/Clo B l x
 shut:∀ x∈V', x∉V->∀ k∈(B (x-1).toNat).kids,k≠0->k∈V'
theorem Got.start {n:Nat}{B:Nat->Blk}(l:List Int){V:List Int}(h:∀ x∈V,There n B x):Got n B l [] V V:=⟨h,fun x hx=>hx,by simp,fun x hx=>.inl hx,fun x hx hn=>absurd hx hn⟩
theorem Got.skip {n:Nat}{B:Nat->Blk}{l l' V V':List Int}(h:Got n B l l' V V'){x:Int}(hx:x=0\/x∈V'):Got n B l (l'++[x]) V V':=
 ⟨h.there,h.sub,fun y hy h0=>by
   rcases List.mem_append.1 hy with hy | hy
   ·exact h.all y hy h0
   ·simp at hy
    subst hy
    exact hx.resolve_left h0,h.clo,h.shut⟩
theorem Got.next {n:Nat}{B:Nat->Blk}{l l' V V' V'':List Int}(h:Got n B l l' V V'){x:Int}(hx0:x≠0)(hxl:x∈l)(hxt:There n B x)
 (k:Got n B (B (x-1).toNat).kids (B (x-1).toNat).kids (V'++[x]) V''):Got n B l (l'++[x]) V V'':=by
 have hxin:x∈V'':=k.sub x (by simp)
 refine⟨k.there,fun y hy=>k.sub y (by simp[h.sub y hy]),fun y hy h0=>?_,fun y hy=>?_,fun y hy hn=>?_⟩
 ·rcases List.mem_append.1 hy with hy | hy
  ·exact k.sub y (by simp[h.all y hy h0])
  ·simp at hy; subst hy; exact hxin
 ·rcases k.clo y hy with h1 | h1
  ·rcases List.mem_append.1 h1 with h2 | h2
   ·exact h.clo y h2
   ·simp at h2; subst h2; exact .inr (Clo.root hxl hx0)
  ·exact .inr (h1.mono fun r hr h0=>(Clo.root hxl hx0).kid hr h0)
 ·intro z hz h0
  by_cases e:y=x
  ·subst e; exact k.all z hz h0
  ·by_cases e2:y∈V'
   ·exact k.sub z (by simp[h.shut y e2 hn z hz h0])
   ·exact k.shut y hy (by simp[e,e2]) z hz h0
def cR2 (W:World)(mb wb sb n:Nat)(B:Nat->Blk)(l V:List Int)(w':World):Prop:=∃ V', RE W w' mb wb sb/\Seen w' W.heap.size V'/\Got n B l l V V'
theorem bY0 (W:World)(p:Addr)(a:Option Addr)(n c:Nat)(B:Nat->Blk)(sb mb wb:Nat)(hP:kU W p a n c B)(hs:W.cell? ⟨sb,0,none⟩=some (.pointer (some p)))(hsb:sb<W.heap.size)(hR:Right n B)(f:Nat):
 ∀ (l:List Int) (la:Option Addr) (ln lc:Nat) (V:List Int) (w:World),aI (fun _=>True) .i64 W la ln l->(∀ x∈l,x=0\/(There n B x/\(B (x-1).toNat).level<f))->(∀ x∈V,There n B x)->RE W w mb wb sb->Seen w W.heap.size V->ln<9223372036854775807->
 Calls Tryz.prog 108 #[.slice la ln lc,.pointer (some ⟨mb,0,none⟩),.pointer (some ⟨wb,0,none⟩),.pointer (some ⟨sb,0,none⟩)] w fun e w'=>e=.returned (.tuple #[])/\cR2 W mb wb sb n B l V w':=by
 induction f using Nat.strongRecOn with
 | _ f ih=>
   intro l la ln lc V w hN hl hV hE hS hln
   have hn:=hR.small
   replace ih:=hid ih
   replace hN:=hid hN
   replace hl:=hid hl
   replace hV:=hid hV
   replace hR:=hid hR
   replace hE:=hid hE
   replace hS:=hid hS
   go_enter Tryz.func108,Tryz.ntmps108
   go_wp2_with fail
   go_loopw [9] (fun v wr=>∃ j:Nat,j<=ln/\v=.int .i64 j/\∃ Vj,RE W wr mb wb sb/\Seen wr W.heap.size Vj/\Got n B l (l.take j) V Vj) (fun v _=>ln-(Go.RowKit.intOf v).toNat)
   case atStart=>exact⟨0,Nat.zero_le _,rfl,V,hE.out,hS.out,by simpa using Got.start l hV.out⟩
   case round=>
    clear hE hS
    obtain⟨j,hjn,rfl,Vj,hE,hS,hG⟩:=hrel
    by_cases hlt:j<ln
    ·obtain⟨kb,ko,rfl,hkb,_,hc⟩:=hN.out.2.2 (by omega)
     have hck:wr.cell? ⟨kb,ko+j,none⟩=some (.int .i64 (l.getD j 0)):=(hE.bel.cell (p:=⟨kb,ko+j,none⟩) hkb).trans (hc j hlt)
     have hjl:j<l.length:=by rw[hN.out.1]; exact hlt
     have hmem:l.getD j 0∈l:=hN.out.getD hlt
     have htk:=hid (fJ hjl)
     have hwf:(Lit.int .i64 (l.getD j 0)).wf=true:=hN.out.2.1 _ hmem
     have hkid:=hid (hl.out _ hmem)
     have m0:=hE.m.cell 0
     have l0:=hE.l.cell 0
     simp at m0 l0
     replace hmem:=hid hmem
     clear hc hjl
     generalize l.getD j 0=x at *
     by_cases hx0:x=0
     ·have hx0':(x == 0)=true:=by simp[hx0]
      have hG':Hid (Got n B l (l.take (j+1)) V Vj):=hid (by rw[htk.out]; exact hG.skip (.inl hx0))
      replace hE:=hid hE
      replace hS:=hid hS
      clear hG
      go_wp2_with fail
      go_roundw
      case rel=>exact⟨j+1,by omega,by go_num,Vj,hE.out,hS.out,hG'.out⟩
      case measure=>simp[Go.RowKit.intOf]; omega
     ·have hx0':(x == 0)=false:=by simp[hx0]
      obtain⟨D,hown,hD,hnd,hm,hat⟩:=hS
      obtain⟨cv,hrun,hcv,hwc⟩:=hown.lookup_int cP1 Tryz.underlying70 Tryz.underlying3 (bL8 _) (keyOf_int_mk Tryz.underlying3 hwf)
      by_cases hin:x∈Vj
      ·have hc1:cv=1:=by
        rw[hat x hin] at hcv
        simpa using hcv.symm
       subst hc1
       have hG':Hid (Got n B l (l.take (j+1)) V Vj):=hid (by rw[htk.out]; exact hG.skip (.inr hin))
       have hS:Hid (Seen wr W.heap.size Vj):=hid ⟨D,hown,hD,hnd,hm,hat⟩
       replace hE:=hid hE
       clear hG hown hD hnd hm hat hcv hin
       go_wp2_with fail
       go_roundw
       case rel=>exact⟨j+1,by omega,by go_num,Vj,hE.out,hS.out,hG'.out⟩
       case measure=>simp[Go.RowKit.intOf]; omega
      ·have hc0:cv=0:=by
        have h1:has D (.int .i64 x)=false:=by
            cases h2:has D (.int .i64 x)
            ·rfl
            ·exact absurd ((hm x).2 h2) hin
        rw[atKey_of_not_has h1] at hcv
        simpa using hcv.symm
       subst hc0
       have hlen:Vj.length<=n:=aA4 n Vj hnd (fun y hy=>⟨(hG.there y hy).1,(hG.there y hy).2.1⟩)
       have hput:=hid (aZ7 hD hnd hin hm hat)
       have hxt:=hkid.out.resolve_left hx0
       obtain⟨i,rfl⟩:∃ i:Nat,x=(i:Int)+1:=⟨(x-1).toNat,by have:=hxt.1.1; omega⟩
       have ei:((i:Int)+1-1).toNat=i:=by omega
       have hi:i<n:=by have:=hxt.1.2.1; omega
       replace hE:=hid hE
       replace hG:=hid hG
       replace hcv:=hid hcv
       clear hnd hm hat hD hkid
       go_wp2_with (at_mapUpdate; refine wpList_mapUpdate_own _ rfl _ _ _ 70 rfl 3 3 cP1 Tryz.underlying70 _ W.heap.size Vj.length _ rfl hown (by unfold maxLen; omega) _ _ _ rfl rfl (keyOf_int_mk Tryz.underlying3 hwf) _ [] (plainElem_int Tryz.underlying3 (WalkArith.wf_i64 (by omega))) ?_; intro w1 hown1 hgrow1)
       replace hE:=hE.out.grown hgrow1
       have hlen1:(Vj++[(i:Int)+1]).length=Vj.length+1:=by simp
       have hS1:Seen w1 W.heap.size (Vj++[(i:Int)+1]):=⟨_,by rw[hlen1]; exact hown1,hput.out.1,hput.out.2.1,hput.out.2.2.1,hput.out.2.2.2⟩
       clear hown1 hgrow1 hput hown hrun hcv hwc m0 l0 hck hlen1
       obtain⟨b', off', rfl,hb', hB'⟩:=hP.store (by omega)
       obtain⟨ka,kn,kc,ba,bn,bc,hbk⟩:=hB' i hi
       have s0:=(hE.bel.cell (p:=⟨sb,0,none⟩) hsb).trans hs
       have q0:=(hE.bel.cell (p:=p) hP.lt).trans hP.cell
       have c2:=(hE.bel.cell (p:=⟨b', off'+i*4+2,none⟩) hb').trans hbk.c2
       have l0:=hE.l.cell 0
       simp at l0
       have hkn:kn<9223372036854775807:=by
        have h1:=hbk.kids.1
        have h2:=(hR.out.one i hi).few
        omega
       have hkids:=hid hbk.kids
       have hlev:Hid (∀ x∈(B i).kids,x=0\/(There n B x/\(B (x-1).toNat).level<(((B i).level.toNat:Nat):Int))):=hid (fun x hx=>by
        rcases(hR.out.one i hi).kids x hx with h | ⟨h1,h2⟩
        ·exact .inl h
        ·have h3:=(hR.out.one i hi).live hx
         exact .inr ⟨h1,by omega⟩)
       have hless:(B i).level.toNat<f:=by
        have h1:=hxt.2
        rw[ei] at h1
        have h2:=(hR.out.one i hi).bounds
        omega
       have hV1:Hid (∀ x∈Vj++[(i:Int)+1],There n B x):=hid (fun x hx=>by
        rcases List.mem_append.1 hx with h | h
        ·exact hG.out.there x h
        ·simp at h; subst h; exact hxt.1)
       have hend:Hid (∀ V'', Got n B (B i).kids (B i).kids (Vj++[(i:Int)+1]) V''->Got n B l (l.take (j+1)) V V''):=hid (fun V'' hk=>by
        rw[htk.out]
        exact hG.out.next hx0 hmem.out hxt.1 (by rw[ei]; exact hk))
       replace hE:=hid hE
       replace hS1:=hid hS1
       replace hP:=hid hP
       replace hxt:=hid hxt
       clear hbk hB' hb' ei hG
       go_upto_region 5 with fail
       go_region_with (first
        | (go_at_call 109; refine(uT p b' off' n c i _ hn ?_ hi).mono ?_; exact q0; rintro e w' ⟨rfl,rfl⟩)
        | (go_at_call 108; refine(ih.out (B i).level.toNat hless (B i).kids ka kn kc (Vj++[(i:Int)+1]) _ hkids.out hlev.out hV1.out ?_ ?_ hkn).mono ?_; exact hE.out.drew; exact hS1.out.out rfl; rintro e w' ⟨rfl,V'', hE2,hS2,hG2⟩; replace hE2:=hid hE2; replace hS2:=hid hS2; replace hG2:=hid hG2))
       all_goals (clear s0 q0 c2 l0; go_wp2_with fail; go_roundw)
       all_goals first
        | exact⟨j+1,by omega,by go_num,V'', hE2.out,hS2.out,hend.out V'' hG2.out⟩
        | (simp[Go.RowKit.intOf]; omega)
    ·obtain rfl:j=ln:=by omega
     have hG':Hid (Got n B l l V Vj):=hid (by rw[List.take_of_length_le (by rw[hN.out.1]; exact Nat.le_refl _)] at hG; exact hG)
     replace hE:=hid hE
     replace hS:=hid hS
     clear hG
     go_wp2_with fail
     go_end0
     exact⟨rfl,Vj,hE.out,hS.out,hG'.out⟩
end Go.Proofs.YtjafgnohlkkopaaGreatDoor
namespace Go.Proofs.YtjafgnohlkkopaaGreatDoor
open Go.RowKit Go.Maps Go.Sort Go.Shelf
def Tryz.keysA_ren : Go.Shelf.Ren := ⟨fun | 7 => 111 | 10 => 143 | n => n, fun | 23 => 70 | 26 => 3 | 3 => 3 | 28 => 187 | 0 => 0 | 27 => 186 | 33 => 123 | 4 => 4 | n => n, fun | n => n⟩
theorem Tryz.keysA : Go.Proofs.SlLaysZI.n7 Tryz.prog Tryz.keysA_ren := {
  mixed := by kernel_rfl
  f7 := ⟨Tryz.f111.name, by decide, Tryz.func111.trans (congrArg some (by kernel_rfl))⟩
  f10 := ⟨Tryz.f143.name, by decide, Tryz.func143.trans (congrArg some (by kernel_rfl))⟩
  t0 := Tryz.underlying0
  a0 := Tryz.isAgg0
  z0 := Tryz.sizeOf0
  v0 := Tryz.zeroValue0
  t4 := Tryz.underlying4
  a4 := Tryz.isAgg4
  z4 := Tryz.sizeOf4
  v4 := Tryz.zeroValue4
  t23 := Tryz.underlying70
  a23 := Tryz.isAgg70
  z23 := Tryz.sizeOf70
  v23 := Tryz.zeroValue70
  t26 := Tryz.underlying3
  a26 := Tryz.isAgg3
  z26 := Tryz.sizeOf3
  v26 := Tryz.zeroValue3
  t27 := Tryz.underlying186
  a27 := Tryz.isAgg186
  z27 := Tryz.sizeOf186
  v27 := Tryz.zeroValue186
  t28 := Tryz.underlying187
  a28 := Tryz.isAgg187
  z28 := Tryz.sizeOf187
  v28 := Tryz.zeroValue187
  t33 := Tryz.underlying123
  a33 := Tryz.isAgg123
  z33 := Tryz.sizeOf123
  v33 := Tryz.zeroValue123 }
def Tryz.sortedA_ren : Go.Shelf.Ren := ⟨fun | 6 => 110 | 8 => 141 | 9 => 142 | 11 => 163 | 13 => 165 | 12 => 164 | 23 => 184 | 24 => 159 | 14 => 175 | 15 => 176 | 16 => 177 | 17 => 178 | 18 => 179 | 19 => 180 | 20 => 181 | 21 => 182 | 22 => 183 | 25 => 189 | 26 => 190 | 27 => 191 | 28 => 192 | 29 => 193 | 30 => 194 | 31 => 201 | n => n, fun | 26 => 3 | 28 => 187 | 24 => 36 | 0 => 0 | 3 => 3 | 37 => 73 | 48 => 124 | 50 => 127 | 4 => 4 | 40 => 242 | 39 => 241 | 45 => 88 | 5 => 5 | 9 => 9 | 51 => 253 | 55 => 257 | 57 => 261 | 58 => 262 | 33 => 123 | n => n, fun | n => n⟩
theorem Tryz.sortedA : Go.Proofs.SlLaysZI.n6 Tryz.prog Tryz.sortedA_ren := {
  mixed := by kernel_rfl
  f6 := ⟨Tryz.f110.name, by decide, Tryz.func110.trans (congrArg some (by kernel_rfl))⟩
  f8 := ⟨Tryz.f141.name, by decide, Tryz.func141.trans (congrArg some (by kernel_rfl))⟩
  f11 := ⟨Tryz.f163.name, by decide, Tryz.func163.trans (congrArg some (by kernel_rfl))⟩
  t0 := Tryz.underlying0
  a0 := Tryz.isAgg0
  z0 := Tryz.sizeOf0
  v0 := Tryz.zeroValue0
  t24 := Tryz.underlying36
  a24 := Tryz.isAgg36
  z24 := Tryz.sizeOf36
  v24 := Tryz.zeroValue36
  t26 := Tryz.underlying3
  a26 := Tryz.isAgg3
  z26 := Tryz.sizeOf3
  v26 := Tryz.zeroValue3
  t28 := Tryz.underlying187
  a28 := Tryz.isAgg187
  z28 := Tryz.sizeOf187
  v28 := Tryz.zeroValue187
  i26 := by kernel_rfl }
def Tryz.sortA_ren : Go.Shelf.Ren := ⟨fun | 5 => 142 | 8 => 165 | 7 => 164 | 19 => 184 | 20 => 159 | 10 => 175 | 11 => 176 | 12 => 177 | 13 => 178 | 14 => 179 | 15 => 180 | 16 => 181 | 17 => 182 | 18 => 183 | 30 => 189 | 31 => 190 | 32 => 191 | 33 => 192 | 34 => 193 | 35 => 194 | 40 => 201 | n => n, fun | 23 => 36 | 25 => 3 | 3 => 3 | 32 => 73 | 22 => 36 | 0 => 0 | 44 => 124 | 46 => 127 | 4 => 4 | 36 => 242 | 35 => 241 | 41 => 88 | 5 => 5 | 9 => 9 | 53 => 253 | 57 => 257 | 63 => 261 | 64 => 262 | n => n, fun | n => n⟩
theorem Tryz.sortA : Go.Proofs.SlLaysM.n5 Tryz.prog Tryz.sortA_ren := {
  mixed := by kernel_rfl
  f5 := ⟨Tryz.f142.name, by decide, Tryz.func142.trans (congrArg some (by kernel_rfl))⟩
  f7 := ⟨Tryz.f164.name, by decide, Tryz.func164.trans (congrArg some (by kernel_rfl))⟩
  f8 := Tryz.func165.trans (congrArg some (by kernel_rfl))
  f10 := ⟨Tryz.f175.name, by decide, Tryz.func175.trans (congrArg some (by kernel_rfl))⟩
  f11 := ⟨Tryz.f176.name, by decide, Tryz.func176.trans (congrArg some (by kernel_rfl))⟩
  f12 := ⟨Tryz.f177.name, by decide, Tryz.func177.trans (congrArg some (by kernel_rfl))⟩
  f13 := ⟨Tryz.f178.name, by decide, Tryz.func178.trans (congrArg some (by kernel_rfl))⟩
  f14 := ⟨Tryz.f179.name, by decide, Tryz.func179.trans (congrArg some (by kernel_rfl))⟩
  f15 := ⟨Tryz.f180.name, by decide, Tryz.func180.trans (congrArg some (by kernel_rfl))⟩
  f16 := ⟨Tryz.f181.name, by decide, Tryz.func181.trans (congrArg some (by kernel_rfl))⟩
  f17 := ⟨Tryz.f182.name, by decide, Tryz.func182.trans (congrArg some (by kernel_rfl))⟩
  f18 := ⟨Tryz.f183.name, by decide, Tryz.func183.trans (congrArg some (by kernel_rfl))⟩
  f19 := Tryz.func184.trans (congrArg some (by kernel_rfl))
  f20 := Tryz.func159.trans (congrArg some (by kernel_rfl))
  f30 := ⟨Tryz.f189.name, by decide, Tryz.func189.trans (congrArg some (by kernel_rfl))⟩
  f31 := Tryz.func190.trans (congrArg some (by kernel_rfl))
  f32 := Tryz.func191.trans (congrArg some (by kernel_rfl))
  f33 := ⟨Tryz.f192.name, by decide, Tryz.func192.trans (congrArg some (by kernel_rfl))⟩
  f34 := ⟨Tryz.f193.name, by decide, Tryz.func193.trans (congrArg some (by kernel_rfl))⟩
  f35 := ⟨Tryz.f194.name, by decide, Tryz.func194.trans (congrArg some (by kernel_rfl))⟩
  f40 := ⟨Tryz.f201.name, by decide, Tryz.func201.trans (congrArg some (by kernel_rfl))⟩
  t0 := Tryz.underlying0
  a0 := Tryz.isAgg0
  z0 := Tryz.sizeOf0
  v0 := Tryz.zeroValue0
  t3 := Tryz.underlying3
  a3 := Tryz.isAgg3
  z3 := Tryz.sizeOf3
  v3 := Tryz.zeroValue3
  t4 := Tryz.underlying4
  a4 := Tryz.isAgg4
  z4 := Tryz.sizeOf4
  v4 := Tryz.zeroValue4
  t5 := Tryz.underlying5
  a5 := Tryz.isAgg5
  z5 := Tryz.sizeOf5
  v5 := Tryz.zeroValue5
  t9 := Tryz.underlying9
  a9 := Tryz.isAgg9
  z9 := Tryz.sizeOf9
  v9 := Tryz.zeroValue9
  t22 := Tryz.underlying36
  a22 := Tryz.isAgg36
  z22 := Tryz.sizeOf36
  v22 := Tryz.zeroValue36
  t23 := Tryz.underlying36
  a23 := Tryz.isAgg36
  z23 := Tryz.sizeOf36
  v23 := Tryz.zeroValue36
  t25 := Tryz.underlying3
  a25 := Tryz.isAgg3
  z25 := Tryz.sizeOf3
  v25 := Tryz.zeroValue3
  t32 := Tryz.underlying73
  a32 := Tryz.isAgg73
  z32 := Tryz.sizeOf73
  v32 := Tryz.zeroValue73
  t35 := Tryz.underlying241
  a35 := Tryz.isAgg241
  z35 := Tryz.sizeOf241
  v35 := Tryz.zeroValue241
  t36 := Tryz.underlying242
  a36 := Tryz.isAgg242
  z36 := Tryz.sizeOf242
  v36 := Tryz.zeroValue242
  t41 := Tryz.underlying88
  a41 := Tryz.isAgg88
  z41 := Tryz.sizeOf88
  v41 := Tryz.zeroValue88
  t44 := Tryz.underlying124
  a44 := Tryz.isAgg124
  z44 := Tryz.sizeOf124
  v44 := Tryz.zeroValue124
  t46 := Tryz.underlying127
  a46 := Tryz.isAgg127
  z46 := Tryz.sizeOf127
  v46 := Tryz.zeroValue127
  t53 := Tryz.underlying253
  a53 := Tryz.isAgg253
  z53 := Tryz.sizeOf253
  v53 := Tryz.zeroValue253
  t57 := Tryz.underlying257
  a57 := Tryz.isAgg257
  z57 := Tryz.sizeOf257
  v57 := Tryz.zeroValue257
  t63 := Tryz.underlying261
  a63 := Tryz.isAgg261
  z63 := Tryz.sizeOf261
  v63 := Tryz.zeroValue261
  t64 := Tryz.underlying262
  a64 := Tryz.isAgg262
  z64 := Tryz.sizeOf262
  v64 := Tryz.zeroValue262 }
theorem sortsA (m : Nat) : AnyZI.SortsIn Tryz.prog Tryz.sortedA_ren Fence.wide m :=
  ⟨fun blk off cap ss W hH hblk hsz => callsIn_wide.2 (AnyM.slices_Sort_int Tryz.sortA blk off cap ss W hH hblk hsz),
   fun p cap W => callsIn_wide.2 (AnyM.slices_Sort_int_none Tryz.sortA p cap W)⟩
theorem keys_any (mb : Option Nat) (W : World) : Calls Tryz.prog 111 #[.map mb] W fun e w' => e = .returned (.func (.func 143) #[] #[.pointer (some ⟨W.heap.size, 0, none⟩)]) ∧ w' = W.alloc (.cells #[.map mb] 70) :=
  (callsIn_wide (n := 5)).1 (AnyZI.keys_in Tryz.keysA Fence.wide 5 trivial rfl mb W)
theorem sortedKeys_any {H : Type} (b nn : Nat) (D0 : DataW H) (R : Value → Option (DataW H × List MemPlace)) (w : World) (hown : w.ownsMap Tryz.prog 3 R b nn D0) (hmax : Maps.size D0 ≤ maxLen) (hbytes : Maps.size D0 * 8 ≤ 140737488355328) :
    Calls Tryz.prog 110 #[.func (.func 143) #[] #[.pointer (some ⟨w.heap.size, 0, none⟩)]] (w.alloc (.cells #[.map (some b)] 70)) fun e w' => ∃ (v : Value) (ss : List Int), e = .returned v ∧ ss.Perm (intKeys D0) ∧
      w'.ownsRow (w.heap.size + 1) 3 1 v ss.length ((ss.mergeSort (fun x y => decide (x ≤ y))).map encZ) ∧ (v = .slice none 0 0 ↔ ss = []) ∧ Below (w.heap.size + 1) (w.alloc (.cells #[.map (some b)] 70)) w' := by
  refine (callsIn_wide (n := 5)).1 ?_
  have hbl := hown.lt
  have hseq : SeqGives Fence.wide 2 Tryz.prog 143 #[.pointer (some ⟨w.heap.size, 0, none⟩)] encZ (fun ss => ss.Perm (intKeys D0)) (Maps.size D0) (w.alloc (.cells #[.map (some b)] 70)) :=
    AnyZI.keys_gives (ρ := Tryz.keysA_ren) { Tryz.keysA with } Fence.wide _ trivial rfl (by omega) w.heap.size b nn D0 _ (by simp) (by simp) (by
      obtain ⟨es, clock, hb, Ft, hs, hD⟩ := hown
      exact ⟨es, clock, (Below.heap_alloc _ _ b hbl).trans hb, Ft, hs, hD⟩)
  have cS := AnyZI.sorted_in Tryz.sortedA Fence.wide 5 trivial trivial trivial trivial rfl (by omega) (sortsA _) (enters_of Tryz.func142 (by kernel_rfl) rfl) 143 #[.pointer (some ⟨w.heap.size, 0, none⟩)] trivial (enters_of Tryz.func143 (by kernel_rfl) rfl) _ _ hmax hbytes _ hseq
  change CallsIn _ _ Tryz.prog 110 _ _ _ at cS
  refine cS.mono ?_
  rintro e w' ⟨v, ss, rfl, h1, h2, h3, h4⟩
  rw [World.size_alloc] at h2 h4
  exact ⟨v, ss, rfl, h1, h2, h3, h4⟩
end Go.Proofs.YtjafgnohlkkopaaGreatDoor
namespace Go.Proofs.YtjafgnohlkkopaaGreatDoor
open Go.RowKit Go.Maps
def jH (L:List Int):Prop:=L.Pairwise (fun x y=>x<y)
theorem wJ (V:List Int)(hn:V.Nodup):jH (V.mergeSort leI)/\∀ x,x∈V.mergeSort leI↔x∈V:=by
 have tr:∀ a b c:Int,leI a b=true->leI b c=true->leI a c=true:=fun a b c h1 h2=>by simp only[leI,decide_eq_true_eq] at *; exact Int.le_trans h1 h2
 have to:∀ a b:Int,(leI a b || leI b a)=true:=fun a b=>by simp only[leI,Bool.or_eq_true,decide_eq_true_eq]; exact Int.le_total a b
 have h1:=List.pairwise_mergeSort tr to V
 have h2:(V.mergeSort leI).Nodup:=(List.mergeSort_perm V leI).nodup_iff.2 hn
 refine⟨?_,fun x=>(List.mergeSort_perm V leI).mem_iff⟩
 unfold jH
 have h3:=List.Pairwise.and h1 h2
 refine h3.imp ?_
 intro a b h
 have ha:=h.1
 simp only[leI,decide_eq_true_eq] at ha
 have:=h.2
 omega
def cS5 (base:Nat)(w:World)(v:Value)(L:List Int):Prop:=w.ownsRow base 3 1 v L.length (L.map (Value.int .i64))/\∀ x∈L,(Lit.int .i64 x).wf=true
def aQ8 (n:Nat)(B:Nat->Blk)(l:List Int):Prop:=Right n B/\bE n B l
def cW4 (base:Nat)(e:Ending)(w:World)(n:Nat)(B:Nat->Blk)(l:List Int):Prop:=
 (∃ e', e=.returned (.tuple #[.slice none 0 0,.int .i64 e'])/\e'≠0/\¬aQ8 n B l)\/
 (aQ8 n B l/\∃ v L,e=.returned (.tuple #[v,.int .i64 0])/\cS5 base w v L/\jH L/\∀ x,x∈L↔Clo B l x)
theorem aK1 {D:DataW Unit}{V:List Int}(hD:IsMap D)(h:V.Perm (intKeys D)):Maps.size D=V.length:=by
 obtain⟨es,rfl⟩:=hD
 rw[h.length_eq]
 simp[intKeys,Maps.size]
theorem aZ8 (w:World):Seen (w.alloc (.map #[] 0)) w.heap.size []:=
 ⟨.map [],World.ownsMap_made _ _ _ _,⟨[],rfl⟩,List.nodup_nil,fun x=>by simp[has],fun x hx=>by simp at hx⟩
theorem bO6 (p:Addr)(a:Option Addr)(n c:Nat)(B:Nat->Blk)(la:Option Addr)(ln lc:Nat)(l:List Int)(w:World)(h:kU w p a n c B)(hl:aI (fun _=>True) .i64 w la ln l)(hln:ln<9223372036854775807):
 Calls Tryz.prog 83 #[.pointer (some p),.slice la ln lc] w fun e w'=>cW4 w.heap.size e w' n B l/\Below w.heap.size w w':=by
 have hmm:=@run_makeMap Tryz.prog
 have hmf:∀ (fn:Fn) (first cap:Array Value) (w:World),(Instr.makeFunc fn first cap).run Tryz.prog w=.ok (.func fn first cap) w:=fun _ _ _ _=>rfl
 have b0:=aA w (.cells #[.pointer (some p)] 60)
 have k0:aC _ w.heap.size #[.pointer (some p)] 60:=aB w _ _
 replace h:=h.below b0
 replace hl:=hl.below b0
 go_enter Tryz.func83,Tryz.ntmps83
 go_wp2_with fail
 generalize w.alloc (.cells #[.pointer (some p)] 60)=w0 at *
 refine(mH p a n c B w0 h).mono ?_
 rintro e w1 ⟨⟨e', rfl,he⟩,b1⟩
 replace h:=h.below b1
 replace hl:=hl.below b1
 replace k0:=k0.below b1
 replace b1:=Below.tr b0 b1
 have s0:=k0.cell 0
 simp at s0
 replace he:=hid he
 clear b0
 by_cases h0:e'=0
 ·have h0':(e' == 0)=true:=by simp[h0]
  have hR:=he.out.1 h0
  have hn:=hR.small
  have q0:=h.cell
  replace hR:=hid hR
  replace hl:=hid hl
  replace h:=hid h
  replace k0:=hid k0
  go_wp2_with fail
  go_loopw [18] (fun v wr=>∃ j:Nat,j<=ln/\v=.int .i64 j/\(∀ r∈l.take j,r=0\/There n B r)/\wr=w1) (fun v _=>ln-(Go.RowKit.intOf v).toNat)
  case atStart=>exact⟨0,Nat.zero_le _,rfl,by simp,rfl⟩
  case round=>
   obtain⟨j,hjn,rfl,hok,rfl⟩:=hrel
   by_cases hlt:j<ln
   ·obtain⟨kb,ko,rfl,hkb,_,hc⟩:=hl.out.2.2 (by omega)
    have hck:=hc j hlt
    have hjl:j<l.length:=by rw[hl.out.1]; exact hlt
    have hmem:Hid (l.getD j 0∈l):=hid (hl.out.getD hlt)
    have hstep:Hid ((l.getD j 0=0\/There n B (l.getD j 0))->∀ r∈l.take (j+1),r=0\/There n B r):=hid (fun hx r hr=>by
     rw[fJ hjl] at hr
     rcases List.mem_append.1 hr with hr | hr
     ·exact hok r hr
     ·simp only[List.mem_singleton] at hr
      rw[hr]; exact hx)
    clear hc hjl hok
    generalize l.getD j 0=x at *
    by_cases hx0:x=0
    ·have hx0':(x == 0)=true:=by simp[hx0]
     go_wp2_with fail
     go_roundw
     case rel=>exact⟨j+1,by omega,by go_num,hstep.out (.inl hx0),trivial⟩
     case measure=>simp[Go.RowKit.intOf]; omega
    ·have hx0':(x == 0)=false:=by simp[hx0]
     go_wp2_with fail
     refine(nM p a n c B x _ hn q0 h.out.store).mono ?_
     rintro e w2 ⟨⟨t,rfl,ht⟩,rfl⟩
     replace ht:=hid ht
     cases t
     ·go_wp2_with fail
      go_ret2
      exact⟨.inl ⟨5,rfl,by omega,fun f=>by
       rcases f.2 x hmem.out with h1 | h1
       ·exact hx0 h1
       ·simpa using ht.out.2 h1⟩,b1⟩
     ·go_wp2_with fail
      go_roundw
      case rel=>exact⟨j+1,by omega,by go_num,hstep.out (.inr (by simpa using ht.out)),trivial⟩
      case measure=>simp[Go.RowKit.intOf]; omega
   ·obtain rfl:j=ln:=by omega
    have hok':Hid (bE n B l):=hid (by
     intro r hr
     rw[<-List.take_of_length_le (l:=l) (i:=j) (by rw[hl.out.1]; exact Nat.le_refl _)] at hr
     exact hok r hr)
    clear hok
    go_wp2_with fail
    have bM:=aA wr (.map #[] 0)
    have bA:=(bM.alloc (by simp) (.cells #[.map (some wr.heap.size)] 70)).alloc (by simp; omega) (.cells #[.func (.func 108) #[] #[.pointer (some ⟨wr.heap.size+1,0,none⟩),.pointer (some ⟨wr.heap.size+1+1,0,none⟩),.pointer (some ⟨w.heap.size,0,none⟩)]] 183)
    have kM:aC _ (wr.heap.size+1) #[.map (some wr.heap.size)] 70:=(aF wr (.map #[] 0) _ _).below (aA _ (.cells #[.func (.func 108) #[] #[.pointer (some ⟨wr.heap.size+1,0,none⟩),.pointer (some ⟨wr.heap.size+1+1,0,none⟩),.pointer (some ⟨w.heap.size,0,none⟩)]] 183))
    have kL:=eY wr (.map #[] 0) (.cells #[.map (some wr.heap.size)] 70) #[.func (.func 108) #[] #[.pointer (some ⟨wr.heap.size+1,0,none⟩),.pointer (some ⟨wr.heap.size+1+1,0,none⟩),.pointer (some ⟨w.heap.size,0,none⟩)]] 183
    have hSe:=(aZ8 wr).out (w':=((wr.alloc (.map #[] 0)).alloc (.cells #[.map (some wr.heap.size)] 70)).alloc (.cells #[.func (.func 108) #[] #[.pointer (some ⟨wr.heap.size+1,0,none⟩),.pointer (some ⟨wr.heap.size+1+1,0,none⟩),.pointer (some ⟨w.heap.size,0,none⟩)]] 183)) (by rw[Below.heap_alloc _ _ _ (by simp; omega),Below.heap_alloc _ _ _ (by simp)])
    have hRE:RE wr (((wr.alloc (.map #[] 0)).alloc (.cells #[.map (some wr.heap.size)] 70)).alloc (.cells #[.func (.func 108) #[] #[.pointer (some ⟨wr.heap.size+1,0,none⟩),.pointer (some ⟨wr.heap.size+1+1,0,none⟩),.pointer (some ⟨w.heap.size,0,none⟩)]] 183)) (wr.heap.size+1) (wr.heap.size+1+1) w.heap.size:=⟨bA,kM,kL,by omega,by omega⟩
    generalize ((wr.alloc (.map #[] 0)).alloc (.cells #[.map (some wr.heap.size)] 70)).alloc (.cells #[.func (.func 108) #[] #[.pointer (some ⟨wr.heap.size+1,0,none⟩),.pointer (some ⟨wr.heap.size+1+1,0,none⟩),.pointer (some ⟨w.heap.size,0,none⟩)]] 183)=w2 at *
    refine(bY0 wr p a n c B w.heap.size (wr.heap.size+1) (wr.heap.size+1+1) h.out s0 k0.out.lt hR.out 4 l la j lc [] w2 hl.out (fun x hx=>by
     rcases hok'.out x hx with h1 | h1
     ·exact .inl h1
     ·have:=(hR.out.one _ (ix h1.1 h1.2.1).1).bounds
      exact .inr ⟨h1,by omega⟩) (by simp) hRE hSe hln).mono ?_
    rintro e w3 ⟨rfl,V,hE,hS,hG⟩
    have m0:=hE.m.cell 0
    simp at m0
    have hb3:=hE.bel
    obtain⟨D,hown,hD,hnd,hm,hat⟩:=hS
    have hperm:V.Perm (intKeys D):=CollectedI.perm (left:=fun _=>false) ⟨hnd,fun x=>by simp[hm x]⟩ hown cP1 Tryz.underlying3 (fun _=>rfl)
    have hlen:V.length<=n:=aA4 n V hnd (fun y hy=>⟨(hG.there y hy).1,(hG.there y hy).2.1⟩)
    have hsize:=aK1 hD hperm
    have hmemL:Hid (∀ x,x∈V↔Clo B l x):=hid (fun x=>⟨fun hx=>(hG.clo x hx).resolve_left (by simp),fun hx=>hx (fun y=>y∈V) hG.all (fun y hy k hk h0=>hG.shut y hy (by simp) k hk h0)⟩)
    have hthere:=hid hG.there
    replace hperm:=hid hperm
    replace hnd:=hid hnd
    replace hb3:=hid hb3
    replace hown:=hid hown
    clear hE hG hm hat hSe hRE bA bM kM kL hD
    go_wp2_with fail
    refine(keys_any (some wr.heap.size) w3).mono ?_
    rintro e w4 ⟨rfl,rfl⟩
    go_wp2_with fail
    refine(sortedKeys_any wr.heap.size V.length D _ w3 hown.out (by rw[hsize]; unfold maxLen; omega) (by rw[hsize]; omega)).mono ?_
    rintro e w5 ⟨v,ss,rfl,hss,hrow,hnil,b5⟩
    have hsort:ss.mergeSort (fun x y=>decide (x<=y))=V.mergeSort leI:=mergeSort_of_perm_i (hss.trans hperm.out.symm)
    have hslen:ss.length=(V.mergeSort leI).length:=by rw[<-hsort]; simp
    rw[hsort,hslen] at hrow
    have bT:Below w.heap.size w w5:=(Below.tr b1 hb3.out).trans ((aA w3 (.cells #[.map (some wr.heap.size)] 70)).trans (b5.mono (by omega)) |>.mono (by have:=(Below.tr b1 hb3.out).size; omega))
    have hsz:w.heap.size<=w3.heap.size:=(Below.tr b1 hb3.out).size
    replace hrow:=hid hrow
    clear hss hsort hslen hnil b5
    go_wp2_with fail
    go_ret2
    refine⟨.inr ⟨⟨hR.out,hok'.out⟩,v,V.mergeSort leI,rfl,⟨dE (by omega) hrow.out,fun x hx=>?_⟩,(wJ V hnd.out).1,fun x=>((wJ V hnd.out).2 x).trans (hmemL.out x)⟩,bT⟩
    have h1:=hthere.out x (((wJ V hnd.out).2 x).1 hx)
    exact WalkArith.wf_i64 (by have:=h1.1; have:=h1.2.1; omega)
 ·have h0':(e' == 0)=false:=by simp[h0]
  go_wp2_with fail
  go_ret2
  exact⟨.inl ⟨e', rfl,h0,fun f=>h0 (he.out.2 f.1)⟩,b1⟩
theorem zC (a:Option Addr)(n c:Nat)(B:Nat->Blk)(la:Option Addr)(ln lc:Nat)(l:List Int)(w:World)(h:aN w a n B)(hl:aI (fun _=>True) .i64 w la ln l)(hln:ln<9223372036854775807):
 Calls Tryz.prog 53 #[.agg #[.slice a n c],.slice la ln lc] w fun e w'=>cW4 w.heap.size e w' n B l/\Below w.heap.size w w':=by
 go_enter Tryz.func53,Tryz.ntmps53
 go_wp2_with fail
 refine(bO6 _ a n c B la ln lc l _ (lV a n c B w _ h) (hl.below (aA _ _)) hln).mono ?_
 rintro e w1 ⟨⟨e', rfl,he,hR⟩ | ⟨hR,v,L,rfl,hL,hr,hm⟩,b1⟩
 ·replace hR:=hid hR
  go_wp2_with fail
  go_ret2
  exact⟨.inl ⟨e', rfl,he,hR.out⟩,Below.tr (aA _ _) b1⟩
 ·replace hR:=hid hR
  replace hL:=hid hL
  replace hr:=hid hr
  replace hm:=hid hm
  go_wp2_with fail
  go_ret2
  exact⟨.inr ⟨hR.out,v,L,rfl,⟨dE (by simp) hL.out.1,hL.out.2⟩,hr.out,hm.out⟩,Below.tr (aA _ _) b1⟩
end Go.Proofs.YtjafgnohlkkopaaGreatDoor
namespace Go.Proofs.YtjafgnohlkkopaaGreatDoor
open Go.RowKit
def aN9 (p:Nat->Bool):Nat->List Int
 | 0=>[]
 | i+1=>aN9 p i++(if p i then [(i:Int)+1] else [])
theorem aL7 (p:Nat->Bool)(x:Int):∀ i,x∈aN9 p i↔∃ k,k<i/\p k=true/\x=(k:Int)+1
 | 0=>by simp[aN9]
 | i+1=>by
   unfold aN9
   rw[List.mem_append,aL7 p x i]
   constructor
   ·rintro (⟨k,hk,h⟩ | h)
    ·exact⟨k,by omega,h⟩
    ·by_cases hp:p i=true
     ·rw[if_pos hp] at h
      exact⟨i,by omega,hp,by simpa using h⟩
     ·rw[if_neg hp] at h
      cases h
   ·rintro⟨k,hk,hp,h⟩
    by_cases e:k=i
    ·subst e
     right
     rw[if_pos hp]
     simpa using h
    ·exact .inl ⟨k,by omega,hp,h⟩
end Go.Proofs.YtjafgnohlkkopaaGreatDoor
namespace Go.Proofs.YtjafgnohlkkopaaGreatDoor
def cN2 (n:Nat)(B C:Nat->Blk):Prop:=∀ i,i<n->(B i).refs=0\/(C i).refs=0\/((B i).level=(C i).level/\(B i).kids=(C i).kids/\(B i).bytes=(C i).bytes)
theorem cN2.symm {n:Nat}{B C:Nat->Blk}(h:cN2 n B C):cN2 n C B:=fun i hi=>by
 rcases h i hi with h | h | ⟨h1,h2,h3⟩
 ·exact .inr (.inl h)
 ·exact .inl h
 ·exact .inr (.inr ⟨h1.symm,h2.symm,h3.symm⟩)
theorem cL8 {b c:Blk}(h0:b.refs=c.refs)(h1:b.level=c.level)(h2:b.kids=c.kids)(h3:b.bytes=c.bytes):b=c:=by
 cases b; cases c; simp_all
theorem yA {n:Nat}{B:Nat->Blk}(hR:Right n B){i j:Nat}(hj:j<n)(hm:((i:Int)+1)∈(B j).kids):(B i).refs≠0/\(B j).level=(B i).level+1/\(B j).refs≠0:=by
 have hl:=(hR.one j hj).live hm
 rcases(hR.one j hj).kids _ hm with h | ⟨⟨_,_,h1⟩,h2⟩
 ·omega
 ·rw[show ((i:Int)+1-1).toNat=i by omega] at h1 h2
  exact⟨h1,by omega,by omega⟩
theorem aK5 {n:Nat}{B C:Nat->Blk}(hB:Right n B)(hC:Right n C)(hL:cN2 n B C)(ho:∀ i,i<n->outs n B i=outs n C i)(l:Int)
 (hb:∀ j,j<n->l+1<=(B j).level->(B j).refs≠0->B j=C j) (hc:∀ j,j<n->l+1<=(C j).level->(C j).refs≠0->B j=C j):
 ∀ i,i<n->l<=(B i).level->(B i).refs≠0->B i=C i:=by
 intro i hi hl hr
 have hcount:among n B ((i:Int)+1)=among n C ((i:Int)+1):=sumTo_congr fun j hj=>by
  by_cases h1:((i:Int)+1)∈(B j).kids
  ·obtain⟨_,h2,h3⟩:=yA hB hj h1
   show (B j).kids.count _=(C j).kids.count _
   rw[hb j hj (by omega) h3]
  ·by_cases h2:((i:Int)+1)∈(C j).kids
   ·obtain⟨h3,h4,h5⟩:=yA hC hj h2
    have h6:(B i).level=(C i).level:=by
     rcases hL i hi with h | h | ⟨h,_⟩
     ·exact absurd h hr
     ·exact absurd h h3
     ·exact h
    show (B j).kids.count _=(C j).kids.count _
    rw[hc j hj (by omega) h5]
   ·show (B j).kids.count _=(C j).kids.count _
    rw[List.count_eq_zero.2 h1,List.count_eq_zero.2 h2]
 have h1:=ho i hi
 unfold outs at h1
 rw[hcount] at h1
 have h2:(B i).refs=(C i).refs:=by omega
 rcases hL i hi with h | h | ⟨h3,h4,h5⟩
 ·exact absurd h hr
 ·omega
 ·exact cL8 h2 h3 h4 h5
theorem aT1 {n:Nat}{B C:Nat->Blk}(hB:Right n B)(hC:Right n C)(hL:cN2 n B C)(ho:∀ i,i<n->outs n B i=outs n C i):∀ i,i<n->B i=C i:=by
 have step:∀ d:Nat,d<=4->(∀ i,i<n->(4:Int)-d<=(B i).level->(B i).refs≠0->B i=C i)/\(∀ i,i<n->(4:Int)-d<=(C i).level->(C i).refs≠0->B i=C i):=by
  intro d
  induction d with
  | zero=>
    intro _
    exact⟨fun i hi hl _=>by have:=(hB.one i hi).bounds; omega,fun i hi hl _=>by have:=(hC.one i hi).bounds; omega⟩
  | succ d ih=>
    intro hd
    obtain⟨h1,h2⟩:=ih (by omega)
    have h1':∀ j,j<n->((4:Int)-(d+1:Nat))+1<=(B j).level->(B j).refs≠0->B j=C j:=fun j hj hl=>h1 j hj (by omega)
    have h2':∀ j,j<n->((4:Int)-(d+1:Nat))+1<=(C j).level->(C j).refs≠0->B j=C j:=fun j hj hl=>h2 j hj (by omega)
    exact⟨aK5 hB hC hL ho _ h1' h2', fun i hi hl hr=>(aK5 hC hB hL.symm (fun i hi=>(ho i hi).symm) _ (fun j hj a b=>(h2' j hj a b).symm) (fun j hj a b=>(h1' j hj a b).symm) i hi hl hr).symm⟩
 obtain⟨h1,h2⟩:=step 4 (Nat.le_refl _)
 intro i hi
 by_cases hb:(B i).refs=0
 ·by_cases hc:(C i).refs=0
  ·rw[(hB.one i hi).zero hb,(hC.one i hi).zero hc]
  ·have:=(hC.one i hi).bounds
   exact h2 i hi (by omega) hc
 ·have:=(hB.one i hi).bounds
  exact h1 i hi (by omega) hb
theorem bU9 {n:Nat}{B C:Nat->Blk}{T:List Int}(h:iU n B C T):cN2 n C B:=fun i hi=>by
 rcases h.same i hi with h | ⟨_,_,h1,h2,h3⟩
 ·exact .inl (by rw[h]; rfl)
 ·exact .inr (.inr ⟨h1,h2,h3⟩)
theorem jE {n:Nat}{B:Nat->Blk}(hR:Right n B){i:Nat}(hi:i<n)(h0:(B i).refs=0):outs n B i=0:=by
 have:=hR.held i hi
 simp at this
 unfold outs
 omega
theorem zR {f g:Nat->Nat}{i:Nat}:∀ {n:Nat},i<n->(∀ j,j<n->j≠i->f j=g j)->sumTo f n+g i=sumTo g n+f i
 | n+1,hi,h=>by
   simp only[sumTo]
   by_cases e:i=n
   ·subst e
    rw[sumTo_congr (f:=f) (g:=g) (fun j hj=>h j (by omega) (by omega))]; omega
   ·have:=zR (f:=f) (g:=g) (n:=n) (i:=i) (by omega) (fun j hj=>h j (by omega))
    rw[h n (by omega) (by omega)]; omega
theorem aI7 {n:Nat}{B:Nat->Blk}{K:Blk}{i:Nat}(hR:Right n B)(hF:Form n B { K with refs:=1 })(hi:i<n)(h0:(B i).refs=0):cO (made B K i) n=cO B n+1:=by
 have:=zR (f:=fun k=>if 0<(made B K i k).refs then 1 else 0) (g:=fun k=>if 0<(B k).refs then 1 else 0) (i:=i) hi (fun j hj hne=>by
  rw[dA _ _ hne]
  show (if 0<(B j).refs+(K.kids.count ((j:Int)+1):Int) then 1 else 0)=_
  have hb:=(hR.one j hj).bounds
  by_cases e:(B j).refs=0
  ·rw[rT hF e,e]; simp
  ·rw[if_pos (by omega),if_pos (by omega)])
 have e1:(made B K i i).refs=1:=by rw[bJ]
 simp only[e1,h0] at this
 unfold cO
 simpa using this
theorem gQ {B:Nat->Blk}{i:Nat}:lN B ((i:Int)+1) i={ B i with refs:=(B i).refs+1 }:=by
 unfold lN
 rw[show ((i:Int)+1-1).toNat=i by omega,upd_same]
theorem eO {B:Nat->Blk}{i k:Nat}(h:k≠i):lN B ((i:Int)+1) k=B k:=by
 unfold lN
 rw[show ((i:Int)+1-1).toNat=i by omega,bI _ _ _ _ h]
theorem aC7 {n:Nat}{B:Nat->Blk}{i:Nat}(x:Int):among n (lN B ((i:Int)+1)) x=among n B x:=gY x fun k _=>by
 by_cases e:k=i
 ·subst e; rw[gQ]
 ·rw[eO e]
theorem bP9 {n:Nat}{B:Nat->Blk}{i:Nat}(k:Nat):outs n (lN B ((i:Int)+1)) k=if k=i then outs n B k+1 else outs n B k:=by
 unfold outs
 rw[aC7]
 by_cases e:k=i
 ·subst e; rw[gQ,if_pos rfl]; show (B k).refs+1-_=_; omega
 ·rw[eO e,if_neg e]
theorem eB {n:Nat}{B C:Nat->Blk}{T:List Int}(hD:iU n B C T){x:Int}(hx:There n C x):(C (x-1).toNat).level=(B (x-1).toNat).level/\(C (x-1).toNat).kids=(B (x-1).toNat).kids/\(C (x-1).toNat).bytes=(B (x-1).toNat).bytes:=by
 rcases hD.same _ (ix hx.1 hx.2.1).1 with h | ⟨_,_,h⟩
 ·exact absurd (by rw[h]; rfl) hx.2.2
 ·exact h
theorem tQ {n:Nat}{B C:Nat->Blk}{T:List Int}{l:List Int}(hC:Right n C)(hD:iU n B C T)(hl:bE n C l)(x:Int):(Clo B l x↔Clo C l x):=by
 constructor
 ·intro h
  refine(h (fun y=>There n C y/\Clo C l y) (fun r hr h0=>⟨(hl r hr).resolve_left h0,Clo.root hr h0⟩) ?_).2
  rintro y ⟨hy,hc⟩ k hk h0
  rw[<-(eB hD hy).2.1] at hk
  refine⟨?_,hc.kid hk h0⟩
  rcases(hC.one _ (ix hy.1 hy.2.1).1).kids k hk with h | ⟨h,_⟩
  ·exact absurd h h0
  ·exact h
 ·intro h
  refine(h (fun y=>There n C y/\Clo B l y) (fun r hr h0=>⟨(hl r hr).resolve_left h0,Clo.root hr h0⟩) ?_).2
  rintro y ⟨hy,hc⟩ k hk h0
  refine⟨?_,hc.kid (by rw[<-(eB hD hy).2.1]; exact hk) h0⟩
  rcases(hC.one _ (ix hy.1 hy.2.1).1).kids k hk with h | ⟨h,_⟩
  ·exact absurd h h0
  ·exact h
theorem wU:∀ {L M:List Int},jH L->jH M->(∀ x,x∈L↔x∈M)->L=M
 | [],[],_,_,_=>rfl
 | [],y::M,_,_,h=>absurd ((h y).2 (by simp)) (by simp)
 | x::L,[],_,_,h=>absurd ((h x).1 (by simp)) (by simp)
 | x::L,y::M,hL,hM,h=>by
   unfold jH at hL hM
   rw[List.pairwise_cons] at hL hM
   have e:x=y:=by
    have h1:=(h x).1 (by simp)
    have h2:=(h y).2 (by simp)
    rcases List.mem_cons.1 h1 with h1 | h1
    ·exact h1
    ·rcases List.mem_cons.1 h2 with h2 | h2
     ·exact h2.symm
     ·have:=hM.1 x h1
      have:=hL.1 y h2
      omega
   subst e
   rw[wU (L:=L) (M:=M) hL.2 hM.2 (fun z=>?_)]
   constructor
   ·intro hz
    rcases List.mem_cons.1 ((h z).1 (List.mem_cons_of_mem _ hz)) with h1 | h1
    ·have:=hL.1 z hz; omega
    ·exact h1
   ·intro hz
    rcases List.mem_cons.1 ((h z).2 (List.mem_cons_of_mem _ hz)) with h1 | h1
    ·have:=hM.1 z hz; omega
    ·exact h1
end Go.Proofs.YtjafgnohlkkopaaGreatDoor
namespace Go.Proofs.YtjafgnohlkkopaaGreatDoor
def pw:Nat->Nat
 | 0=>1
 | l+1=>4*pw l
theorem lH:∀ l,0<pw l
 | 0=>by simp[pw]
 | l+1=>by have:=lH l; simp only[pw]; omega
def kidsL (B:Nat->Blk)(a:Int):List Int:=if a=0 then [0,0,0,0] else (B (a-1).toNat).kids
def bytesL (B:Nat->Blk)(a:Int):List Int:=if a=0 then [] else (B (a-1).toNat).bytes
def aH (B:Nat->Blk):Nat->Int->Nat->List Int
 | 0,a,_=>bytesL B a
 | l+1,a,i=>aH B l ((kidsL B a).getD (i / pw l) 0) (i%pw l)
def Root (n:Nat)(B:Nat->Blk)(l:Nat)(a:Int):Prop:=a=0\/(There n B a/\(B (a-1).toNat).level=l)
theorem jV (B:Nat->Blk):kidsL B 0=[0,0,0,0]:=by simp[kidsL]
theorem Root.len {n:Nat}{B:Nat->Blk}{l:Nat}{a:Int}(hR:Right n B)(h:Root n B (l+1) a):(kidsL B a).length=4:=by
 rcases h with rfl | ⟨⟨h1,h2,h3⟩,h4⟩
 ·simp[kidsL]
 ·unfold kidsL
  rw[if_neg (by omega)]
  rcases hR.one _ (ix h1 h2).1 with⟨h,_⟩ | ⟨_,⟨h,_⟩ | ⟨_,h,_⟩⟩
  ·exact absurd h h3
  ·omega
  ·exact h
theorem Root.kid {n:Nat}{B:Nat->Blk}{l:Nat}{a:Int}(hR:Right n B)(h:Root n B (l+1) a){x:Int}(hx:x∈kidsL B a):Root n B l x:=by
 rcases h with rfl | ⟨⟨h1,h2,h3⟩,h4⟩
 ·simp[kidsL] at hx; exact .inl hx
 ·unfold kidsL at hx
  rw[if_neg (by omega)] at hx
  rcases(hR.one _ (ix h1 h2).1).kids x hx with h | ⟨ht,hl⟩
  ·exact .inl h
  ·exact .inr ⟨ht,by rw[hl,h4]; omega⟩
theorem aG8 {l:List Int}{j:Nat}(h:j<l.length):l.getD j 0∈l:=by
 have e:l.getD j 0=l[j]:=by simp[List.getD,h]
 rw[e]
 exact List.getElem_mem h
theorem Root.kidAt {n:Nat}{B:Nat->Blk}{l:Nat}{a:Int}(hR:Right n B)(h:Root n B (l+1) a){j:Nat}(hj:j<4):Root n B l ((kidsL B a).getD j 0):=
 h.kid hR (aG8 (by rw[h.len hR]; exact hj))
theorem Root.leaf {n:Nat}{B:Nat->Blk}{a:Int}(hR:Right n B)(h:Root n B 0 a):(bytesL B a).length=if a=0 then 0 else 4:=by
 rcases h with rfl | ⟨⟨h1,h2,h3⟩,h4⟩
 ·simp[bytesL]
 ·unfold bytesL
  rw[if_neg (by omega),if_neg (by omega)]
  rcases hR.one _ (ix h1 h2).1 with⟨h,_⟩ | ⟨_,⟨_,_,h⟩ | ⟨h,_⟩⟩
  ·exact absurd h h3
  ·exact h
  ·omega
theorem Root.level {n:Nat}{B:Nat->Blk}{l:Nat}{a:Int}(hR:Right n B)(h:Root n B l a)(h0:a≠0):l<=3:=by
 rcases h with h | ⟨⟨h1,h2,h3⟩,h4⟩
 ·exact absurd h h0
 ·have:=(hR.one _ (ix h1 h2).1).bounds; omega
structure Ext (n:Nat)(B C:Nat->Blk):Prop where
 keep:∀ i,i<n->(B i).refs≠0->(C i).refs≠0/\(C i).level=(B i).level/\(C i).kids=(B i).kids/\(C i).bytes=(B i).bytes
theorem Ext.refl (n:Nat)(B:Nat->Blk):Ext n B B:=⟨fun i _ h=>⟨h,rfl,rfl,rfl⟩⟩
theorem Ext.trans {n:Nat}{B C D:Nat->Blk}(h:Ext n B C)(k:Ext n C D):Ext n B D:=⟨fun i hi h0=>by
 obtain⟨a1,a2,a3,a4⟩:=h.keep i hi h0
 obtain⟨b1,b2,b3,b4⟩:=k.keep i hi a1
 exact⟨b1,by rw[b2,a2],by rw[b3,a3],by rw[b4,a4]⟩⟩
theorem Ext.there {n:Nat}{B C:Nat->Blk}(h:Ext n B C){x:Int}(hx:There n B x):There n C x/\(C (x-1).toNat).level=(B (x-1).toNat).level/\kidsL C x=kidsL B x/\bytesL C x=bytesL B x:=by
 obtain⟨h1,h2,h3⟩:=hx
 obtain⟨a1,a2,a3,a4⟩:=h.keep _ (ix h1 h2).1 h3
 refine⟨⟨h1,h2,a1⟩,a2,?_,?_⟩
 ·unfold kidsL; rw[if_neg (by omega),if_neg (by omega),a3]
 ·unfold bytesL; rw[if_neg (by omega),if_neg (by omega),a4]
theorem Ext.root {n:Nat}{B C:Nat->Blk}(h:Ext n B C){l:Nat}{a:Int}(ha:Root n B l a):Root n C l a/\kidsL C a=kidsL B a/\bytesL C a=bytesL B a:=by
 rcases ha with rfl | ⟨ht,hl⟩
 ·exact⟨.inl rfl,by simp[kidsL],by simp[bytesL]⟩
 ·obtain⟨a1,a2,a3,a4⟩:=h.there ht
  exact⟨.inr ⟨a1,by rw[a2,hl]⟩,a3,a4⟩
theorem Ext.leaf {n:Nat}{B C:Nat->Blk}(h:Ext n B C)(hR:Right n B):∀ (l:Nat) (a:Int),Root n B l a->∀ i,i<pw l->aH C l a i=aH B l a i
 | 0,a,ha,i,_=>(h.root ha).2.2
 | l+1,a,ha,i,hi=>by
   have hp:=lH l
   have hd:i / pw l<4:=by simp only[pw] at hi; exact Nat.div_lt_of_lt_mul (by rw[Nat.mul_comm]; exact hi)
   simp only[aH]
   rw[(h.root ha).2.1]
   exact Ext.leaf h hR l _ (ha.kidAt hR hd) _ (Nat.mod_lt _ hp)
theorem iZ (B:Nat->Blk):∀ (l i:Nat),i<pw l->aH B l 0 i=[]
 | 0,i,_=>by simp[aH,bytesL]
 | l+1,i,hi=>by
   have hp:=lH l
   have hd:i / pw l<4:=by simp only[pw] at hi; exact Nat.div_lt_of_lt_mul (by rw[Nat.mul_comm]; exact hi)
   simp only[aH,jV]
   have e:([0,0,0,0]:List Int).getD (i / pw l) 0=0:=by
    generalize i / pw l=d at *
    match d,hd with
    | 0,_=>rfl
    | 1,_=>rfl
    | 2,_=>rfl
    | 3,_=>rfl
   rw[e]
   exact iZ B l _ (Nat.mod_lt _ hp)
def dZ (B:Nat->Blk)(a:Int):Nat->Blk:=if a=0 then B else upd B (a-1).toNat { B (a-1).toNat with refs:=(B (a-1).toNat).refs-1 }
def cI6 (n:Nat)(B:Nat->Blk)(j:Nat):Prop:=j<n/\(B j).refs=0/\∀ k,k<j->(B k).refs≠0
def xX (b:List Int):Blk:=⟨0,0,[],b⟩
def gI (l:Nat)(ks:List Int):Blk:=⟨0,l,ks,[]⟩
def aY5 (n:Nat)(B:Nat->Blk)(l:Nat)(ks:List Int)(new:Int)(C:Nat->Blk)(a:Int):Prop:=
 (ks=[0,0,0,0]/\C=B/\a=0)\/(ks≠[0,0,0,0]/\∃ j:Nat,cI6 n B j/\vX n B (gI l ks)/\a=(j:Int)+1/\C=dZ (made B (gI l ks) j) new)
def aD2 (n:Nat)(B:Nat->Blk)(b:List Int)(C:Nat->Blk)(a:Int):Prop:=
 (b=[]/\C=B/\a=0)\/(b≠[]/\∃ j:Nat,cI6 n B j/\vX n B (xX b)/\a=(j:Int)+1/\C=made B (xX b) j)
def cS3 (n:Nat)(b:List Int):Nat->(Nat->Blk)->Int->Nat->(Nat->Blk)->Int->Prop
 | 0,B,_,_,C,a=>aD2 n B b C a
 | l+1,B,root,i,C,a=>∃ D k,cS3 n b l B ((kidsL B root).getD (i / pw l) 0) (i%pw l) D k/\aY5 n D (l+1) ((kidsL B root).set (i / pw l) k) k C a
theorem wB {B C:Nat->Blk}:∀ {n:Nat},(∀ k,k<n->(C k).refs<=(B k).refs)->cO C n<=cO B n
 | 0,_=>Nat.le_refl _
 | n+1,h=>by
   have h1:=wB (B:=B) (C:=C) (n:=n) (fun k hk=>h k (by omega))
   have h2:=h n (by omega)
   rw[dW,dW]
   by_cases e:0<(C n).refs
   ·rw[if_pos e,if_pos (by omega)]; omega
   ·rw[if_neg e]; omega
theorem aI8 {n:Nat}{B:Nat->Blk}(hR:Right n B)(h:¬∃ i,i<n/\(B i).refs=0):cO B n=n:=by
 have key:∀ m,m<=n->cO B m=m:=by
  intro m
  induction m with
  | zero=>intro _; rfl
  | succ m ih=>
    intro hm
    have hb:=(hR.one m (by omega)).bounds
    have h0:(B m).refs≠0:=fun e=>h ⟨m,by omega,e⟩
    rw[dW,ih (by omega),if_pos (by omega)]
 exact key n (Nat.le_refl _)
structure cG4 (n:Nat)(B C:Nat->Blk)(l:Nat)(a:Int)(c:Int):Prop where
 right:Right n C
 ext:Ext n B C
 root:Root n C l a
 out:∀ k,k<n->outs n C k=outs n B k+if (k:Int)+1=a then 1 else 0
 fresh:a≠0->(B (a-1).toNat).refs=0
 one:a≠0->(C (a-1).toNat).refs=1
 few:∀ k,k<n->(C k).refs<=c
 used:cO C n<=cO B n+(l+1)
theorem bB6 {n:Nat}{B:Nat->Blk}{K:Blk}{i:Nat}(hR:Right n B)(h0:(B i).refs=0):Ext n B (made B K i):=⟨fun k hk hk0=>by
 have e:k≠i:=fun e=>hk0 (by rw[e]; exact h0)
 have hb:=(hR.one k hk).bounds
 rw[dA _ _ e]
 exact⟨by show (B k).refs+_≠0; omega,rfl,rfl,rfl⟩⟩
theorem bR9 {n:Nat}{B:Nat->Blk}{K:Blk}{i:Nat}{c:Int}(h1:1<=c)(hc:∀ k,k<n->(B k).refs<=c)(hF:Form n B { K with refs:=1 }):∀ k,k<n->(made B K i k).refs<=c+4:=by
 intro k hk
 have:=hc k hk
 by_cases e:k=i
 ·subst e; rw[bJ]; show (1:Int)<=c+4; omega
 ·rw[dA _ _ e]
  have h2:K.kids.count ((k:Int)+1)<=K.kids.length:=List.count_le_length
  have h3:K.kids.length<=4:=hF.few
  show (B k).refs+_<=_
  omega
theorem bI6 {n:Nat}{B:Nat->Blk}(hR:Right n B){j:Nat}(hj:j<n)(h1:1<(B j).refs)(h2:0<outs n B j):
 Right n (dZ B ((j:Int)+1))/\(∀ k,k<n->outs n (dZ B ((j:Int)+1)) k=outs n B k-if k=j then 1 else 0)/\Ext n B (dZ B ((j:Int)+1))/\(∀ k,k≠j->dZ B ((j:Int)+1) k=B k)/\(∀ k,(dZ B ((j:Int)+1) k).refs<=(B k).refs):=by
 have e0:((j:Int)+1-1).toNat=j:=by omega
 have e1:dZ B ((j:Int)+1)=upd B j { B j with refs:=(B j).refs-1 }:=by
  unfold dZ; rw[if_neg (by omega),e0]
 rw[e1]
 have hT:fG n B [(j:Int)+1]:=aA2 hR (by omega) (by omega) (by rw[e0]; unfold outs at h2; omega)
 have hr:=aJ8 hT (by omega) (by omega) (by rw[e0]; exact h1)
 rw[e0] at hr
 have ham:∀ x,among n (upd B j { B j with refs:=(B j).refs-1 }) x=among n B x:=fun x=>gY x fun i hi=>by
  by_cases e:i=j
  ·subst e; rw[upd_same]
  ·rw[bI _ _ _ _ e]
 refine⟨hr,fun k hk=>?_,⟨fun k hk h0=>?_⟩,fun k hk=>bI _ _ _ _ hk,fun k=>?_⟩
 ·unfold outs
  rw[ham]
  by_cases e:k=j
  ·subst e; rw[upd_same,if_pos rfl]; show (B k).refs-1-_=_; omega
  ·rw[bI _ _ _ _ e,if_neg e]; omega
 ·by_cases e:k=j
  ·subst e; rw[upd_same]; exact⟨by show (B k).refs-1≠0; omega,rfl,rfl,rfl⟩
  ·rw[bI _ _ _ _ e]; exact⟨h0,rfl,rfl,rfl⟩
 ·by_cases e:k=j
  ·subst e; rw[upd_same]; show (B k).refs-1<=_; omega
  ·rw[bI _ _ _ _ e]; omega
theorem xV {n:Nat}{B C:Nat->Blk}{b:List Int}{a c:Int}(hR:Right n B)(h1:1<=c)(hcm:c+4<=1000000)(hc:∀ k,k<n->(B k).refs<=c)(h:aD2 n B b C a):cG4 n B C 0 a (c+4)/\bytesL C a=b:=by
 rcases h with⟨rfl,rfl,rfl⟩ | ⟨hb,j,⟨hj,h0,hmin⟩,⟨_,hF,_⟩,rfl,rfl⟩
 ·exact⟨⟨hR,Ext.refl _ _,.inl rfl,fun k hk=>by rw[if_neg (by omega)]; omega,fun h=>absurd rfl h,fun h=>absurd rfl h,fun k hk=>by have:=hc k hk; omega,by omega⟩,by simp[bytesL]⟩
 ·have e0:((j:Int)+1-1).toNat=j:=by omega
  have hle:=bR9 (i:=j) h1 hc hF
  refine⟨⟨aA1 hR hF hj h0 (fun k hk=>by have:=hle k hk; omega),bB6 hR h0,.inr ⟨⟨by omega,by omega,?_⟩,?_⟩,fun k hk=>?_,fun _=>by rw[e0]; exact h0,fun _=>by rw[e0,bJ],hle,by rw[aI7 hR hF hj h0]; omega⟩,?_⟩
  ·rw[e0,bJ]; show (1:Int)≠0; omega
  ·rw[e0,bJ]; rfl
  ·rw[xG hR hF hj h0 k hk]
   by_cases e:k=j
   ·subst e; rw[if_pos rfl,if_pos rfl,jE hR hk h0]; rfl
   ·rw[if_neg e,if_neg (by omega)]; omega
  ·unfold bytesL; rw[if_neg (by omega),e0,bJ]; rfl
theorem aC9 {n:Nat}{B D C:Nat->Blk}{l:Nat}{ks:List Int}{new a c:Int}(hB:Right n B)(hg:cG4 n B D l new c)(h1:1<=c)(hcm:c+4<=1000000)(hin:new≠0->new∈ks)(h:aY5 n D (l+1) ks new C a):cG4 n B C (l+1) a (c+4)/\kidsL C a=ks/\Ext n D C:=by
 have hR:=hg.right
 rcases h with⟨rfl,rfl,rfl⟩ | ⟨hne,j,⟨hj,h0,hmin⟩,⟨_,hF,_⟩,rfl,rfl⟩
 ·have hn0:new=0:=by
   by_cases e:new=0
   ·exact e
   ·have:=hin e
    simp at this; exact this
  subst hn0
  exact⟨⟨hg.right,hg.ext,.inl rfl,hg.out,fun h=>absurd rfl h,fun h=>absurd rfl h,fun k hk=>by have:=hg.few k hk; omega,by have:=hg.used; omega⟩,by simp[kidsL],Ext.refl _ _⟩
 ·have e0:((j:Int)+1-1).toNat=j:=by omega
  have hle:=bR9 (i:=j) h1 hg.few hF
  have hM:=aA1 hR hF hj h0 (fun k hk=>by have:=hle k hk; omega)
  have hE:=bB6 (K:=gI (l+1) ks) hR h0
  have hom:=xG hR hF hj h0
  have hBj:(B j).refs=0:=by
   by_cases e:(B j).refs=0
   ·exact e
   ·exact absurd h0 (hg.ext.keep j hj e).1
  have hs:made D (gI (l+1) ks) j j={ gI (l+1) ks with refs:=1 }:=bJ _ _ _
  have hum:=aI7 hR hF hj h0
  by_cases hn0:new=0
  ·subst hn0
   have e1:dZ (made D (gI (l+1) ks) j) 0=made D (gI (l+1) ks) j:=by simp[dZ]
   rw[e1]
   refine⟨⟨hM,hg.ext.trans hE,.inr ⟨⟨by omega,by omega,?_⟩,?_⟩,fun k hk=>?_,fun _=>by rw[e0]; exact hBj,fun _=>by rw[e0,hs],hle,by have:=hg.used; omega⟩,?_,hE⟩
   ·rw[e0,hs]; show (1:Int)≠0; omega
   ·rw[e0,hs]; rfl
   ·rw[hom k hk]
    have:=hg.out k hk
    rw[if_neg (by omega)] at this
    by_cases e:k=j
    ·subst e; rw[if_pos rfl,if_pos rfl]; have:=jE hR hk h0; omega
    ·rw[if_neg e,if_neg (by omega)]; exact this
   ·unfold kidsL; rw[if_neg (by omega),e0,hs]; rfl
  ·rcases hg.root with h | ⟨⟨n1,n2,n3⟩,_⟩
   ·exact absurd h hn0
   obtain⟨m,rfl⟩:∃ m:Nat,new=(m:Int)+1:=⟨(new-1).toNat,by omega⟩
   have em:((m:Int)+1-1).toNat=m:=by omega
   have hm:m<n:=by omega
   have hm1:=hg.one hn0
   rw[em] at hm1
   have hmj:m≠j:=fun e=>by rw[e,h0] at hm1; omega
   have hcnt:0<(gI (l+1) ks).kids.count ((m:Int)+1):=List.count_pos_iff.2 (hin hn0)
   have hmr:1<(made D (gI (l+1) ks) j m).refs:=by
    rw[dA _ _ hmj]; show 1<(D m).refs+_; omega
   have hmo:outs n (made D (gI (l+1) ks) j) m=outs n B m+1:=by
    rw[hom m hm,if_neg hmj,hg.out m hm,if_pos rfl]
   have hBm:=hg.fresh hn0
   rw[em] at hBm
   have hB0:=jE hB hm hBm
   obtain⟨q1,q2,q3,q4,q5⟩:=bI6 hM hm hmr (by omega)
   have hjs:dZ (made D (gI (l+1) ks) j) ((m:Int)+1) j={ gI (l+1) ks with refs:=1 }:=by rw[q4 j (Ne.symm hmj),hs]
   refine⟨⟨q1,(hg.ext.trans hE).trans q3,.inr ⟨⟨by omega,by omega,?_⟩,?_⟩,fun k hk=>?_,fun _=>by rw[e0]; exact hBj,fun _=>by rw[e0,hjs],fun k hk=>Int.le_trans (q5 k) (hle k hk),by have:=hg.used; have:=wB (n:=n) (fun k _=>q5 k); omega⟩,?_,hE.trans q3⟩
   ·rw[e0,hjs]; show (1:Int)≠0; omega
   ·rw[e0,hjs]; rfl
   ·rw[q2 k hk,hom k hk]
    have h3:=hg.out k hk
    by_cases e:k=j
    ·subst e
     rw[if_pos rfl,if_neg (Ne.symm hmj),if_pos rfl]
     rw[if_neg (by omega)] at h3
     have:=jE hR hk h0; omega
    ·by_cases e':k=m
     ·subst e'
      rw[if_neg e,if_pos rfl,if_neg (by omega)]
      rw[if_pos rfl] at h3
      omega
     ·rw[if_neg e,if_neg e', if_neg (by omega)]
      rw[if_neg (by omega)] at h3
      omega
   ·unfold kidsL; rw[if_neg (by omega),e0,hjs]; rfl
end Go.Proofs.YtjafgnohlkkopaaGreatDoor
