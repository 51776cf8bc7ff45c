import Derived.Test.YtjafgnohlkkopaaGreatDoorPart32
import Derived.Test.YtjafgnohlkkopaaGreatDoorPart09
import Derived.Test.YtjafgnohlkkopaaGreatDoorPart17
import Derived.Deep.RegionHeld3
import Derived.Laws.Concat
import Derived.Test.YtjafgnohlkkopaaGreatDoorPart30
import Derived.Test.YtjafgnohlkkopaaGreatDoorPart27
set_option linter.unusedVariables false
set_option maxHeartbeats 8000000
set_option maxRecDepth 100000
namespace Go.Proofs.YtjafgnohlkkopaaGreatDoor
open Go.RowKit
theorem iI {w w':World}(h:Lib.TabIs Tryz.prog w tabN .u64 Lib.pow10Tab)(b:Below w.heap.size w w'):Lib.TabIs Tryz.prog w' tabN .u64 Lib.pow10Tab:=by
 have hs:(Tryz.prog.globalNamed tabN).isSome=true:=by kernel_rfl
 obtain⟨g,hg⟩:=Option.isSome_iff_exists.1 hs
 exact Joins.tab_stays (P:=Tryz.prog) hg h b (Nat.le_refl _)
def aG0 (n:Int):ByteArray:=⟨(Lib.itoa n).toArray⟩
theorem aF9 (n:Int)(h0:0<=n)(h1:n<=1000000)(w:World)(htab:Lib.TabIs Tryz.prog w tabN .u64 Lib.pow10Tab):
 Calls Tryz.prog 47 #[.int .i64 n] w fun e w'=>e=.returned (.string (aG0 n))/\Below w.heap.size w w':=by
 refine(Tryz.strconv_Itoa n (by omega) (by omega) w htab).mono ?_
 rintro e w' ⟨rfl,k,os,rfl⟩
 exact⟨rfl,rfl,rfl,rfl,by simp[Sort.grow],fun i hi=>by
  show (w.heap++os)[i]? =_
  exact Array.getElem?_append_left hi⟩
theorem bS6 (B b:Nat)(l:List UInt8)(s1 s2 s3:ByteArray)(w:World)(hb:Bld B b l w)(hBw:B<=w.heap.size)(hlen:l.length+(gP [s1,s2,s3]).length<=1000000000):
 Calls Tryz.prog 41 #[.slice (some ⟨w.heap.size,0,none⟩) 3 3,.pointer (some ⟨b,0,none⟩)] (w.alloc (.cells #[.string s1,.string s2,.string s3] 9)) fun e w'=>e=.returned (.tuple #[])/\Bld B b (l++gP [s1,s2,s3]) w'/\Below B w w'/\Lib.OthersKept 5 (some b) w w':=by
 have bz:=aA w (.cells #[.string s1,.string s2,.string s3] 9)
 refine(aF7 B b l w.heap.size 0 3 [s1,s2,s3] _ (hb.below bz) (Nat.le_trans hBw bz.size) (fun j x hj=>?_) (by simp) (by simp) (by simp) hlen).mono ?_
 ·have:=(aB w #[.string s1,.string s2,.string s3] 9).cell j
  rw[Nat.zero_add,this]
  match j,hj with
  | 0,hj=>simp at hj; subst hj; rfl
  | 1,hj=>simp at hj; subst hj; rfl
  | 2,hj=>simp at hj; subst hj; rfl
  | j+3,hj=>simp at hj
 ·rintro e w' ⟨rfl,h1,h2,h3⟩
  exact⟨rfl,h1,(bz.mono hBw).trans h2,(fU bz).trans h3⟩
def aW0 (ahead:ByteArray)(key:Int)(B:Nat->Blk)(f:Ent):List UInt8:=gP [ahead++f.name,aG0 f.size,⟨(aI5 (nS (aR key (aH B 3 f.root)) f.size.toNat 0 f.size.toNat)).toArray⟩]
def iE (ahead:ByteArray)(key:Int)(B:Nat->Blk)(l:List Ent):List UInt8:=l.flatMap (aW0 ahead key B)
theorem aC6 (x:ByteArray):x.data.toList.length=x.size:=by rw[Array.length_toList]; rfl
theorem bI5 (a b c:ByteArray):(gP [a,b,c]).length=a.size+b.size+c.size+3:=by
 unfold gP
 rw[List.length_append,List.map_cons,List.map_cons,List.map_cons,List.map_nil,Lib.join_cons]
 simp only[Lib.joinTail,List.map_cons,List.map_nil,List.flatten_cons,List.flatten_nil,List.length_append,List.length_cons,List.length_nil,aC6]
 omega
theorem aF8 (n:Int)(h0:0<=n)(h1:n<=1000000):(aG0 n).size<=20:=by
 obtain⟨u,rfl⟩:∃ u:Nat,n=(u:Int):=⟨n.toNat,by omega⟩
 rw[<-aC6]
 show (Lib.itoa (u:Int)).toArray.toList.length<=20
 rw[List.toList_toArray,Lib.itoa_nonneg]
 by_cases hu:u=0
 ·subst hu
  rw[Lib.decDigits_one (by omega)]
  decide
 ·rw[Lib.decDigits_length]
  have:=Lib.numDigits_eq u (by omega) (by omega)
  split at this<;>omega
theorem aO8 {n:Nat}{B:Nat->Blk}{key:Int}{ahead:ByteArray}{f:Ent}(ha:ahead.size<=8)(hn:f.name.size<=8)(hf:bQ n B key f.root f.size):(aW0 ahead key B f).length<=1000:=by
 have hs:=hf.sb
 unfold aW0
 rw[bI5]
 have h1:=aF8 f.size hs.1 (by omega)
 have h2:(ahead++f.name).size=ahead.size+f.name.size:=ByteArray.size_append
 have h3:(ByteArray.mk (aI5 (nS (aR key (aH B 3 f.root)) f.size.toNat 0 f.size.toNat)).toArray).size<=512:=by
  rw[<-aC6]
  show (aI5 _).toArray.toList.length<=512
  rw[List.toList_toArray,yC,lG _ _ _ _ (cK _ _) (by omega)]
  omega
 omega
theorem mE {n:Nat}{B:Nat->Blk}{key:Int}{ahead:ByteArray}(ha:ahead.size<=8):∀ l:List Ent,(∀ f∈l,bQ n B key f.root f.size/\f.name.size<=8)->(iE ahead key B l).length<=l.length*1000
 | [],_=>by simp[iE]
 | f::l,h=>by
   have h1:=mE ha l (fun g hg=>h g (List.mem_cons_of_mem _ hg))
   have h2:=aO8 ha (h f List.mem_cons_self).2 (h f List.mem_cons_self).1
   unfold iE at h1 ⊢
   rw[List.flatMap_cons,List.length_append,List.length_cons]
   omega
structure VE (W w:World)(tb lb:Nat)(L:List UInt8):Prop where
 bel:Below W.heap.size W w
 bld:Bld W.heap.size tb L w
 fn:aC w lb #[.func (.func 41) #[] #[.pointer (some ⟨tb,0,none⟩)]] 102
 ne:lb≠tb
theorem Bld.lt {B b:Nat}{l:List UInt8}{w:World}(h:Bld B b l w):b<w.heap.size:=by
 rcases h with⟨_,v,h,_⟩ | ⟨_,v,h,_⟩<;>exact aG5 h
theorem VE.below {W w w':World}{tb lb:Nat}{L:List UInt8}(h:VE W w tb lb L)(b:Below w.heap.size w w'):VE W w' tb lb L:=⟨h.bel.trans (b.mono h.bel.size),h.bld.below b,h.fn.below b,h.ne⟩
theorem VE.wrote {W w w':World}{tb lb:Nat}{L L':List UInt8}(h:VE W w tb lb L)(hb:Bld W.heap.size tb L' w')(b:Below W.heap.size w w')(o:Lib.OthersKept 5 (some tb) w w'):VE W w' tb lb L':=⟨h.bel.trans b,hb,eP o h.fn h.ne (by decide),h.ne⟩
theorem aO7 (W:World)(Q:Nat->Prop)(sa:Option Addr)(n sc:Nat)(B:Nat->Blk)(pb ob:Nat)(tv qv sv:Value)(key:Int)(la:Option Addr)(ln lc:Nat)(l:List Ent)(ahead:ByteArray)(tb lb:Nat)(L:List UInt8)(w:World)
 (hS:aN W sa n B) (hP:aC W pb #[.slice sa n sc,tv] 27) (hO:aC W ob #[.int .i64 key,qv,sv] 64) (hE:dU Q W la ln l) (hok:∀ f∈l,bQ n B key f.root f.size/\f.name.size<=8) (hln:ln<=6) (ha:ahead.size<=8) (htab:Lib.TabIs Tryz.prog W tabN .u64 Lib.pow10Tab) (hV:VE W w tb lb L) (hlen:L.length<=100000000):
 Calls Tryz.prog 45 #[.string ahead,.slice la ln lc,.pointer (some ⟨pb,0,none⟩),.pointer (some ⟨ob,0,none⟩),.pointer (some ⟨lb,0,none⟩)] w fun e w'=>e=.returned (.tuple #[])/\VE W w' tb lb (L++iE ahead key B l)/\Lib.OthersKept 5 (some tb) w w':=by
 replace hS:=hid hS
 replace hP:=hid hP
 replace hO:=hid hO
 replace hE:=hid hE
 replace hok:=hid hok
 replace htab:=hid htab
 replace hV:=hid hV
 go_enter Tryz.func45,Tryz.ntmps45
 go_wp2_with fail
 go_loopw [13] (fun v wr=>∃ j:Nat,j<=ln/\v=.int .i64 j/\VE W wr tb lb (L++iE ahead key B (l.take j))/\Lib.OthersKept 5 (some tb) w wr) (fun v _=>ln-(Go.RowKit.intOf v).toNat)
 case atStart=>exact⟨0,Nat.zero_le _,rfl,by simpa [iE] using hV.out,Lib.OthersKept.refl _ _ _⟩
 case round=>
  clear hV
  obtain⟨j,hj,rfl,hV,hK⟩:=hrel
  replace hV:=hid hV
  replace hK:=hid hK
  by_cases hlt:j<ln
  ·have hEr:=hE.out.below hV.out.bel
   obtain⟨eb,eo,rfl,hel,_⟩:=hEr.2.2 (by omega)
   have hA:=hEr.ent hlt
   have c0:=hA.c0
   have c1:=hA.c1
   have c2:=hA.c2
   have hjl:j<l.length:=by rw[hE.out.1]; exact hlt
   have hgd:l.getD j Ent.zero=l[j]:=by simp[List.getD,hjl]
   have hf:=hid (hok.out _ (List.getElem_mem hjl))
   have htk:Hid (iE ahead key B (l.take (j+1))=iE ahead key B (l.take j)++aW0 ahead key B l[j]):=hid (by
    unfold iE
    rw[List.take_add_one,List.getElem?_eq_getElem hjl,List.flatMap_append]
    congr 1
    simp)
   rw[hgd] at c0 c1 c2
   clear hA hEr hgd
   generalize l[j]=f at *
   have bA:=hid (aA wr (.cells #[.string f.name,.int .i64 f.root,.int .i64 f.size] 106))
   have kA:=hid (aB wr #[.string f.name,.int .i64 f.root,.int .i64 f.size] 106)
   go_upto_region 3 with fail
   clear c0 c1 c2
   generalize hw5:wr.alloc (.cells #[.string f.name,.int .i64 f.root,.int .i64 f.size] 106)=w5 at *
   replace hw5:=hid hw5
   have hV5:=hid (hV.out.below bA.out)
   have p0:=(hP.out.below hV5.out.bel).cell 0
   have o0:=(hO.out.below hV5.out.bel).cell 0
   have e1:=kA.out.cell 1
   have e2:=kA.out.cell 2
   simp at p0 o0 e1 e2
   go_wp2_with fail
   refine(rV sa n sc B key f.root f.size 0 f.size w5 (hS.out.below hV5.out.bel)).mono ?_
   rintro e w6 ⟨⟨hR,_⟩,b6⟩
   rcases hR with⟨e', _,_,hno⟩ | ⟨y,yn,yc,rfl,_,hlc,hN⟩
   ·exact absurd ⟨hf.out.1,by omega,hf.out.1.sb⟩ hno
   have hV6:=hid (hV5.out.below b6)
   have b6h:=hid b6
   have kA6:=hid (kA.out.below b6)
   have hsz:=hf.out.1.sb
   have hyn:Hid (yn<=256):=hid (by rw[<-hN.1,lG _ _ _ _ (cK _ _) (by omega)]; omega)
   have hN6:Hid (∀ w', Below w6.heap.size w6 w'->aI (fun _=>True) .u8 w' y yn (nS (aR key (aH B 3 f.root)) f.size.toNat 0 f.size.toNat)):=hid (fun w' b=>(hN.weaken (fun _ _ _=>trivial)).below b)
   have hT6:Hid (∀ w', Below w6.heap.size w6 w'->Lib.TabIs Tryz.prog w' tabN .u64 Lib.pow10Tab):=hid (fun w' b=>iI htab.out (hV6.out.bel.trans (b.mono hV6.out.bel.size)))
   clear p0 o0 e1 e2 hN
   have q0:=kA6.out.cell 0
   have q2:=kA6.out.cell 2
   have l0:=hV6.out.fn.cell 0
   simp at q0 q2 l0
   have lq:=hid kA6.out.lt
   have ll:=hid hV6.out.fn.lt
   go_upto_region 4 with fail
   have hLl:Hid ((L++iE ahead key B (l.take j)).length+(gP [ahead++f.name,aG0 f.size,⟨(aI5 (nS (aR key (aH B 3 f.root)) f.size.toNat 0 f.size.toNat)).toArray⟩]).length<=1000000000):=hid (by
    have h1:=mE (n:=n) (B:=B) (key:=key) ha (l.take j) (fun g hg=>hok.out g (List.mem_of_mem_take hg))
    have h2:=aO8 ha hf.out.2 hf.out.1
    have h3:(l.take j).length<=j:=by rw[List.length_take]; omega
    unfold aW0 at h2
    rw[List.length_append]
    omega)
   have hsz1:f.size<=1000000:=by omega
   have ntb:Hid (wr.heap.size≠tb):=hid (by have:=hV.out.bld.lt; omega)
   have ne5:Hid (102≠5):=hid (by decide)
   have ne6:Hid (106≠5):=hid (by decide)
   have hTd:=hid (hT6.out _ (aD _ _))
   have hcat:∀ W', (Op.stringOp .add ahead f.name).run Tryz.prog W'=.ok (.string (ahead++f.name)) W':=fun W'=>run_string_add (P:=Tryz.prog) W' ahead f.name (by omega) (by have:=hf.out.2; omega)
   go_region_held3 (fun w'=>w'.cell? ⟨lb,0,none⟩=some (.func (.func 41) #[] #[.pointer (some ⟨tb,0,none⟩)])/\w'.cell? ⟨wr.heap.size,0,none⟩=some (.string f.name)/\w'.cell? ⟨wr.heap.size,2,none⟩=some (.int .i64 f.size)) (first | go_keep | assumption) (first | (go_at_call 47; refine Calls.mono (aF9 f.size hsz.1 hsz1 w6.drew hTd.out) ?_; rintro e w7 ⟨rfl,b7⟩; replace b7:Below w6.heap.size w6 w7:=(aD _ _).trans b7; have s0:=(b7.cell (p:=⟨lb,0,none⟩) ll.out).trans l0; have s1:=(b7.cell (p:=⟨wr.heap.size,0,none⟩) lq.out).trans q0; have s2:=(b7.cell (p:=⟨wr.heap.size,2,none⟩) lq.out).trans q2; replace b7:=hid b7) | (go_at_call 48; with_reducible refine Calls.mono (bJ6 (fun _=>True) y yn yc (nS (aR key (aH B 3 f.root)) f.size.toNat 0 f.size.toNat) _ hyn.out ?_) ?_; exact hN6.out _ b7.out; rintro e w8 ⟨rfl,b8⟩; replace b8:Below w6.heap.size w6 w8:=Below.tr b7.out b8; have s0':=(b8.cell (p:=⟨lb,0,none⟩) ll.out).trans l0; have s1':=(b8.cell (p:=⟨wr.heap.size,0,none⟩) lq.out).trans q0; have s2':=(b8.cell (p:=⟨wr.heap.size,2,none⟩) lq.out).trans q2; have n1:lb≠w8.heap.size:=(by have:=b8.size; have:=ll.out; omega); have n1':=n1.symm; have n2:wr.heap.size≠w8.heap.size:=(by have:=b8.size; have:=lq.out; omega); have n2':=n2.symm; have hB8:=hid (hV6.out.bld.below b8); have hz8:=hid b8.size; replace b8:=hid b8) | (go_at_call 41; with_reducible refine Calls.mono (bS6 W.heap.size tb _ _ _ _ w8 hB8.out ?_ hLl.out) ?_; exact Nat.le_trans hV6.out.bel.size hz8.out; rintro e w9 ⟨rfl,hB9,b9,o9⟩; have K1:=eP o9 ((hV6.out.below b8.out).fn) hV6.out.ne ne5.out; have K2:=eP o9 (kA6.out.below b8.out) ntb.out ne6.out; have s0q:=K1.cell 0; have s1q:=K2.cell 0; have s2q:=K2.cell 2; simp only[List.getElem?_toArray,List.getElem?_cons_zero,List.getElem?_cons_succ] at s0q s1q s2q; clear K1 K2; replace hB9:=hid hB9; replace b9:=hid b9; replace o9:=hid o9))
   all_goals (
    go_wp2_with fail
    go_roundw
    case rel=>exact⟨j+1,by omega,by go_num,by
     rw[htk.out,<-List.append_assoc]
     exact(hV6.out.below b8.out).wrote hB9.out b9.out o9.out,((hK.out.trans (fU bA.out)).trans (fU b6h.out)).trans ((fU b8.out).trans o9.out)⟩
    case measure=>simp[Go.RowKit.intOf]; omega)
  ·obtain rfl:j=ln:=by omega
   have ht:l.take j=l:=List.take_of_length_le (by rw[hE.out.1]; omega)
   go_wp2_with fail
   go_end0
   rw[ht] at hV
   exact⟨rfl,hV.out,hK.out⟩
def cM0:aP:=⟨13,⟨#[]⟩,⟨#[]⟩,⟨#[]⟩,0,0,[]⟩
theorem cL9:cM0.ok:=by
 have:(0:Nat)<=maxLen:=Nat.zero_le _
 refine⟨⟨this,this,this⟩,?_⟩
 unfold cM0
 simp
theorem bX0 (w:World):aI (fun _=>True) .u8 w none 0 cM0.bytes:=⟨rfl,fun x hx=>by simp[cM0] at hx,fun h=>absurd h (by omega)⟩
theorem bK5 {n:Nat}{B D:Nat->Blk}{l l':List aO}{i:Nat}{t:aO}{e1 N:Int}(h:dQ n B l i t cM0 D l' e1 N):e1=0/\qU B (aL t) N:=by
 have hk:cM0.kind=13:=rfl
 cases h with
 | uses N _ h=>exact⟨rfl,h⟩
 | _=>first | omega | (simp only[bL1] at *; omega)
theorem aM7 (B b:Nat)(l:List UInt8)(s1 s2:ByteArray)(w:World)(hb:Bld B b l w)(hBw:B<=w.heap.size)(hlen:l.length+(gP [s1,s2]).length<=1000000000):
 Calls Tryz.prog 41 #[.slice (some ⟨w.heap.size,0,none⟩) 2 2,.pointer (some ⟨b,0,none⟩)] (w.alloc (.cells #[.string s1,.string s2] 9)) fun e w'=>e=.returned (.tuple #[])/\Bld B b (l++gP [s1,s2]) w'/\Below B w w'/\Lib.OthersKept 5 (some b) w w':=by
 have bz:=aA w (.cells #[.string s1,.string s2] 9)
 refine(aF7 B b l w.heap.size 0 2 [s1,s2] _ (hb.below bz) (Nat.le_trans hBw bz.size) (fun j x hj=>?_) (by simp) (by simp) (by simp) hlen).mono ?_
 ·have:=(aB w #[.string s1,.string s2] 9).cell j
  rw[Nat.zero_add,this]
  match j,hj with
  | 0,hj=>simp at hj; subst hj; rfl
  | 1,hj=>simp at hj; subst hj; rfl
  | j+2,hj=>simp at hj
 ·rintro e w' ⟨rfl,h1,h2,h3⟩
  exact⟨rfl,h1,(bz.mono hBw).trans h2,(fU bz).trans h3⟩
theorem bS5 (B b:Nat)(l:List UInt8)(s1 s2 s3 s4:ByteArray)(w:World)(hb:Bld B b l w)(hBw:B<=w.heap.size)(hlen:l.length+(gP [s1,s2,s3,s4]).length<=1000000000):
 Calls Tryz.prog 41 #[.slice (some ⟨w.heap.size,0,none⟩) 4 4,.pointer (some ⟨b,0,none⟩)] (w.alloc (.cells #[.string s1,.string s2,.string s3,.string s4] 9)) fun e w'=>e=.returned (.tuple #[])/\Bld B b (l++gP [s1,s2,s3,s4]) w'/\Below B w w'/\Lib.OthersKept 5 (some b) w w':=by
 have bz:=aA w (.cells #[.string s1,.string s2,.string s3,.string s4] 9)
 refine(aF7 B b l w.heap.size 0 4 [s1,s2,s3,s4] _ (hb.below bz) (Nat.le_trans hBw bz.size) (fun j x hj=>?_) (by simp) (by simp) (by simp) hlen).mono ?_
 ·have:=(aB w #[.string s1,.string s2,.string s3,.string s4] 9).cell j
  rw[Nat.zero_add,this]
  match j,hj with
  | 0,hj=>simp at hj; subst hj; rfl
  | 1,hj=>simp at hj; subst hj; rfl
  | 2,hj=>simp at hj; subst hj; rfl
  | 3,hj=>simp at hj; subst hj; rfl
  | j+4,hj=>simp at hj
 ·rintro e w' ⟨rfl,h1,h2,h3⟩
  exact⟨rfl,h1,(bz.mono hBw).trans h2,(fU bz).trans h3⟩
def bN7 (B:Nat->Blk)(key:Int)(s:bD):List UInt8:=gP [⟨#[32,97,116]⟩,s.name]++iE ⟨#[32,32]⟩ key B s.files
def nP (B:Nat->Blk)(key:Int)(l:List bD):List UInt8:=l.flatMap (bN7 B key)
def setW (B:Nat->Blk)(key:Int)(x:aK):List UInt8:=gP [⟨#[115,101,116]⟩,x.name]++iE ⟨#[32]⟩ key B x.files++nP B key x.snaps
def uY (B:Nat->Blk)(key:Int)(l:List aK):List UInt8:=l.flatMap (setW B key)
def cP2 (N quota:Int):List UInt8:=gP [⟨#[117,115,101,115]⟩,aG0 N,⟨#[111,102]⟩,aG0 quota]
def qZ (B:Nat->Blk)(t:aO)(N:Int):List UInt8:=uY B t.key t.sets++cP2 N t.quota
theorem lX (a b:ByteArray):(gP [a,b]).length=a.size+b.size+2:=by
 unfold gP
 rw[List.length_append,List.map_cons,List.map_cons,List.map_nil,Lib.join_cons]
 simp only[Lib.joinTail,List.map_cons,List.map_nil,List.flatten_cons,List.flatten_nil,List.length_append,List.length_cons,List.length_nil,aC6]
 omega
theorem bI4 (a b c d:ByteArray):(gP [a,b,c,d]).length=a.size+b.size+c.size+d.size+4:=by
 unfold gP
 rw[List.length_append,List.map_cons,List.map_cons,List.map_cons,List.map_cons,List.map_nil,Lib.join_cons]
 simp only[Lib.joinTail,List.map_cons,List.map_nil,List.flatten_cons,List.flatten_nil,List.length_append,List.length_cons,List.length_nil,aC6]
 omega
theorem kH {s:ByteArray}(h:aM s):s.size<=8:=by rw[<-aC6]; exact h.2.1
theorem bN6 {n:Nat}{B:Nat->Blk}{key:Int}{s:bD}(hn:aM s.name)(hf:∀ f∈s.files,bQ n B key f.root f.size/\f.name.size<=8)(h6:s.files.length<=6):(bN7 B key s).length<=10000:=by
 unfold bN7
 rw[List.length_append,lX]
 have h1:=mE (n:=n) (B:=B) (key:=key) (ahead:=⟨#[32,32]⟩) (by decide) s.files hf
 have h2:=kH hn
 have h3:(ByteArray.mk #[32,97,116]).size=3:=rfl
 omega
theorem yF {α:Type}{g:α->List UInt8}{m:Nat}:∀ (l:List α),(∀ x∈l,(g x).length<=m)->(l.flatMap g).length<=l.length*m
 | [],_=>by simp
 | x::l,h=>by
   have h1:=yF l (fun y hy=>h y (List.mem_cons_of_mem _ hy))
   have h2:=h x List.mem_cons_self
   rw[List.flatMap_cons,List.length_append,List.length_cons,Nat.add_mul]
   omega
theorem aV.fileOk {n:Nat}{B:Nat->Blk}{key:Int}{x:aK}(h:aV n B key x):∀ f∈x.files,bQ n B key f.root f.size/\f.name.size<=8:=fun f hf=>⟨h.files.files f hf,kH (h.shape.names f hf)⟩
theorem aV.snapFileOk {n:Nat}{B:Nat->Blk}{key:Int}{x:aK}(h:aV n B key x){s:bD}(hs:s∈x.snaps):∀ f∈s.files,bQ n B key f.root f.size/\f.name.size<=8:=fun f hf=>⟨(h.filesS s hs).files f hf,kH ((h.filesS s hs).names f hf)⟩
theorem zT {n:Nat}{B:Nat->Blk}{key:Int}{x:aK}(h:aV n B key x)(l:List bD)(hl:∀ s∈l,s∈x.snaps):(nP B key l).length<=l.length*10000:=
 yF l fun s hs=>bN6 (h.shape.namesS s (hl s hs)) (h.snapFileOk (hl s hs)) (h.filesS s (hl s hs)).few
theorem bZ3 {n:Nat}{B:Nat->Blk}{key:Int}{x:aK}(h:aV n B key x):(setW B key x).length<=50000:=by
 unfold setW
 rw[List.length_append,List.length_append,lX]
 have h1:=mE (n:=n) (B:=B) (key:=key) (ahead:=⟨#[32]⟩) (by decide) x.files h.fileOk
 have h2:=zT h x.snaps (fun _ h=>h)
 have h3:=kH h.shape.name
 have h4:(ByteArray.mk #[115,101,116]).size=3:=rfl
 have h5:=h.shape.few
 have h6:=h.shape.fewS
 omega
theorem aK2 {n:Nat}{B:Nat->Blk}{key:Int}(l:List aK)(h:∀ x∈l,aV n B key x):(uY B key l).length<=l.length*50000:=yF l fun x hx=>bZ3 (h x hx)
theorem aO4 {α:Type}(g:α->List UInt8){l:List α}{j:Nat}(hj:j<l.length):(l.take (j+1)).flatMap g=(l.take j).flatMap g++g l[j]:=by
 rw[List.take_add_one,List.getElem?_eq_getElem hj,List.flatMap_append]
 congr 1
 simp
theorem bY1 {n:Nat}{B:Nat->Blk}{l:List aO}{t:aO}{N:Int}(h:aQ n B l)(ht:t∈l)(hU:qU B (aL t) N):0<=N/\N<=400:=by
 obtain⟨m,⟨M,m1,m2,rfl⟩,hm⟩:=h.uses t ht
 obtain⟨L,l1,l2,rfl⟩:=hU
 rw[wU l1 m1 (fun x=>(l2 x).trans (m2 x).symm)]
 have:=(h.tens t ht).qb
 omega
def cM8 (e:Ending)(n:Nat)(B:Nat->Blk)(tn:Nat)(l:List aO)(i:Int):Prop:=
 (∃ e':Int,e=.returned (.tuple #[.string ⟨#[]⟩,.int .i64 e'])/\e'≠0/\¬(aQ n B l/\0<=i/\i<(tn:Int)))\/
 (∃ (k:Nat) (t:aO) (N:Int),i=(k:Int)/\l[k]? =some t/\aQ n B l/\qU B (aL t) N/\e=.returned (.tuple #[.string ⟨(qZ B t N).toArray⟩,.int .i64 0]))
theorem mV {n:Nat}{B D:Nat->Blk}{l m:List aO}{xs:List (Int×aP)}{ys:List iX}(hP:aQ n B l)(h:eU n B l xs D m ys):aQ n D m/\m.length=l.length/\ys.length=xs.length:=by
 induction h with
 | nil=>exact⟨hP,rfl,rfl⟩
 | miss xs D m ys i a h hno ih=>exact⟨ih.1,ih.2.1,by rw[List.length_append,List.length_append,ih.2.2]; rfl⟩
 | step xs D m ys k a t D' m' e1 N h hk hb hc ih=>
   have is:=hc.is ih.1 hk hb
   obtain⟨t', e,_⟩:=is.set
   exact⟨is.ok,by rw[e,List.length_set]; exact ih.2.1,by rw[List.length_append,List.length_append,ih.2.2]; rfl⟩
def xP (i:Int)(xs:List (Int×aP)):List aP:=xs.filterMap fun p=>if p.1=i then some p.2 else none
def xO (i:Int)(xs:List (Int×aP))(ys:List iX):List iX:=(xs.zip ys).filterMap fun p=>if p.1.1=i then some p.2 else none
theorem jU (i:Int)(xs:List (Int×aP))(j:Int)(a:aP):xP i (xs++[(j,a)])=xP i xs++if j=i then [a] else []:=by
 unfold xP
 rw[List.filterMap_append]
 by_cases h:j=i
 ·rw[if_pos h]; simp[h]
 ·rw[if_neg h]; simp[h]
theorem iC (i:Int){xs:List (Int×aP)}{ys:List iX}(j:Int)(a:aP)(y:iX)(h:ys.length=xs.length):xO i (xs++[(j,a)]) (ys++[y])=xO i xs ys++if j=i then [y] else []:=by
 unfold xO
 rw[List.zip_append h.symm,List.filterMap_append]
 by_cases h:j=i
 ·rw[if_pos h]; simp[h]
 ·rw[if_neg h]; simp[h]
theorem kP.left {B B' D:Nat->Blk}{t u:aO}(h:kP B D t u)(hs:eH B B' (aL t)):kP B' D t u:=by
 obtain⟨f,e,hI⟩:=h
 exact⟨f,e,hI.keep hs (eH.refl _ _)⟩
theorem kP.right {B D D':Nat->Blk}{t u:aO}(h:kP B D t u)(hs:eH D D' (aL u)):kP B D' t u:=by
 obtain⟨f,rfl,hI⟩:=h
 rw[jT] at hs
 exact⟨f,rfl,hI.keep (eH.refl _ _) hs⟩
theorem aK3 {l:List aO}{i k:Nat}{t:aO}(t':aO)(h:l[i]? =some t)(hk:k≠i):(l.set k t')[i]? =some t:=by
 rw[List.getElem?_set_ne hk]; exact h
theorem cK5 (t:aO):aM2 id t=t:=by
 have e:∀ l:List Ent,jJ id l=l:=fun l=>by
  unfold jJ
  exact(List.map_congr_left (g:=id) fun e _=>rfl).trans (List.map_id _)
 have n:∀ s:bD,nW id s=s:=fun s=>by unfold nW; rw[e]
 have x:∀ s:aK,fA id s=s:=fun s=>by
  unfold fA
  rw[e,List.map_congr_left (g:=id) fun s _=>n s,List.map_id]
 unfold aM2
 rw[List.map_congr_left (g:=id) fun s _=>x s,List.map_id]
theorem kP.refl (B:Nat->Blk)(t:aO):kP B B t t:=⟨id,(cK5 t).symm,Iso.refl _ _⟩
def AtI (i:Nat)(D E:Nat->Blk)(m k:List aO):Prop:=∃ t u,m[i]? =some t/\k[i]? =some u/\kP D E t u
theorem bK8 {α:Type}{l m:List α}{a b:α}(h:l++[a]=m++[b]):l=m/\a=b:=by
 have:=List.append_inj' h rfl
 exact⟨this.1,by simpa using this.2⟩
theorem zV {n:Nat}{B D:Nat->Blk}{l m:List aO}{i:Nat}{A:List aP}{Y:List iX}(hP:aQ n B l)(hi:i<l.length)
 (main:∀ zs E k us a D' m' e1 N,eU n B l zs E k us->xP i zs++[a]=A->∀ u,k[i]? =some u->Bytes a.bytes->dQ n E k i u a D' m' e1 N->AtI i D D' m m'/\Y=xO i zs us++[⟨e1,N,aH7 u a,aH9 E u a⟩])
 (base:A=[]->AtI i D B m l/\Y=[]) {zs:List (Int×aP)} {E:Nat->Blk} {k:List aO} {us:List iX} (h:eU n B l zs E k us) (hA:xP i zs=A):AtI i D E m k/\Y=xO i zs us:=by
 induction h with
 | nil=>exact base hA.symm
 | miss xs E k us j a h hno ih=>
   obtain⟨_,hl,hlen⟩:=mV hP h
   have hj:j≠(i:Int):=fun e=>hno (by omega)
   rw[jU,if_neg hj,List.append_nil] at hA
   rw[iC _ _ _ _ hlen,if_neg hj,List.append_nil]
   exact ih hA
 | step xs E k us j a u E' k' e1 N h hk hb hc ih=>
   obtain⟨hok,hl,hlen⟩:=mV hP h
   by_cases hj:(j:Int)=(i:Int)
   ·obtain rfl:j=i:=by omega
    rw[jU,if_pos rfl] at hA
    rw[iC _ _ _ _ hlen,if_pos rfl]
    exact main xs E k us a E' k' e1 N h hA u hk hb hc
   ·rw[jU,if_neg hj,List.append_nil] at hA
    rw[iC _ _ _ _ hlen,if_neg hj,List.append_nil]
    obtain⟨⟨t,v,h1,h2,h3⟩,h4⟩:=ih hA
    have is:=hc.is hok hk hb
    obtain⟨t', e,_⟩:=is.set
    have hne:i≠j:=fun f=>hj (by rw[f])
    refine⟨⟨t,v,h1,?_,h3.right (is.oth i v h2 hne).sameOn⟩,h4⟩
    rw[e]
    exact aK3 t' h2 (fun f=>hne f.symm)
theorem bA0 {n:Nat}{B D E:Nat->Blk}{l m k:List aO}{i:Nat}{xs zs:List (Int×aP)}{ys us:List iX}(hP:aQ n B l)(hi:i<l.length)(h:eU n B l xs D m ys)(g:eU n B l zs E k us)(hA:xP i zs=xP i xs):AtI i D E m k/\xO i xs ys=xO i zs us:=by
 induction h generalizing zs E k us with
 | nil=>
   refine zV (A:=[]) hP hi (fun zs E k us a D' m' e1 N _ e=>absurd e (by simp)) (fun _=>⟨⟨l[i],l[i],List.getElem?_eq_getElem hi,List.getElem?_eq_getElem hi,kP.refl _ _⟩,rfl⟩) g hA
 | miss xs D m ys j a h hno ih=>
   obtain⟨_,hl,hlen⟩:=mV hP h
   have hj:j≠(i:Int):=fun e=>hno (by omega)
   rw[jU,if_neg hj,List.append_nil] at hA
   rw[iC _ _ _ _ hlen,if_neg hj,List.append_nil]
   exact ih g hA
 | step xs D m ys j a t D' m' e1 N h hk hb hc ih=>
   obtain⟨hok,hl,hlen⟩:=mV hP h
   have is:=hc.is hok hk hb
   by_cases hj:(j:Int)=(i:Int)
   ·obtain rfl:j=i:=by omega
    rw[jU,if_pos rfl] at hA
    rw[iC _ _ _ _ hlen,if_pos rfl]
    refine zV (A:=xP j xs++[a]) hP hi (fun zs E k us b E' k' e2 M hz e u hu hb2 hc2=>?_) (fun e=>absurd e (by simp)) g hA
    obtain⟨e3,rfl⟩:=bK8 e
    obtain⟨⟨t2,u2,q1,q2,q3⟩,q4⟩:=ih hz e3
    rw[hk] at q1
    rw[hu] at q2
    cases q1
    cases q2
    obtain⟨okE,_,_⟩:=mV hP hz
    obtain⟨rfl,rfl,t3,u3,r1,r2,r3⟩:=cQ5 hok okE hk hu q3 hb hc hc2
    obtain⟨s1,s2⟩:=cM1 q3 b
    refine⟨⟨t3,u3,r1,r2,r3⟩,?_⟩
    rw[q4,s1,s2]
   ·rw[jU,if_neg hj,List.append_nil] at hA
    rw[iC _ _ _ _ hlen,if_neg hj,List.append_nil]
    obtain⟨⟨v,u,h1,h2,h3⟩,h4⟩:=ih g hA
    obtain⟨t', e,_⟩:=is.set
    have hne:i≠j:=fun f=>hj (by rw[f])
    refine⟨⟨v,u,?_,h2,h3.left (is.oth i v h1 hne).sameOn⟩,h4⟩
    rw[e]
    exact aK3 t' h1 (fun f=>hne f.symm)
theorem aK6 {n:Nat}{B D:Nat->Blk}{l m:List aO}{i:Int}{xs:List (Int×aP)}{ys:List iX}(hP:aQ n B l)(hi:¬(0<=i/\i<(l.length:Int)))(h:eU n B l xs D m ys):∀ y∈xO i xs ys,y=⟨5,0,[],[]⟩:=by
 induction h with
 | nil=>intro y hy; cases hy
 | miss xs D m ys j a h hno ih=>
   obtain⟨_,hl,hlen⟩:=mV hP h
   rw[iC _ _ _ _ hlen]
   intro y hy
   rcases List.mem_append.1 hy with hy | hy
   ·exact ih y hy
   ·by_cases hj:j=i
    ·rw[if_pos hj] at hy; exact List.mem_singleton.1 hy
    ·rw[if_neg hj] at hy; cases hy
 | step xs D m ys j a t D' m' e1 N h hk hb hc ih=>
   obtain⟨_,hl,hlen⟩:=mV hP h
   obtain⟨hj,_⟩:=List.getElem?_eq_some_iff.1 hk
   have hne:¬(j:Int)=i:=fun e=>hi (by omega)
   rw[iC _ _ _ _ hlen,if_neg hne,List.append_nil]
   exact ih
theorem oZ {α β:Type}:∀ {l:List α} {f g:α->List β},(∀ a∈l,f a=g a)->l.flatMap f=l.flatMap g
 | [],_,_,_=>rfl
 | a::l,f,g,h=>by
   rw[List.flatMap_cons,List.flatMap_cons,h a List.mem_cons_self,oZ fun b hb=>h b (List.mem_cons_of_mem _ hb)]
theorem aO6 {f:Int->Int}{B D:Nat->Blk}{R:List Int}(hI:Iso f B R D)(ahead:ByteArray)(key:Int){l:List Ent}(hR:∀ e∈l,e.root∈R):iE ahead key D (jJ f l)=iE ahead key B l:=by
 unfold iE jJ
 rw[List.flatMap_map]
 refine oZ fun e he=>?_
 have hl:aH D 3 (f e.root)=aH B 3 e.root:=funext fun i=>hI.leaf 3 e.root (bB3 (hR e he)) i
 show aW0 ahead key D (bR8 f e)=_
 unfold aW0
 show gP [ahead++e.name,aG0 e.size,⟨(aI5 (nS (aR key (aH D 3 (f e.root))) e.size.toNat 0 e.size.toNat)).toArray⟩]=_
 rw[hl]
theorem bP2 {B D:Nat->Blk}{t u:aO}{N M:Int}(h:kP B D t u)(hN:qU B (aL t) N)(hM:qU D (aL u) M):qZ D u M=qZ B t N:=by
 obtain⟨f,rfl,hI⟩:=h
 rw[jT] at hM
 obtain rfl:=hI.uses hN hM
 have e:uY D t.key (t.sets.map (fA f))=uY B t.key t.sets:=by
  unfold uY
  rw[List.flatMap_map]
  refine oZ fun x hx=>?_
  have hr:∀ r∈aG x,r∈aL t:=fun r hr=>fK hx hr
  have e1:=aO6 hI ⟨#[32]⟩ t.key (l:=x.files) fun e he=>hr _ (List.mem_append_left _ (bV.2 ⟨e,he,rfl⟩))
  have e2:nP D t.key (x.snaps.map (nW f))=nP B t.key x.snaps:=by
   unfold nP
   rw[List.flatMap_map]
   refine oZ fun s hs=>?_
   have e3:=aO6 hI ⟨#[32,32]⟩ t.key (l:=s.files) fun e he=>hr _ (List.mem_append_right _ (List.mem_flatMap.2 ⟨s,hs,bV.2 ⟨e,he,rfl⟩⟩))
   show gP _++iE ⟨#[32,32]⟩ t.key D (jJ f s.files)=_
   rw[e3]
   rfl
  show gP _++iE ⟨#[32]⟩ t.key D (jJ f x.files)++nP D t.key (x.snaps.map (nW f))=_
  rw[e1,e2]
  rfl
 show uY D t.key (t.sets.map (fA f))++cP2 N t.quota=_
 rw[e]
 rfl
theorem aW7 (a1 a2:Option Addr)(n c d:Nat)(Q1 Q2:Nat->Prop)(xs:List ByteArray)(w:World)(hn:n<=1000)(h1:gG Q1 w a1 n xs)(h2:gG Q2 w a2 n xs):
 Calls Tryz.prog 21 #[.slice a1 n c,.slice a2 n d] w fun e w'=>e=.returned (.bool true)/\∃ q,w'=w.drewN q:=by
 replace h1:=hid h1
 replace h2:=hid h2
 go_enter Tryz.func21,Tryz.ntmps21
 go_wp2
 go_loopw [13] (fun i wr=>∃ k q:Nat,k<=n/\i=.int .i64 k/\wr=w.drewN q) (fun i _=>n-(Go.RowKit.intOf i).toNat)
 case atStart=>exact⟨0,0,Nat.zero_le _,rfl,rfl⟩
 case round=>
  obtain⟨k,q,hk,rfl,rfl⟩:=hrel
  by_cases hlt:k<n
  ·obtain⟨b1,o1,rfl,_,_,hc1⟩:=h1.out.2 (by omega)
   obtain⟨b2,o2,rfl,_,_,hc2⟩:=h2.out.2 (by omega)
   have g1:=hc1 k (by omega)
   have g2:=hc2 k (by omega)
   clear hc1 hc2 h1 h2
   generalize xs.getD k ByteArray.empty=x at *
   go_wp2_with fail
   go_quiet (fail)
   go_wp2
   go_roundw
   case rel=>exact⟨k+1,q+nq,by omega,by go_num,rfl⟩
   case measure=>simp[Go.RowKit.intOf]; omega
  ·have:k=n:=by omega
   subst this
   clear h1 h2
   go_wp2
   go_ret
   exact⟨rfl,q,rfl⟩
def kY.val (x:kY):Value:=.agg #[.int .i64 x.e,.int .i64 x.N,.slice x.ya x.yn x.yc,.slice x.y x.ln x.lc]
theorem wQ (x z:kY)(d:iX)(Q R:Nat->Prop)(w:World)(hx:kW Q w x d)(hz:kW R w z d)(h6:d.S.length<=1000):
 Calls Tryz.prog 9 #[x.val,z.val] w fun e w'=>e=.returned (.bool true)/\Below w.heap.size w w':=by
 unfold kY.val
 obtain⟨e1,n1,⟨s1,t1,_⟩⟩:=hx
 obtain⟨e2,n2,⟨s2,t2,_⟩⟩:=hz
 rw[e1,n1,e2,n2]
 generalize d.e=de at *
 generalize d.N=dn at *
 clear e1 n1 e2 n2
 obtain⟨_,_,ya,yn,yc,y,ln,lc⟩:=x
 obtain⟨_,_,za,zn,zc,z,mn,mc⟩:=z
 dsimp only at *
 have l1:=s1.1
 have l2:=s2.1
 obtain rfl:yn=zn:=l1.symm.trans l2
 have hn:Hid (yn<=1000):=hid (by omega)
 have b0:=aW w (.cells #[.int .i64 de,.int .i64 dn,.slice ya yn yc,.slice y ln lc] 41) (.cells #[.int .i64 de,.int .i64 dn,.slice za yn zc,.slice z mn mc] 41)
 replace s1:=hid (s1.below b0)
 replace s2:=hid (s2.below b0)
 replace t1:=hid (t1.below b0)
 replace t2:=hid (t2.below b0)
 clear l1 l2 h6
 go_enter Tryz.func9,Tryz.ntmps9
 go_wp2_with fail
 refine(aW7 ya za yn yc zc Q R d.S _ hn.out s1.out s2.out).mono ?_
 rintro e w1 ⟨rfl,q,rfl⟩
 replace t1:=hid (t1.out.below (below_drewN _ _ q))
 replace t2:=hid (t2.out.below (below_drewN _ _ q))
 replace b0:=hid (b0.trans (below_drewN _ _ q))
 clear s1 s2
 go_wp2_with fail
 refine(kN y z ln lc mn mc Q R d.b _ t1.out t2.out).mono ?_
 rintro e w2 ⟨rfl,rfl⟩
 go_wp2_with fail
 go_ret
 exact⟨rfl,b0.out⟩
theorem cF4 {n:Nat}{B:Nat->Blk}{t:aO}(h:jK n B t)(a:aP):(aH7 t a).length<=6:=by
 unfold aH7
 by_cases hk:a.kind=11\/a.kind=12
 ·rw[if_pos hk]
  cases hs:setOf t a.set.data.toList with
  | none=>simp
  | some x=>
    have hx:=(h.sets x (List.mem_of_find?_eq_some hs)).shape.few
    show (vB x a).length<=6
    unfold vB
    split
    ·rw[List.length_map]; exact hx
    ·simp
 ·rw[if_neg hk]; simp
theorem bZ6 {n:Nat}{B D:Nat->Blk}{l m:List aO}{xs:List (Int×aP)}{ys:List iX}(hP:aQ n B l)(h:eU n B l xs D m ys):aQ n D m/\∀ y∈ys,y.S.length<=6:=by
 induction h with
 | nil=>exact⟨hP,fun y hy=>by cases hy⟩
 | miss xs D m ys i a h hno ih=>
   refine⟨ih.1,fun y hy=>?_⟩
   rcases List.mem_append.1 hy with hy | hy
   ·exact ih.2 y hy
   ·rw[List.mem_singleton.1 hy]; simp
 | step xs D m ys k a t D' m' e1 N h hk hb hc ih=>
   refine⟨(hc.is ih.1 hk hb).ok,fun y hy=>?_⟩
   rcases List.mem_append.1 hy with hy | hy
   ·exact ih.2 y hy
   ·rw[List.mem_singleton.1 hy]; exact cF4 (ih.1.tens t (List.mem_of_getElem? hk)) a
theorem aY6 {i k:Int}(h:i≠k)(a b:aP)(j:Int):xP j [(k,b),(i,a)]=xP j [(i,a),(k,b)]:=by
 unfold xP
 by_cases h1:i=j
 ·have h2:¬k=j:=fun f=>h (h1.trans f.symm)
  simp[h1,h2]
 ·by_cases h2:k=j
  ·simp[h1,h2]
  ·simp[h1,h2]
theorem bM3 {ys:List iX}(h:ys.length=2):∃ y0 y1,ys=[y0,y1]:=by
 match ys,h with
 | [y0,y1],_=>exact⟨y0,y1,rfl⟩
theorem aJ0 {i k:Int}(h:i≠k)(a b:aP)(y0 y1:iX):xO i [(i,a),(k,b)] [y0,y1]=[y0]/\xO i [(k,b),(i,a)] [y0,y1]=[y1]:=by
 have h2:¬k=i:=fun f=>h f.symm
 unfold xO
 constructor
 ·simp[h2]
 ·simp[h2]
theorem aL3 {n:Nat}{B D E:Nat->Blk}{l m k':List aO}{i k:Int}{a b:aP}{y0 y1 u0 u1:iX}(hP:aQ n B l)(hik:i≠k)(h:eU n B l [(i,a),(k,b)] D m [y0,y1])(g:eU n B l [(k,b),(i,a)] E k' [u0,u1]):u1=y0:=by
 obtain⟨e1,_⟩:=aJ0 hik a b y0 y1
 obtain⟨_,e2⟩:=aJ0 hik a b u0 u1
 by_cases hr:0<=i/\i<(l.length:Int)
 ·obtain⟨t,rfl⟩:∃ t:Nat,i=(t:Int):=⟨i.toNat,by omega⟩
  obtain⟨_,hY⟩:=bA0 hP (by omega) h g (aY6 hik a b t)
  rw[e1,e2] at hY
  exact(List.cons.inj hY).1.symm
 ·have q1:=aK6 hP hr h y0 (by rw[e1]; exact List.mem_singleton.2 rfl)
  have q2:=aK6 hP hr g u1 (by rw[e2]; exact List.mem_singleton.2 rfl)
  rw[q1,q2]
theorem bH8 {n:Nat}{B D E:Nat->Blk}{l m k':List aO}{i k:Int}{a b:aP}{ys us:List iX}(hP:aQ n B l)(hik:i≠k)(h:eU n B l [(i,a),(k,b)] D m ys)(g:eU n B l [(k,b),(i,a)] E k' us):
 (∀ t,t<l.length->AtI t D E m k')/\us.getD 1 iX.zero=ys.getD 0 iX.zero/\us.getD 0 iX.zero=ys.getD 1 iX.zero/\(ys.getD 0 iX.zero).S.length<=1000/\(ys.getD 1 iX.zero).S.length<=1000:=by
 have l1:=(mV hP h).2.2
 have l2:=(mV hP g).2.2
 have hf:=(bZ6 hP h).2
 obtain⟨y0,y1,rfl⟩:=bM3 l1
 obtain⟨u0,u1,rfl⟩:=bM3 l2
 refine⟨fun t ht=>(bA0 hP ht h g (aY6 hik a b t)).1,aL3 hP hik h g,(aL3 hP (fun f=>hik f.symm) g h).symm,?_,?_⟩
 ·exact Nat.le_trans (hf y0 (by simp)) (by omega)
 ·exact Nat.le_trans (hf y1 (by simp)) (by omega)
def bE4 (e:Ending)(w:World)(n:Nat)(B:Nat->Blk)(tn:Nat)(l:List aO)(q:Nat)(xs:List (Int×aP)):Prop:=
 ∃ (g:Nat) (ta:Option Addr) (tc rb:Nat) (D:Nat->Blk) (l':List aO) (v:Nat->kY) (ys:List iX),e=.returned (.tuple #[.agg #[.slice (some ⟨g,0,none⟩) n n,.slice ta tn tc],.slice (some ⟨rb,0,none⟩) q q,.int .i64 0])/\fE (fun _=>True) w (some ⟨g,0,none⟩) n D ta tn l'/\lC w rb q v/\aQ n D l'/\eU n B l xs D l' ys/\ys.length=q/\∀ i,i<q->kW (fun _=>True) w (v i) (ys.getD i iX.zero)
theorem cN8 {w:World}{wa qa:Option Addr}{q:Nat}{who:List Int}{ql:List aP}(hw:aI (fun _=>True) .i64 w wa q who)(hq:zA w qa q ql){k:Nat}(hk:k<q):(who.zip ql)[k]? =some (who.getD k 0,ql.getD k aP.zero):=by
 have h1:k<who.length:=by rw[hw.1]; exact hk
 have h2:k<ql.length:=by rw[hq.1]; exact hk
 rw[List.getElem?_zip_eq_some]
 refine⟨?_,?_⟩
 ·show who[k]? =some (who.getD k 0)
  rw[List.getD_eq_getElem?_getD,List.getElem?_eq_getElem h1]; rfl
 ·show ql[k]? =some (ql.getD k aP.zero)
  rw[List.getD_eq_getElem?_getD,List.getElem?_eq_getElem h2]; rfl
theorem aE4 (Q:Nat->Prop)(pa:Option Addr)(n c:Nat)(B:Nat->Blk)(ta:Option Addr)(tn tc:Nat)(l:List aO)(wa:Option Addr)(wc:Nat)(who:List Int)(qa:Option Addr)(q qc:Nat)(ql:List aP)(w:World)(hP:fE Q w pa n B ta tn l)(hok:aQ n B l)(hwho:aI (fun _=>True) .i64 w wa q who)(hq:zA w qa q ql)(h60:q<=60):
 Calls Tryz.prog 8 #[.agg #[.slice pa n c,.slice ta tn tc],.slice wa q wc,.slice qa q qc] w fun e w'=>bE4 e w' n B tn l q (who.zip ql)/\Below w.heap.size w w':=by
 have b0:=aW w (.cells #[.slice pa n c,.slice ta tn tc] 27) (.cells #[.slice none 0 0,.slice none 0 0] 27)
 have k0:aC _ w.heap.size #[.slice pa n c,.slice ta tn tc] 27:=(aB w _ _).below (aA _ (.cells #[.slice none 0 0,.slice none 0 0] 27))
 have k1:=aF w (.cells #[.slice pa n c,.slice ta tn tc] 27) #[.slice none 0 0,.slice none 0 0] 27
 have hPK:Hid (fE (fun b=>b<w.heap.size) w pa n B ta tn l):=hid ⟨hP.store,hP.tens.weaken (fun b hb _=>hb)⟩
 have hP0:=hid (hP.below b0)
 replace b0:=hid b0
 replace k0:=hid k0
 replace k1:=hid k1
 replace hok:=hid hok
 replace hwho:=hid hwho
 replace hq:=hid hq
 have h60':decide ((60:Int)<(q:Int))=false:=by simp; omega
 replace h60:=hid h60
 clear hP
 go_enter Tryz.func8,Tryz.ntmps8
 go_upto_region 1 with fail
 generalize (w.alloc (.cells #[.slice pa n c,.slice ta tn tc] 27)).alloc (.cells #[.slice none 0 0,.slice none 0 0] 27)=w0 at *
 have p0:=k0.out.cell 0
 have p1:=k0.out.cell 1
 simp at p0 p1
 go_wp2_with fail
 refine(jN Q pa n c B ta tn tc l w0 hP0.out).mono ?_
 rintro e w1 ⟨⟨e1,rfl,he1⟩,b1⟩
 obtain rfl:e1=0:=he1.2 hok.out
 replace b0:=hid (Below.tr b0.out b1)
 replace k0:=hid (k0.out.below b1)
 replace k1:=hid (k1.out.below b1)
 clear b1 p0 p1 hP0 he1
 have p0:=k0.out.cell 0
 have p1:=k0.out.cell 1
 simp at p0 p1
 go_wp2_with fail
 refine(uQ w.heap.size pa n c B ta tn tc l w1 b0.out.size (hPK.out.below b0.out) hok.out).mono ?_
 rintro e w3 ⟨⟨g,ta', tc', L,rfl,hg,hO,hM,hL,hr⟩,b3⟩
 have hPS:=hid (bA6 hg hO hM hr)
 replace hL:=hid hL
 replace b3:=hid b3
 clear p0 p1 hg hO hM hr
 go_upto_region 9 with fail
 have hz7:Hid ((w3.alloc (.cells #[.slice (some ⟨g,0,none⟩) n n,.slice ta' tn tc'] 27)).heap.size=w3.heap.size+1):=hid (by simp)
 have hB7:=hid (aA w3 (.cells #[.slice (some ⟨g,0,none⟩) n n,.slice ta' tn tc'] 27))
 generalize w3.alloc (.cells #[.slice (some ⟨g,0,none⟩) n n,.slice ta' tn tc'] 27)=w7 at *
 obtain⟨cs,hmk,hA⟩:=cB9 q h60.out w7
 replace hA:=hid hA
 go_wp2_with fail
 have hI:Hid (bX6 w1.heap.size (fun b=>((w.heap.size<=b/\b<w1.heap.size)\/b=w3.heap.size)\/b=w7.heap.size) w1 (w7.alloc (.cells cs 41)) w3.heap.size w7.heap.size n q B l (who.zip ql) ta' tn tc' 0 g B L (fun _=>kY.zero) []):=hid (by
  have bA:=aA w7 (.cells cs 41)
  have z7:=hz7.out
  have l3:=b3.out.size
  refine⟨(b3.out.trans (hB7.out.mono l3)).trans (bA.mono (by omega)),hPS.out.clear bA (fun b y=>by
   rcases y with y | ⟨i,y⟩
   ·exact y.elim .inl (fun y=>.inr ⟨by omega,by rw[szB]; omega⟩)
   ·exact(vG y).elim) (.inl (.inl (.inr rfl))),hA.out,fun _ _=>rfl,by rw[hL.out]; exact hok.out,?_,rfl,fun i hi=>absurd hi (by omega),.inr rfl,by omega,by omega⟩
  rw[hL.out]
  exact .nil)
 have hn37:Hid (w3.heap.size≠w7.heap.size):=hid (by have:=hz7.out; omega)
 clear hPS hA hL hmk
 generalize w7.alloc (.cells cs 41)=w8 at *
 go_loopw [37] (fun u wr=>∃ (k g:Nat) (D:Nat->Blk) (L:List aY) (v:Nat->kY) (ys:List iX),k<=q/\u=.int .i64 k/\bX6 w1.heap.size (fun b=>((w.heap.size<=b/\b<w1.heap.size)\/b=w3.heap.size)\/b=w7.heap.size) w1 wr w3.heap.size w7.heap.size n q B l (who.zip ql) ta' tn tc' k g D L v ys) (fun u _=>q-(Go.RowKit.intOf u).toNat)
 case atStart=>exact⟨0,g,B,L,_,_,Nat.zero_le _,rfl,hI.out⟩
 case round=>
  clear hI
  obtain⟨k,g,D,L,v,ys,hk,rfl,hI⟩:=hrel
  by_cases hlt:k<q
  ·have hbw:Hid (Below w.heap.size w wr):=hid (b0.out.trans (hI.bel.mono b0.out.size))
   have hx:=hid (cN8 hwho.out hq.out hlt)
   obtain⟨qb,qo,rfl,hqb,hqc⟩:=(hq.out.below hbw.out).2 (by omega)
   obtain⟨wb,wo,rfl,hwb,_,hwc⟩:=(hwho.out).2.2 (by omega)
   obtain⟨ba,bn,bc,hAsk⟩:=hqc k hlt
   have c0:=hAsk.c0
   have c1:=hAsk.c1
   have c2:=hAsk.c2
   have c3:=hAsk.c3
   have c4:=hAsk.c4
   have c5:=hAsk.c5
   have c6:=hAsk.c6
   have u0:=(hbw.out.cell (p:=⟨wb,wo+k,none⟩) hwb).trans (hwc k hlt)
   have hao:=hAsk.ok
   have hNb:=hid hAsk.bytes
   have hib:=hid (hwho.out.bd (hwho.out.getD hlt))
   clear hAsk hqc hwc
   generalize ql.getD k aP.zero=a at *
   generalize who.getD k 0=i at *
   have b5:=hid (aA wr (.cells #[.int .i64 a.kind,.string a.set,.string a.file,.string a.to,.int .i64 a.pos,.int .i64 a.num,.slice ba bn bc] 30))
   have k5:Hid (aC _ wr.heap.size #[.int .i64 a.kind,.string a.set,.string a.file,.string a.to,.int .i64 a.pos,.int .i64 a.num,.slice ba bn bc] 30):=hid (aB wr _ _)
   have g5:∀ o,(wr.alloc o).cell? ⟨wb,wo+k,none⟩=wr.cell? ⟨wb,wo+k,none⟩:=fun o=>World.cell?_alloc_past _ _ _ (Nat.lt_of_lt_of_le hwb hbw.out.size)
   have hk0:(0:Int)<=(k:Int):=by omega
   have hkI:(k:Int)<(q:Int):=by omega
   replace hI:=hid hI
   have hw64:Hid (wrap64 ((k:Int)+1)=(k:Int)+1):=hid (by have:=h60.out; unfold wrap64; omega)
   replace hlt:=hid hlt
   replace hqb:=hid hqb
   replace hwb:=hid hwb
   go_upto_region 13 with fail
   have hI5:=hid (hI.out.below b5.out)
   have hN5:=hid (hNb.out.below b5.out)
   clear c0 c1 c2 c3 c4 c5 c6
   rw[<-g5 (.cells #[.int .i64 a.kind,.string a.set,.string a.file,.string a.to,.int .i64 a.pos,.int .i64 a.num,.slice ba bn bc] 30)] at u0
   have n5:Hid (wr.heap.size<(wr.alloc (.cells #[.int .i64 a.kind,.string a.set,.string a.file,.string a.to,.int .i64 a.pos,.int .i64 a.num,.slice ba bn bc] 30)).heap.size):=hid (by rw[szB]; omega)
   clear g5 hNb
   generalize wr.alloc (.cells #[.int .i64 a.kind,.string a.set,.string a.file,.string a.to,.int .i64 a.pos,.int .i64 a.num,.slice ba bn bc] 30)=w5 at *
   have o0:=hI5.out.st.box.cell 0
   have o1:=hI5.out.st.box.cell 1
   simp only[List.getElem?_toArray,List.getElem?_cons_zero,List.getElem?_cons_succ] at o0 o1
   have lo:=hid hI5.out.st.box.lt
   have Lw5:Hid (wb<w5.heap.size):=hid (Nat.lt_of_lt_of_le hwb.out (Nat.le_trans hbw.out.size b5.out.size))
   go_region_held3 (fun w'=>w'.cell? ⟨w3.heap.size,0,none⟩=some (.slice (some ⟨g,0,none⟩) n n)/\w'.cell? ⟨w3.heap.size,1,none⟩=some (.slice ta' tn tc')/\w'.cell? ⟨wb,wo+k,none⟩=some (.int .i64 i)) (first | go_keep | assumption) (first | (go_at_call 19; refine Calls.mono (aA3 (some ⟨g,0,none⟩) n n ta' tn tc' i _) ?_; rintro e w6 ⟨⟨bb,rfl,hbb⟩,b6⟩; replace b6:Below w5.heap.size w5 w6:=(aD _ _).trans b6; have s0:=(b6.cell (p:=⟨w3.heap.size,0,none⟩) lo.out).trans o0; have s1:=(b6.cell (p:=⟨w3.heap.size,1,none⟩) lo.out).trans o1; have s2:=(b6.cell (p:=⟨wb,wo+k,none⟩) Lw5.out).trans u0; replace b6:=hid b6; replace hbb:=hid hbb))
   have hI6:=hid (hI5.out.below b6.out)
   have hN6:=hid (hN5.out.below b6.out)
   have kA6:=hid (k5.out.below b6.out)
   have n6:=hid (Nat.lt_of_lt_of_le n5.out b6.out.size)
   clear u0 o0 o1 s0 s1 hI5 hN5 k5 n5 lo
   have u0:=s2
   clear s2
   obtain⟨v0,v1,v2,v3⟩:=hI6.out.ans.cells hlt.out
   have f0:=hI6.out.ans.free (k*4)
   cases bb
   case false=>
    have hno:Hid (¬(0<=i/\i<(tn:Int))):=hid (by simpa using hbb.out)
    clear hbb v1 v2 v3
    go_wp2_with fail
    go_roundw
    case rel=>exact⟨k+1,g,D,L,_,_,hlt.out,by rw[hw64.out]; push_cast; rfl,hI6.out.miss hlt.out hx.out hno.out⟩
    case measure=>have:=hlt.out; rw[hw64.out]; simp[Go.RowKit.intOf]; omega
   have hyes:0<=i/\i<(tn:Int):=by simpa using hbb.out
   obtain⟨j,rfl⟩:∃ j:Nat,i=(j:Int):=⟨i.toNat,by omega⟩
   obtain⟨tb,rfl⟩:=cG9 hI6.out.st.mine (by omega)
   obtain⟨m,hm⟩:∃ m,L[j]? =some m:=by
    have hlen:=hI6.out.st.mine.len
    exact⟨_,List.getElem?_eq_getElem (by omega)⟩
   replace hm:=hid hm
   have hj0:(0:Int)<=(j:Int):=hyes.1
   have hjI:(j:Int)<(tn:Int):=hyes.2
   clear hyes hbb v0 v1 v2 v3 f0
   have o1:=hI6.out.st.box.cell 1
   have a0:=kA6.out.cell 0
   have a1:=kA6.out.cell 1
   have a2:=kA6.out.cell 2
   have a3:=kA6.out.cell 3
   have a4:=kA6.out.cell 4
   have a5:=kA6.out.cell 5
   have a6:=kA6.out.cell 6
   simp only[List.getElem?_toArray,List.getElem?_cons_zero,List.getElem?_cons_succ] at o1 a0 a1 a2 a3 a4 a5 a6
   obtain⟨XX,hXX⟩:∃ XX,XX=XR (fun b=>((w.heap.size<=b/\b<w1.heap.size)\/b=w3.heap.size)\/b=w7.heap.size) v:=⟨_,rfl⟩
   have HP6:=hid (hI6.out.st.below (aD _ _))
   rw[<-hXX] at HP6
   replace hXX:=hid hXX
   have HN6:=hid (hN6.out.below (aD _ _))
   have hok6:=hid hI6.out.ok
   have hRge:=hid hI6.out.xrb.2.2
   have hobr:Hid (w3.heap.size<wr.heap.size):=hid hI.out.st.box.lt
   have HnR:Hid (¬PM w3.heap.size tb tn tc' L w7.heap.size):=hid (fun f=>by
    rcases f with f | f
    ·have:=hI6.out.xrb.2.1; omega
    ·exact hI6.out.st.mine.rx _ f (.inl hI6.out.xrb.1))
   have HnA:Hid (¬PM w3.heap.size tb tn tc' L wr.heap.size):=hid (fun f=>by
    rcases f with f | f
    ·have:=hobr.out; omega
    ·have:=(hI.out.st.mine.ge f).2; omega)
   have Lw:Hid (wb<w1.heap.size):=hid (Nat.lt_of_lt_of_le hwb.out b0.out.size)
   have nr3:=hn37.out
   have nr3':=nr3.symm
   have nrA:wr.heap.size≠w7.heap.size:=by have:=hI.out.ans.lt; omega
   have nrA':=nrA.symm
   have nrW:wb≠w7.heap.size:=by have:=Lw.out; have:=hRge.out; omega
   have nrW':=nrW.symm
   go_upto_region 15 with fail
   go_region_held3 (fun w'=>w'.cell? ⟨w3.heap.size,1,none⟩=some (.slice (some ⟨tb,0,none⟩) tn tc')/\w'.cell? ⟨wb,wo+k,none⟩=some (.int .i64 (j:Int))/\w'.cell? ⟨wr.heap.size,0,none⟩=some (.int .i64 a.kind)/\w'.cell? ⟨wr.heap.size,1,none⟩=some (.string a.set)/\w'.cell? ⟨wr.heap.size,2,none⟩=some (.string a.file)/\w'.cell? ⟨wr.heap.size,3,none⟩=some (.string a.to)/\w'.cell? ⟨wr.heap.size,4,none⟩=some (.int .i64 a.pos)/\w'.cell? ⟨wr.heap.size,5,none⟩=some (.int .i64 a.num)/\w'.cell? ⟨wr.heap.size,6,none⟩=some (.slice ba bn bc)) (first | go_keep | assumption) (first | (go_at_call 20; with_reducible refine Calls.mono (sP w1.heap.size XX w3.heap.size g n D tb tn tc' L j m a ba bn bc (w6.drew) HP6.out hm.out hok6.out hao HN6.out) ?_; rintro e w9 hret; unfold uU at hret; obtain⟨e1,N,ya,yn,yc,y,ln,lc,g', D', L', rfl,bH,on,hP8,hc,hrd,hrf⟩:=hret; replace bH:Below w1.heap.size w6 w9:=(aD _ _).trans bH; replace on:Only (PM w3.heap.size tb tn tc' L) w6 w9:=(Only.of_below (aD _ _)).trans on; have o1:=hP8.box.cell 1; have kA8:=on.cells kA6.out HnA.out; have s0:=kA8.cell 0; have s1:=kA8.cell 1; have s2:=kA8.cell 2; have s3:=kA8.cell 3; have s4:=kA8.cell 4; have s5:=kA8.cell 5; have s6:=kA8.cell 6; simp only[List.getElem?_toArray,List.getElem?_cons_zero,List.getElem?_cons_succ] at o1 s0 s1 s2 s3 s4 s5 s6; have u9:=(bH.cell (p:=⟨wb,wo+k,none⟩) Lw.out).trans u0; have hans:=hI6.out.ans.only on HnR.out; obtain⟨v0,v1,v2,v3⟩:=hans.cells hlt.out; have f0:=hans.free (k*4); have f1:=hans.free (k*4+1); have f2:=hans.free (k*4+2); have f3:=hans.free (k*4+3); clear hans kA8; replace bH:=hid bH; replace on:=hid on; replace hP8:=hid hP8; replace hc:=hid hc; replace hrd:=hid hrd; replace hrf:=hid hrf))
   have hfin:=hid (hI6.out.step hlt.out hx.out hm.out hN6.out.bytes bH.out on.out (by have:=hP8.out; rw[hXX.out] at this; exact this) hc.out hrd.out (by have:=hrf.out; rw[hXX.out] at this; exact this))
   clear o1 a0 a1 a2 a3 a4 a5 a6 s0 s1 s2 s3 s4 s5 s6 v0 v1 v2 v3 f0 f1 f2 f3
   go_wp2_with fail
   go_roundw
   case rel=>exact⟨k+1,g', D', L', _,_,hlt.out,by rw[hw64.out]; push_cast; rfl,hfin.out⟩
   case measure=>have:=hlt.out; rw[hw64.out]; simp[Go.RowKit.intOf]; omega
  ·obtain rfl:k=q:=by omega
   have k1r:=hid (k1.out.below hI.bel)
   have r0:=k1r.out.cell 0
   have r1:=k1r.out.cell 1
   have z0:=k1r.out.frozen 0
   have z1:=k1r.out.frozen 1
   have o0:=hI.st.box.cell 0
   have o1:=hI.st.box.cell 1
   simp only[List.getElem?_toArray,List.getElem?_cons_zero,List.getElem?_cons_succ] at r0 r1 o0 o1
   have l1:w.heap.size+1<w1.heap.size:=k1.out.lt
   have hge:=hI.xrb.2.2
   have n1:w.heap.size+1≠w3.heap.size:=by have:=hI.st.hob; omega
   have n1':=n1.symm
   have hfin:bE4 (.returned (.tuple #[.agg #[.slice (some ⟨g,0,none⟩) n n,.slice ta' tn tc'],.slice (some ⟨w7.heap.size,0,none⟩) k k,.int .i64 0])) (uZ wr (w.heap.size+1) (.slice (some ⟨g,0,none⟩) n n) (.slice ta' tn tc')) n B tn l k (who.zip ql)/\Below w.heap.size w (uZ wr (w.heap.size+1) (.slice (some ⟨g,0,none⟩) n n) (.slice ta' tn tc')):=by
    have kk:=iD wr (w.heap.size+1) (.slice (some ⟨g,0,none⟩) n n) (.slice ta' tn tc')
    have hzl:(who.zip ql).take k=who.zip ql:=List.take_of_length_le (by rw[List.length_zip,hwho.out.1,hq.out.1]; omega)
    have hrun:=hI.runs
    rw[hzl] at hrun
    exact⟨⟨g,ta', tc', w7.heap.size,D,L.map aY.e,v,ys,rfl,(hI.st.kept kk (.inl (.inl (.inl ⟨by omega,l1⟩))) n1).pool,hI.ans.only (Only.of_kept (M:=fun b=>b=w.heap.size+1) kk rfl) (by omega),hI.ok,hrun,hI.len,fun i hi=>((hI.told i hi).kept (fun b q=>by omega) kk).weaken (fun _ _ _=>trivial)⟩,(b0.out.trans (hI.bel.mono b0.out.size)).trans (kk.below (by omega))⟩
   replace hfin:=hid hfin
   replace hI:=hid hI
   replace hge:=hid hge
   replace l1:=hid l1
   clear hn37
   go_wp2_with fail
   refine bodyPost_ret (v:=.tuple #[.agg #[.slice (some ⟨g,0,none⟩) n n,.slice ta' tn tc'],.slice (some ⟨w7.heap.size,0,none⟩) k k,.int .i64 0]) (by rw[bG rfl]; go_simp) rfl ?_
   exact hfin.out
def cN6 (n:Nat)(B:Nat->Blk)(l:List aO)(e0:Int):Prop:=(e0=0↔aQ n B l)/\∀ (pa:Option Addr) (c:Nat) (ta:Option Addr) (tn tc:Nat) (w:World),fE (fun _=>True) w pa n B ta tn l->Calls Tryz.prog 14 #[.agg #[.slice pa n c,.slice ta tn tc]] w fun e w'=>e=.returned (.int .i64 e0)/\Below w.heap.size w w'
theorem bA8 (pa:Option Addr)(n c:Nat)(B:Nat->Blk)(ta:Option Addr)(tn tc:Nat)(l:List aO)(wa:Option Addr)(wn wc:Nat)(qa:Option Addr)(q qc:Nat)(e0:Int)(w:World)(hP:fE (fun _=>True) w pa n B ta tn l)(hc:cN6 n B l e0)(h0:e0≠0):
 Calls Tryz.prog 8 #[.agg #[.slice pa n c,.slice ta tn tc],.slice wa wn wc,.slice qa q qc] w fun e w'=>e=.returned (.tuple #[.agg #[.slice none 0 0,.slice none 0 0],.slice none 0 0,.int .i64 e0])/\Below w.heap.size w w':=by
 have b0:=aW w (.cells #[.slice pa n c,.slice ta tn tc] 27) (.cells #[.slice none 0 0,.slice none 0 0] 27)
 have k0:aC _ w.heap.size #[.slice pa n c,.slice ta tn tc] 27:=(aB w _ _).below (aA _ (.cells #[.slice none 0 0,.slice none 0 0] 27))
 have k1:=aF w (.cells #[.slice pa n c,.slice ta tn tc] 27) #[.slice none 0 0,.slice none 0 0] 27
 have hP0:=hid (hP.below b0)
 replace b0:=hid b0
 replace k0:=hid k0
 replace k1:=hid k1
 replace hc:=hid hc
 clear hP
 go_enter Tryz.func8,Tryz.ntmps8
 go_upto_region 1 with fail
 generalize (w.alloc (.cells #[.slice pa n c,.slice ta tn tc] 27)).alloc (.cells #[.slice none 0 0,.slice none 0 0] 27)=w0 at *
 have p0:=k0.out.cell 0
 have p1:=k0.out.cell 1
 simp at p0 p1
 go_wp2_with fail
 refine(hc.out.2 pa c ta tn tc w0 hP0.out).mono ?_
 rintro e w1 ⟨rfl,b1⟩
 replace b0:=hid (Below.tr b0.out b1)
 replace k1:=hid (k1.out.below b1)
 clear b1 p0 p1 hP0 k0
 have r0:=k1.out.cell 0
 have r1:=k1.out.cell 1
 have z0:=k1.out.frozen 0
 have z1:=k1.out.frozen 1
 simp only[List.getElem?_toArray,List.getElem?_cons_zero,List.getElem?_cons_succ] at r0 r1
 go_wp2_with fail
 refine bodyPost_ret (v:=.tuple #[.agg #[.slice none 0 0,.slice none 0 0],.slice none 0 0,.int .i64 e0]) (by rw[bG rfl]; go_simp) rfl ?_
 exact⟨rfl,b0.out.trans ((iD _ _ _ _).below (by omega))⟩
theorem aS1:∀ (M L:List Int),M.Nodup->(∀ x∈M,x∈L)->M.length<=L.length
 | [],_,_,_=>Nat.zero_le _
 | a::M,L,hn,h=>by
   have ha:=h a (by simp)
   have hn':=List.nodup_cons.1 hn
   have h1:=aS1 M (L.erase a) hn'.2 (fun x hx=>(List.mem_erase_of_ne (fun (e:x=a)=>hn'.1 (e▸hx))).2 (h x (by simp[hx])))
   rw[List.length_erase_of_mem ha] at h1
   have h2:=List.length_pos_of_mem ha
   simp only[List.length_cons]
   omega
def aR4 (D:Nat->Blk):Nat->List Int
 | 0=>[]
 | k+1=>if 0<(D k).refs then ((k:Int)+1)::aR4 D k else aR4 D k
theorem aI9 (D:Nat->Blk):∀ n,(aR4 D n).length=cO D n
 | 0=>rfl
 | n+1=>by
   have h1:=aI9 D n
   rw[dW,<-h1]
   rw[aR4]
   split<;>simp
theorem aL6 (D:Nat->Blk):∀ (n k:Nat),k<n->0<(D k).refs->((k:Int)+1)∈aR4 D n
 | 0,k,h,_=>absurd h (by omega)
 | n+1,k,h,h0=>by
   unfold aR4
   by_cases e:k=n
   ·subst e
    rw[if_pos h0]
    simp
   ·have:=aL6 D n k (by omega) h0
    split
    ·exact List.mem_cons_of_mem _ this
    ·exact this
theorem bM6 {n:Nat}{D:Nat->Blk}(hR:Right n D){x:Int}(h:There n D x):∃ k:Nat,k<n/\x=(k:Int)+1/\0<(D k).refs:=by
 obtain⟨h1,h2,h3⟩:=h
 refine⟨(x-1).toNat,by omega,by omega,?_⟩
 have:=hR.held (x-1).toNat (by omega)
 omega
theorem bM0 {n:Nat}{D:Nat->Blk}{R:List Int}{q:Int}(hR:Right n D)(hr:bE n D R)(h:qU D R q):q<=(cO D n:Int):=by
 obtain⟨L,l1,l2,rfl⟩:=h
 have hn:L.Nodup:=l1.imp (fun h=>by omega)
 have:=aS1 L (aR4 D n) hn (fun x hx=>by
  obtain⟨k,h1,rfl,h2⟩:=bM6 hR (Clo.there hR hr ((l2 x).1 hx))
  exact aL6 D n k h1 h2)
 rw[aI9] at this
 omega
theorem cI9 {n:Nat}{D:Nat->Blk}{R:List Int}{q r:Int}(hR:Right n D)(h:qU D R q)(hrR:r∈R)(hr:Root n D 3 r)(h0:aH D 3 r 0≠[])(h2:aH D 3 r 2≠[])(hne:aH D 3 r 0≠aH D 3 r 2):5<=q:=by
 obtain⟨L,l1,l2,rfl⟩:=h
 have e0:aH D 3 r 0=bytesL D ((kidsL D ((kidsL D ((kidsL D r).getD 0 0)).getD 0 0)).getD 0 0):=by
  simp only[aH,pw]
 have e2:aH D 3 r 2=bytesL D ((kidsL D ((kidsL D ((kidsL D r).getD 0 0)).getD 0 0)).getD 2 0):=by
  simp only[aH,pw]
 rw[e0] at h0 hne
 rw[e2] at h2 hne
 generalize hb:(kidsL D r).getD 0 0=b at *
 generalize hc:(kidsL D b).getD 0 0=c at *
 generalize hd:(kidsL D c).getD 0 0=d at *
 generalize he:(kidsL D c).getD 2 0=e at *
 have d0:d≠0:=fun f=>by rw[f] at h0; exact h0 (by simp[bytesL])
 have f0:e≠0:=fun f=>by rw[f] at h2; exact h2 (by simp[bytesL])
 have c0:c≠0:=fun f=>by rw[f,jV] at hd; exact d0 hd.symm
 have b0:b≠0:=fun f=>by rw[f,jV] at hc; exact c0 hc.symm
 have r0:r≠0:=fun f=>by rw[f,jV] at hb; exact b0 hb.symm
 have hde:d≠e:=fun f=>hne (by rw[f])
 have step:∀ (x y:Int) (i:Nat),x≠0->There n D x->(kidsL D x).getD i 0=y->y≠0->y∈(D (x-1).toNat).kids/\There n D y/\(D (y-1).toNat).level=(D (x-1).toNat).level-1:=by
  intro x y i hx0 hx hy hy0
  unfold kidsL at hy
  rw[if_neg hx0] at hy
  have hm:y∈(D (x-1).toNat).kids:=by
   rw[List.getD_eq_getElem?_getD] at hy
   cases hg:(D (x-1).toNat).kids[i]? with
   | none=>rw[hg] at hy; exact absurd hy.symm hy0
   | some z=>rw[hg] at hy; obtain rfl:z=y:=hy; exact List.mem_of_getElem? hg
  have:=(hR.one (x-1).toNat (by have:=hx.1; have:=hx.2.1; omega)).kids y hm
  rcases this with f | ⟨f1,f2⟩
  ·exact absurd f hy0
  ·exact⟨hm,f1,f2⟩
 rcases hr with f | ⟨tr,lr⟩
 ·exact absurd f r0
 obtain⟨mb,tb,lb⟩:=step r b 0 r0 tr hb b0
 obtain⟨mc,tc,lc⟩:=step b c 0 b0 tb hc c0
 obtain⟨md,td,ld⟩:=step c d 0 c0 tc hd d0
 obtain⟨me,te,le⟩:=step c e 2 c0 tc he f0
 have cr:Clo D R r:=Clo.root hrR r0
 have cb:=cr.kid mb b0
 have cc:=cb.kid mc c0
 have cd:=cc.kid md d0
 have ce:=cc.kid me f0
 have:=aS1 [r,b,c,d,e] L (by
  simp only[List.nodup_cons,List.mem_cons,List.not_mem_nil,or_false,not_or,List.nodup_nil,and_true,not_false_eq_true]
  refine⟨⟨?_,?_,?_,?_⟩,⟨?_,?_,?_⟩,⟨?_,?_⟩,hde⟩<;>(intro f; subst f; omega)) (fun x hx=>by
  simp only[List.mem_cons,List.not_mem_nil,or_false] at hx
  rcases hx with rfl | rfl | rfl | rfl | rfl
  ·exact(l2 _).2 cr
  ·exact(l2 _).2 cb
  ·exact(l2 _).2 cc
  ·exact(l2 _).2 cd
  ·exact(l2 _).2 ce)
 simp only[List.length_cons,List.length_nil] at this
 omega
theorem wD {C D:Nat->Blk}:∀ {n:Nat},(∀ i,i<n->0<(D i).refs->0<(C i).refs)->cO D n<=cO C n
 | 0,_=>Nat.le_refl _
 | n+1,h=>by
   have h1:=wD (n:=n) (fun i hi=>h i (by omega))
   have h2:=h n (by omega)
   rw[dW,dW]
   split<;>split<;>first | omega | (rename_i f g; exact absurd (h2 f) g)
theorem wC:∀ n,cO (fun _=>Blk.zero) n=0
 | 0=>rfl
 | n+1=>by rw[dW,wC n]; rfl
theorem aP3 {n:Nat}{B D:Nat->Blk}{key:Int}{x y:aK}{a:aP}{cc:Int}(hx:aV n B key x)(hh:dY n B (aG x))(hb:Bytes a.bytes)(hc:∀ k,k<n->(B k).refs<=cc)(hcc:cc+iP a+24<=1000000)(h:Did n B key x a cc D y)(hk:a.kind=3):
 ∃ (root size made:Int) (C:Nat->Blk),tX x a.file root size made ((pJ key B a root size).length:Int) y/\eT n B C key root (aR key (aH B 3 root)) (bU (pJ key B a root size)) 64 made cc/\Right n D/\cO D n<=cO C n/\(∀ e∈kK y,aR key (aH D 3 e.root)=aR key (aH C 3 e.root))/\aV n D key y/\aR key (aH C 3 made)=bU (pJ key B a root size):=by
 obtain⟨C,made,hY,hD,hF⟩:=h
 have hch:=hY.chg hx hb hc
 have hdone:=hch.done hx hh hcc hD hF
 rcases hY with⟨_,hn,ho,root,size,hok,hT,ht⟩ | ⟨f,_⟩ | ⟨f,_,_⟩
 ·have hN:=sQ (key:=key) (B:=B) hb ho root size
  refine⟨root,size,made,C,ht,hT,hD,wD (fun i hi h0=>?_),hdone.2.1,hdone.1.ok,(hT.file hok hN.1 hN.2).2.1⟩
  rcases hF.same i hi with f | ⟨r1,r2,_⟩
  ·rw[f] at h0; exact absurd h0 (by simp[Blk.zero])
  ·rw[fO] at r2
   have hge:=hT.turned.right.held i hi
   by_cases e:0<(C i).refs
   ·exact e
   ·have hpos:0<(aG y).count ((i:Int)+1):=by omega
    rcases hch.there _ (List.count_pos_iff.1 hpos) with g | g
    ·omega
    ·have:=g.2.2
     have e':((i:Int)+1-1).toNat=i:=by omega
     rw[e'] at this
     omega
 ·omega
 ·rcases f with⟨f,_⟩ | ⟨f,_⟩ | ⟨f,_⟩ | ⟨f,_⟩ | ⟨f,_⟩<;>omega
end Go.Proofs.YtjafgnohlkkopaaGreatDoor
