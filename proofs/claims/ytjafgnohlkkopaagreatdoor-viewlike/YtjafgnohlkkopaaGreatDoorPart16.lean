/-
  FileG, FileH, FileI in one text. Nothing here is trusted.
-/
import Derived.Test.YtjafgnohlkkopaaGreatDoorPart15
import Derived.Lib.Bytes
set_option linter.unusedVariables false
namespace Go.Proofs.YtjafgnohlkkopaaGreatDoor
open Go.RowKit
def LeafTurned (n:Nat) (C:Nat→Blk) (key root:Int) (i:Nat) (p:List Int) (cc:Int) (E:Nat→Blk) (a':Int):Prop:=
 ∃ D,PutOk n C 3 root i (leafFor key i p) cc D a'∧((root=0∧E=D)∨(∃ m:Nat,root=(m:Int)+1∧Right n E∧Fell n D E [(m:Int)+1]))
def RetTL (base:Nat) (e:Ending) (w:World) (n:Nat) (C:Nat→Blk) (key root:Int) (i:Nat) (p:List Int) (cc:Int):Prop:=
 ∃ (x:Option Addr) (ln lc:Nat) (a' e':Int),e=.returned (.tuple #[.agg #[.slice x ln lc],.int .i64 a', .int .i64 e'])∧
  ((x=none∧ln=0∧lc=0∧a'=0∧e'=8∧n≤usedTo C n+3)∨(e'=0∧∃ (g:Nat) (E:Nat→Blk),x=some ⟨g,0,none⟩∧ln=n∧lc=n∧LeafTurned n C key root i p cc E a'∧base≤g∧Own w g n E))
theorem Own.kept {w w':World} {g n q:Nat} {B:Nat→Blk} (h:Own w g n B) (hq:q<g) (hk:Kept q w w'):Own w' g n B:=
 ⟨by rw[hk.size]; exact h.lt,h.blocks.kept (by omega) (fun b h=>by omega) hk,fun i hi=>(hk.frozen (p:=⟨g,i,none⟩) (by show g≠_; omega)).trans (h.free i hi)⟩
set_option maxHeartbeats 4000000 in
set_option maxRecDepth 100000 in
theorem turnLeaf_any (a:Option Addr) (n c:Nat) (C:Nat→Blk) (key root:Int) (i:Nat) (ba:Option Addr) (bc:Nat) (p:List Int) (cc:Int) (w:World) (h:StoreAt w a n C) (hR:Right n C) (hr:Root n C 3 root) (hi:i<64) (hk:0≤key∧key≤1000)
 (hp:NumsAt (fun _=>True) .u8 w ba 4 p) (h1:1≤cc) (hcm:cc≤999984) (hc:∀ k,k<n→(C k).refs≤cc) (hd:∀ (m:Nat) (D:Nat→Blk) (a':Int),root=(m:Int)+1→PutOk n C 3 root i (leafFor key i p) cc D a'→Droppable n D ((m:Int)+1)):
 Calls Tryz.prog 186 #[.agg #[.slice a n c],.int .i64 key,.int .i64 root,.int .i64 i,.slice ba 4 bc] w fun e w'=>RetTL w.heap.size e w' n C key root i p cc∧Below w.heap.size w w':=by
 have b0:=below_two w (.cells #[.slice a n c] 24) (.cells #[.slice none 0 0] 24)
 have ks:CellsAt _ w.heap.size #[.slice a n c] 24:=(cellsAt_alloc w _ _).below (below_alloc _ (.cells #[.slice none 0 0] 24))
 have kr:CellsAt _ (w.heap.size+1) #[.slice none 0 0] 24:=cellsAt_alloc2 w (.cells #[.slice a n c] 24) _ _
 have hsz:w.heap.size+2=((w.alloc (.cells #[.slice a n c] 24)).alloc (.cells #[.slice none 0 0] 24)).heap.size:=by simp
 have hp4:=hp.1
 have h04:=hid (leafFor_04 (key:=key) (i:=i) hp4)
 have hch:Hid (Checked n C root 3 i):=hid ⟨hR,3,by omega,rfl,hr,by omega,by show (i:Int)<((64:Nat):Int); omega⟩
 have hrd:root=0∨∃ m:Nat,root=(m:Int)+1:=by
  rcases hr with h0 | ⟨⟨h1,_,_⟩,_⟩
  ·exact .inl h0
  ·exact .inr ⟨(root-1).toNat,by omega⟩
 replace hrd:=hid hrd
 replace b0:=hid b0
 replace ks:=hid ks
 replace kr:=hid kr
 replace hsz:=hid hsz
 replace h:=hid h
 replace hp:=hid hp
 replace hc:=hid hc
 replace hd:=hid hd
 replace hk:=hid hk
 clear hR hr
 go_enter Tryz.func186,Tryz.ntmps186
 go_wp2_with fail
 generalize (w.alloc (.cells #[.slice a n c] 24)).alloc (.cells #[.slice none 0 0] 24)=w0 at *
 refine(isNoughts_any ba 4 bc p (fun _=>True) w0 (by omega) (hp.out.below b0.out)).mono ?_
 rintro e w1 ⟨⟨rfl,hz⟩ | ⟨rfl,hz⟩,rfl⟩
 ·have hLf:Hid (NumsAt (fun _=>True) .u8 w1 none 0 (leafFor key i p)):=hid (by
   have e:leafFor key i p=[]:=by unfold leafFor; rw[if_pos (four_zero hp4 hz)]
   rw[e]; exact numsAt_nil _ _ _ _)
  have s0:=ks.out.cell 0
  simp at s0
  replace hsz:Hid (w.heap.size+2≤w1.heap.size):=hid (Nat.le_of_eq hsz.out)
  clear hz hp
  go_wp2_with fail
  refine(treePutO_any a n c C root 3 i _ _ _ (leafFor key i p) cc _ (h.out.below b0.out) hLf.out (Nat.le_refl _) h1 hcm hc.out).mono ?_
  rintro e w3 ⟨hP,b3⟩
  have hg0:=hsz.out
  have hsz3:=b3.size
  replace kr:=hid (kr.out.below b3)
  have b03:=Below.tr b0.out b3
  clear hLf s0 ks b0 hsz
  rcases hP with⟨e', rfl,he,hfull⟩ | ⟨l,j,D,a', g,rfl,hl3,hij,hl,hj,_,_,_,hPut,hg,hOwn⟩
  ·obtain⟨rfl,hfu⟩:=hfull hch.out h04.out
   have bA:=below_alloc w3 (.cells #[.slice none 0 0] 24)
   have krA:=kr.out.below bA
   have r0:=krA.cell 0
   have r1:=krA.frozen 0
   have b04:=hid (Below.tr b03 bA)
   have hfu':Hid (n≤usedTo C n+3):=hid (by omega)
   clear hfull he bA krA b3 hfu b03
   go_wp2_with fail
   refine bodyPost_ret (v:=.tuple #[.agg #[.slice none 0 0],.int .i64 0,.int .i64 8]) (by rw[results_cell_tmps rfl]; go_simp) rfl ⟨⟨none,0,0,0,8,rfl,.inl ⟨rfl,rfl,rfl,rfl,rfl,hfu'.out⟩⟩,b04.out.setCell (by simp) _⟩
  ·obtain rfl:j=i:=by omega
   obtain rfl:l=3:=by omega
   have bA:=below_alloc w3 (.cells #[.slice (some ⟨g,0,none⟩) n n] 24)
   have kA:=cellsAt_alloc w3 #[.slice (some ⟨g,0,none⟩) n n] 24
   have hgl:=hOwn.lt
   have hOA:=hOwn.below bA
   have krA:=kr.out.below bA
   have b04:=Below.tr b03 bA
   replace hPut:=hid hPut
   clear hl3 hij hj hl bA hOwn b03 b3 hsz3
   rcases hrd.out with h0 | ⟨m,h0⟩
   ·subst h0
    have r0:=krA.cell 0
    have r1:=krA.frozen 0
    have kk:=Kept.setCell (g:=w.heap.size+1) (Kept.refl _ (w3.alloc (.cells #[.slice (some ⟨g,0,none⟩) n n] 24))) (p:=⟨w.heap.size+1,0,none⟩) rfl (.slice (some ⟨g,0,none⟩) n n)
    have hfin:=hid (hOA.kept (by omega) kk)
    replace b04:=hid b04
    clear kA krA hOA kk
    go_wp2_with fail
    refine bodyPost_ret (v:=.tuple #[.agg #[.slice (some ⟨g,0,none⟩) n n],.int .i64 a', .int .i64 0]) (by rw[results_cell_tmps rfl]; go_simp) rfl ⟨⟨_,n,n,a', 0,rfl,.inr ⟨rfl,g,D,rfl,rfl,rfl,⟨D,hPut.out,.inl ⟨rfl,rfl⟩⟩,by omega,hfin.out⟩⟩,b04.out.setCell (by simp) _⟩
   ·subst h0
    have hm0:(((m:Int)+1) == 0)=false:=by simp; omega
    have hP:OwnPtr (w3.alloc (.cells #[.slice (some ⟨g,0,none⟩) n n] 24)) ⟨w3.heap.size,0,none⟩ g n D:=⟨kA.lt,by show w3.heap.size≠g; omega,by simp,hOA⟩
    have hdr:=hid (hd.out m D a' rfl hPut.out)
    replace hP:=hid hP
    replace krA:=hid krA
    replace b04:=hid b04
    clear hOA kA
    go_wp2_with fail
    generalize w3.alloc (.cells #[.slice (some ⟨g,0,none⟩) n n] 24)=w4 at *
    refine(drop_any ⟨w3.heap.size,0,none⟩ g n D ((m:Int)+1) w4 hP.out).mono ?_
    rintro e w5 ⟨hD,hO⟩
    rcases hD with⟨e', _,_,hno⟩ | ⟨rfl,_,E,hE,hRE,hFE⟩
    ·exact absurd hdr.out hno
    have kr5:CellsAt w5 (w.heap.size+1) #[.slice none 0 0] 24:=(by unfold CellsAt; rw[hO.block _ krA.out.lt (by omega)]; exact krA.out)
    have r0:=kr5.cell 0
    have r1:=kr5.frozen 0
    have s5:=hE.cell
    simp at r0
    have kk:=Kept.setCell (g:=w.heap.size+1) (Kept.refl _ w5) (p:=⟨w.heap.size+1,0,none⟩) rfl (.slice (some ⟨g,0,none⟩) n n)
    have hfin:=hid (hE.own.kept (by omega) kk)
    have b5:=hid (b04.out.trans (hO.below (B:=w.heap.size) (by omega) (by have:=b04.out.size; omega)))
    replace hRE:=hid hRE
    replace hFE:=hid hFE
    clear hO hE kk kr5
    go_wp2_with fail
    refine bodyPost_ret (v:=.tuple #[.agg #[.slice (some ⟨g,0,none⟩) n n],.int .i64 a', .int .i64 0]) (by rw[results_cell_tmps rfl]; go_simp) rfl ⟨⟨_,n,n,a', 0,rfl,.inr ⟨rfl,g,E,rfl,rfl,rfl,⟨D,hPut.out,.inr ⟨m,rfl,hRE.out,hFE.out⟩⟩,by omega,hfin.out⟩⟩,b5.out.setCell (by simp) _⟩
 ·have hne:Hid (p≠[0,0,0,0]):=hid fun f=>hz (by rw[f]; intro x hx; simp at hx; exact hx)
  clear hz
  go_wp2_with fail
  refine(seal_ok key _ ba 4 bc p w1 (sealPlace_keyB hk.out hi) (by omega) (hp.out.below b0.out).bytesAt).mono ?_
  rintro e w2 ⟨g2,rfl,hB2,b2⟩
  rw[sealPlace_eq i] at hB2
  have hLf:Hid (NumsAt (fun _=>True) .u8 w2 (some ⟨g2,0,none⟩) 4 (leafFor key i p)):=hid (by
   have e:leafFor key i p=sealL key (sealPlace i) p:=by unfold leafFor; rw[if_neg hne.out]
   rw[e]; exact hB2.nums)
  replace ks:=hid (ks.out.below b2)
  replace kr:=hid (kr.out.below b2)
  replace hsz:Hid (w.heap.size+2≤w2.heap.size):=hid (Nat.le_trans (Nat.le_of_eq hsz.out) b2.size)
  replace b0:=hid (Below.tr b0.out b2)
  have s0:=ks.out.cell 0
  simp at s0
  clear hB2 b2 hp hne
  go_wp2_with fail
  refine(treePutO_any a n c C root 3 i _ _ _ (leafFor key i p) cc _ (h.out.below b0.out) hLf.out (Nat.le_refl _) h1 hcm hc.out).mono ?_
  rintro e w3 ⟨hP,b3⟩
  have hg0:=hsz.out
  have hsz3:=b3.size
  replace kr:=hid (kr.out.below b3)
  have b03:=Below.tr b0.out b3
  clear hLf s0 ks b0 hsz
  rcases hP with⟨e', rfl,he,hfull⟩ | ⟨l,j,D,a', g,rfl,hl3,hij,hl,hj,_,_,_,hPut,hg,hOwn⟩
  ·obtain⟨rfl,hfu⟩:=hfull hch.out h04.out
   have bA:=below_alloc w3 (.cells #[.slice none 0 0] 24)
   have krA:=kr.out.below bA
   have r0:=krA.cell 0
   have r1:=krA.frozen 0
   have b04:=hid (Below.tr b03 bA)
   have hfu':Hid (n≤usedTo C n+3):=hid (by omega)
   clear hfull he bA krA b3 hfu b03
   go_wp2_with fail
   refine bodyPost_ret (v:=.tuple #[.agg #[.slice none 0 0],.int .i64 0,.int .i64 8]) (by rw[results_cell_tmps rfl]; go_simp) rfl ⟨⟨none,0,0,0,8,rfl,.inl ⟨rfl,rfl,rfl,rfl,rfl,hfu'.out⟩⟩,b04.out.setCell (by simp) _⟩
  ·obtain rfl:j=i:=by omega
   obtain rfl:l=3:=by omega
   have bA:=below_alloc w3 (.cells #[.slice (some ⟨g,0,none⟩) n n] 24)
   have kA:=cellsAt_alloc w3 #[.slice (some ⟨g,0,none⟩) n n] 24
   have hgl:=hOwn.lt
   have hOA:=hOwn.below bA
   have krA:=kr.out.below bA
   have b04:=Below.tr b03 bA
   replace hPut:=hid hPut
   clear hl3 hij hj hl bA hOwn b03 b3 hsz3
   rcases hrd.out with h0 | ⟨m,h0⟩
   ·subst h0
    have r0:=krA.cell 0
    have r1:=krA.frozen 0
    have kk:=Kept.setCell (g:=w.heap.size+1) (Kept.refl _ (w3.alloc (.cells #[.slice (some ⟨g,0,none⟩) n n] 24))) (p:=⟨w.heap.size+1,0,none⟩) rfl (.slice (some ⟨g,0,none⟩) n n)
    have hfin:=hid (hOA.kept (by omega) kk)
    replace b04:=hid b04
    clear kA krA hOA kk
    go_wp2_with fail
    refine bodyPost_ret (v:=.tuple #[.agg #[.slice (some ⟨g,0,none⟩) n n],.int .i64 a', .int .i64 0]) (by rw[results_cell_tmps rfl]; go_simp) rfl ⟨⟨_,n,n,a', 0,rfl,.inr ⟨rfl,g,D,rfl,rfl,rfl,⟨D,hPut.out,.inl ⟨rfl,rfl⟩⟩,by omega,hfin.out⟩⟩,b04.out.setCell (by simp) _⟩
   ·subst h0
    have hm0:(((m:Int)+1) == 0)=false:=by simp; omega
    have hP:OwnPtr (w3.alloc (.cells #[.slice (some ⟨g,0,none⟩) n n] 24)) ⟨w3.heap.size,0,none⟩ g n D:=⟨kA.lt,by show w3.heap.size≠g; omega,by simp,hOA⟩
    have hdr:=hid (hd.out m D a' rfl hPut.out)
    replace hP:=hid hP
    replace krA:=hid krA
    replace b04:=hid b04
    clear hOA kA
    go_wp2_with fail
    generalize w3.alloc (.cells #[.slice (some ⟨g,0,none⟩) n n] 24)=w4 at *
    refine(drop_any ⟨w3.heap.size,0,none⟩ g n D ((m:Int)+1) w4 hP.out).mono ?_
    rintro e w5 ⟨hD,hO⟩
    rcases hD with⟨e', _,_,hno⟩ | ⟨rfl,_,E,hE,hRE,hFE⟩
    ·exact absurd hdr.out hno
    have kr5:CellsAt w5 (w.heap.size+1) #[.slice none 0 0] 24:=(by unfold CellsAt; rw[hO.block _ krA.out.lt (by omega)]; exact krA.out)
    have r0:=kr5.cell 0
    have r1:=kr5.frozen 0
    have s5:=hE.cell
    simp at r0
    have kk:=Kept.setCell (g:=w.heap.size+1) (Kept.refl _ w5) (p:=⟨w.heap.size+1,0,none⟩) rfl (.slice (some ⟨g,0,none⟩) n n)
    have hfin:=hid (hE.own.kept (by omega) kk)
    have b5:=hid (b04.out.trans (hO.below (B:=w.heap.size) (by omega) (by have:=b04.out.size; omega)))
    replace hRE:=hid hRE
    replace hFE:=hid hFE
    clear hO hE kk kr5
    go_wp2_with fail
    refine bodyPost_ret (v:=.tuple #[.agg #[.slice (some ⟨g,0,none⟩) n n],.int .i64 a', .int .i64 0]) (by rw[results_cell_tmps rfl]; go_simp) rfl ⟨⟨_,n,n,a', 0,rfl,.inr ⟨rfl,g,E,rfl,rfl,rfl,⟨D,hPut.out,.inr ⟨m,rfl,hRE.out,hFE.out⟩⟩,by omega,hfin.out⟩⟩,b5.out.setCell (by simp) _⟩
end Go.Proofs.YtjafgnohlkkopaaGreatDoor

namespace Go.Proofs.YtjafgnohlkkopaaGreatDoor
open Go.RowKit
theorem str_ne {l k:List Int} (hl:Bytes l) (hk:Bytes k) (h:l≠k):((strOfNums l).toList == (strOfNums k).toList)=false:=by
 rw[Lib.strOfNums_toList,Lib.strOfNums_toList]
 simp only[beq_eq_false_iff_ne,ne_eq]
 intro e
 apply h
 have hlen:l.length=k.length:=by have:=congrArg List.length e; rwa [Lib.bytesOf_length,Lib.bytesOf_length] at this
 apply List.ext_getElem hlen
 intro i h1 h2
 have e1:(Lib.bytesOf l)[i]? =(Lib.bytesOf k)[i]? :=by rw[e]
 have b1:=hl l[i] (List.getElem_mem h1)
 have b2:=hk k[i] (List.getElem_mem h2)
 simp[Lib.bytesOf,h1,h2] at e1
 have e2:=congrArg UInt8.toNat e1
 simp at e2
 omega
theorem bytesEqual_no (a1 a2:Option Addr) (n c m d:Nat) (Q1 Q2:Nat→Prop) (l k:List Int) (w:World) (hne:l≠k) (h1:NumsAt Q1 .u8 w a1 n l) (h2:NumsAt Q2 .u8 w a2 m k):
 Calls Tryz.prog 22 #[.slice a1 n c,.slice a2 m d] w fun e w'=>e=.returned (.bool false)∧w'=w:=by
 have g1:=run_string_of w c h1
 have g2:=run_string_of w d h2
 have hs:=str_ne h1.bytes h2.bytes hne
 clear h1 h2 hne
 go_enter Tryz.func22,Tryz.ntmps22
 go_wp2
 go_ret
 exact⟨rfl,rfl⟩
theorem results_cells2 {fn:Func} {p q u:Tmp} {ty tz:TypeId} (h:fn.results=#[.cell p ty,.cell q tz,.tmp u]) (tmps:Array Value) (P:Program) (w:World):
 (results fn tmps).run P w=
   ((asAddr (tmps.getD p undef)).run P w).andThen fun a w₁=>((loadVar ty a).run P w₁).andThen fun x w₂=>((asAddr (tmps.getD q undef)).run P w₂).andThen fun b w₃=>((loadVar tz b).run P w₃).andThen fun y w₄=>.ok (.tuple #[x,y,tmps.getD u undef]) w₄:=by
 simp only[results,h]
 simp[Sem.run_bind,Result.andThen]
structure TU (W wr:World) (q h n:Nat) (C:Nat→Blk) (V:List Int) (g:Nat):Prop where
 bel:Below W.heap.size W wr
 own:CellsAt wr q #[.slice (some ⟨g,0,none⟩) n n] 24
 st:Own wr g n C
 row:CellsAt wr h (V.map (Value.int .u8)).toArray 5
 r10:CellsAt wr (W.heap.size+1) #[.slice none 0 0] 24
 r11:CellsAt wr (W.heap.size+1+1) #[.int .i64 0,.int .i64 0] 104
 gb:W.heap.size+3≤g
 qb:W.heap.size+3≤q∧W.heap.size+3≤h∧h≠q
theorem TU.below {W wr w':World} {q h n:Nat} {C:Nat→Blk} {V:List Int} {g:Nat} (t:TU W wr q h n C V g) (b:Below wr.heap.size wr w'):TU W w' q h n C V g:=
 ⟨Below.tr t.bel b,t.own.below b,t.st.below b,t.row.below b,t.r10.below b,t.r11.below b,t.gb,t.qb⟩
theorem TU.turn {W wr w':World} {q h n:Nat} {C E:Nat→Blk} {V:List Int} {g g':Nat} (t:TU W wr q h n C V g) (b:Below wr.heap.size wr w') (hg:wr.heap.size≤g') (hE:Own w' g' n E):TU W (w'.setCell ⟨q,0,none⟩ (.slice (some ⟨g', 0,none⟩) n n)) q h n E V g':=by
 have t':=t.below b
 have hq:=t.own.lt
 have hqb:=t.qb
 have kk:=Kept.setCell (g:=q) (Kept.refl _ w') (p:=⟨q,0,none⟩) rfl (.slice (some ⟨g', 0,none⟩) n n)
 refine⟨t'.bel.setCell (show W.heap.size≤q by omega) _,by simpa using t'.own.set 0 _,hE.kept (by omega) kk,t'.row.past (a:=⟨q,0,none⟩) (by show h≠q; omega) _,t'.r10.past (a:=⟨q,0,none⟩) (by show W.heap.size+1≠q; omega) _,t'.r11.past (a:=⟨q,0,none⟩) (by show W.heap.size+1+1≠q; omega) _,by have:=t.bel.size; have:=t.gb; have:=t.st.lt; omega,t.qb⟩
def RetT (base:Nat) (e:Ending) (w:World) (n:Nat) (B:Nat→Blk) (key root:Int) (O N:List Int) (cc:Int):Prop:=
 ∃ (x:Option Addr) (ln lc:Nat) (ra rs e':Int),e=.returned (.tuple #[.agg #[.slice x ln lc],.agg #[.int .i64 ra,.int .i64 rs],.int .i64 e'])∧
  ((x=none∧ln=0∧lc=0∧ra=0∧rs=0∧e'=8∧Tight n B (chg O (padTo N) 64))∨
   (e'=0∧∃ (g:Nat) (C:Nat→Blk),x=some ⟨g,0,none⟩∧ln=n∧lc=n∧rs=(N.length:Int)∧base≤g∧Own w g n C∧TurnAt n B C key root O (padTo N) 64 ra cc))
theorem chg_step {O V:List Int} {j:Nat} (hj:j<64) (e:chunk O j≠chunk V j):chg O V j+1≤chg O V 64:=by
 have h1:=chg_mono O V (show j+1≤64 by omega)
 have h2:chg O V (j+1)=chg O V j+1:=by simp[chg,e]
 omega
set_option maxHeartbeats 8000000 in
set_option maxRecDepth 100000 in
theorem turn_any (a:Option Addr) (n c:Nat) (B:Nat→Blk) (key root:Int) (ob oo:Nat) (O:List Int) (na:Option Addr) (nn nc:Nat) (N:List Int) (cc:Int) (w:World) (h:StoreAt w a n B) (hR:Right n B) (hr:Root n B 3 root) (hk:0≤key∧key≤1000)
 (hO:NumsAt (fun _=>True) .u8 w (some ⟨ob,oo,none⟩) 256 O) (hN:NumsAt (fun _=>True) .u8 w na nn N) (hnn:nn≤256) (h1:64≤cc) (hcm:cc≤999936) (hc:∀ k,k<n→(B k).refs≤cc):
 Calls Tryz.prog 167 #[.agg #[.slice a n c],.int .i64 key,.int .i64 root,.slice (some ⟨ob,oo,none⟩) 256 256,.slice na nn nc] w fun e w'=>RetT w.heap.size e w' n B key root O N cc∧Below w.heap.size w w':=by
 obtain⟨i0,hi0,hz0,hz1,hz2⟩:=info_parts Tryz.infoByte
 have b0:Below w.heap.size w _:=(below_two w (.cells #[.slice a n c] 24) (.cells #[.slice none 0 0] 24)).alloc (by simp; omega) (.cells #[.int .i64 0,.int .i64 0] 104)
 have ks:PtrAt _ ⟨w.heap.size,0,none⟩ a n c B:=((ptr_boxed a n c B w 24 h).below (below_alloc _ (.cells #[.slice none 0 0] 24))).below (below_alloc _ (.cells #[.int .i64 0,.int .i64 0] 104))
 have k10:CellsAt _ (w.heap.size+1) #[.slice none 0 0] 24:=(cellsAt_alloc2 w (.cells #[.slice a n c] 24) _ _).below (below_alloc _ (.cells #[.int .i64 0,.int .i64 0] 104))
 have k11:CellsAt _ (w.heap.size+1+1) _ _:=cellsAt_alloc3 w (.cells #[.slice a n c] 24) (.cells #[.slice none 0 0] 24) #[.int .i64 0,.int .i64 0] 104
 have hsz:w.heap.size+3=(((w.alloc (.cells #[.slice a n c] 24)).alloc (.cells #[.slice none 0 0] 24)).alloc (.cells #[.int .i64 0,.int .i64 0] 104)).heap.size:=by simp
 have hn:=hR.small
 have hF:Hid (∀ i,i<n→(B i).kids.length≤4∧(B i).bytes.length≤4):=hid fun i hi=>⟨(hR.one i hi).few,(hR.one i hi).few2⟩
 have hrd:root=0∨∃ m:Nat,root=(m:Int)+1:=by
  rcases hr with h0 | ⟨⟨h1,_,_⟩,_⟩
  ·exact .inl h0
  ·exact .inr ⟨(root-1).toNat,by omega⟩
 have hnl:=hN.1
 have hNb:=hN.bytes
 have hsplice:=hid (splice_pad (N:=N) (by omega))
 have hpl:=hid (padTo_length (N:=N) (by omega))
 have hVb:=hid (padTo_bytes hNb)
 have hone:=hid (one_map N)
 have hNm:Hid ((N.map (Value.int .u8)).length=nn):=hid (by rw[List.length_map,hnl])
 have hzl:Hid (((zeros 256).map (Value.int .u8)).length=256):=hid (by rw[List.length_map,zeros_length])
 have hsrc:Hid (∀ w', Below w.heap.size w w'→0<nn→∃ ad,na=some ad∧∀ j v,(N.map (Value.int .u8))[j]? =some v→w'.cell? (ad.add j)=some v):=hid fun w' hw hp=>by
  have:=hN.below hw
  obtain⟨q,off,rfl,_⟩:=this.2.2 hp
  exact⟨_,rfl,src_map this hp⟩
 replace hk:=hid hk
 replace hnl:=hid hnl
 replace hO:=hid hO
 replace hc:=hid hc
 replace hR:=hid hR
 replace hr:=hid hr
 replace hrd:=hid hrd
 replace b0:=hid b0
 replace ks:=hid ks
 replace k10:=hid k10
 replace k11:=hid k11
 replace hsz:=hid hsz
 clear hN hNb h
 go_enter Tryz.func167,Tryz.ntmps167
 go_wp2_with fail
 generalize (((w.alloc (.cells #[.slice a n c] 24)).alloc (.cells #[.slice none 0 0] 24)).alloc (.cells #[.int .i64 0,.int .i64 0] 104))=w0 at *
 refine(copy_any ⟨w.heap.size,0,none⟩ a n c B w0 ks.out hn hF.out).mono ?_
 rintro e w2 ⟨b2,g,rfl,hg,hOwn⟩
 have hgl:=hOwn.lt
 have hsz0:=hsz.out
 have bA:=below_alloc w2 (.cells #[.slice (some ⟨g,0,none⟩) n n] 24)
 have kq:=cellsAt_alloc w2 #[.slice (some ⟨g,0,none⟩) n n] 24
 have b03:=Below.tr b0.out (Below.tr b2 bA)
 have k10':=k10.out.below (Below.tr b2 bA)
 have k11':=k11.out.below (Below.tr b2 bA)
 have hP:OwnPtr (w2.alloc (.cells #[.slice (some ⟨g,0,none⟩) n n] 24)) ⟨w2.heap.size,0,none⟩ g n B:=⟨kq.lt,by show w2.heap.size≠g; omega,by simp,hOwn.below bA⟩
 have hs2:=b2.size
 replace kq:=hid kq
 replace b03:=hid b03
 replace k10':=hid k10'
 replace k11':=hid k11'
 replace hP:=hid hP
 clear hOwn bA b2 b0 ks k10 k11 hsz hF
 rcases hrd.out with h0 | ⟨m,h0⟩
 ·subst h0
  have hT0:Hid (TurnAt n B B key 0 O (padTo N) 0 0 cc):=hid (turnAt_zero hR.out hc.out)
  have hst:=hid hP.out.own
  obtain⟨C0,hC0⟩:∃ C0,C0=B:=⟨_,rfl⟩
  replace hT0:Hid (TurnAt n B C0 key 0 O (padTo N) 0 0 cc):=hid (hC0▸hT0.out)
  replace hst:Hid (Own (w2.alloc (.cells #[.slice (some ⟨g,0,none⟩) n n] 24)) g n C0):=hid (hC0▸hst.out)
  clear hC0 hP
  go_upto_region 6 with fail
  generalize w2.alloc (.cells #[.slice (some ⟨g,0,none⟩) n n] 24)=w4 at *
  have hw4:w.heap.size≤w4.heap.size:=b03.out.size
  have hq4:=kq.out.lt
  go_wp2_with (at_make; refine wpList_make_full _ rfl (.const (.int .i64 256)) (.const (.int .i64 256)) 28 rfl w4.heap.size 5 i0 (.int .u8 0) 1 Tryz.underlying28 hi0 hz0 hz1 .i64 .i64 256 256 256 rfl rfl rfl rfl (by rw[hz2]; omega) (by unfold maxLen; omega) (Nat.le_refl _) ?_; intro w5 hown hgr; have hc5:=made_zero hown; have b5:Below w4.heap.size w4 w5:=⟨hgr.os,hgr.tape,hgr.output,hgr.size,fun k hk=>hgr.block k hk (by simp)⟩; clear hown hgr; obtain⟨w6,hr6,hc6,b6⟩:=copy_run (off:=0) (dLen:=256) (dCap:=256) (sLen:=nn) (sCap:=nc) (m:=nn) _ _ hc5 hNm.out (show nn=min nn 256 by omega) (hsrc.out w5 (Below.tr b03.out b5)) (by rw[hzl.out]; omega) hone.out b5 (Nat.le_refl _); rw[hsplice.out] at hc6; have hTU:Hid (TU w w6 w2.heap.size w4.heap.size n C0 (padTo N) g):=hid ⟨Below.tr b03.out b6,kq.out.below b6,hst.out.below b6,hc6,k10'.out.below b6,k11'.out.below b6,by omega,by omega,by omega,by omega⟩; clear hc5 b5 hc6 b6)
  clear hr6 kq k10' k11' hst b03 hw4
  go_loopw [2,34] (fun u v wr=>∃ (j:Nat) (a':Int) (C:Nat→Blk) (g':Nat),j≤64∧v=.int .i64 j∧u=.int .i64 a'∧TU w wr w2.heap.size w4.heap.size n C (padTo N) g'∧TurnAt n B C key 0 O (padTo N) j a' cc) (fun _ v _=>64-(Go.RowKit.intOf v).toNat)
  case atStart=>exact⟨0,0,C0,g,Nat.zero_le _,rfl,rfl,hTU.out,hT0.out⟩
  case round=>
   clear hTU hT0
   obtain⟨j,a', C,g', hj64,rfl,rfl,hE,hT⟩:=hrel
   by_cases hlt:j<64
   ·have hrow:=nums_of_cells (Q:=fun _=>True) trivial hVb.out hE.row
    rw[hpl.out] at hrow
    have hwc:Hid (∀ off ln:Nat,off=4*j→ln=4→NumsAt (fun _=>True) .u8 wr (some ⟨w4.heap.size,off,none⟩) ln (chunk (padTo N) j)):=hid fun off ln e1 e2=>by
     subst e1; subst e2
     have:=hrow.piece (lo:=4*j) (m:=4) (by omega)
     rwa [Nat.zero_add] at this
    have hoc:Hid (∀ off ln:Nat,off=oo+4*j→ln=4→NumsAt (fun _=>True) .u8 wr (some ⟨ob,off,none⟩) ln (chunk O j)):=hid fun off ln e1 e2=>by
     subst e1; subst e2
     exact(hO.out.below hE.bel).piece (lo:=4*j) (m:=4) (by omega)
    replace hE:=hid hE
    replace hT:=hid hT
    clear hrow
    by_cases heq:chunk O j=chunk (padTo N) j
    ·have hE':Hid (∀ nq,TU w (wr.drewN nq) w2.heap.size w4.heap.size n C (padTo N) g'):=hid fun nq=>hE.out.below (below_drewN _ _ _)
     have hT':=hid (hT.out.same hlt heq)
     go_wp2_with fail
     go_quiet (first | (go_at_call 22; refine Calls.quiet_of_same (bytesEqual_same _ _ _ _ _ _ (fun _=>True) (fun _=>True) (chunk (padTo N) j) _ ?_ ?_); exact heq▸(hoc.out _ _ (by omega) (by omega)).below (below_drewN _ _ _); exact(hwc.out _ _ (by omega) (by omega)).below (below_drewN _ _ _)))
     go_wp2_with fail
     go_roundw
     case rel=>exact⟨j+1,a', C,g', by omega,by go_num,rfl,hE'.out _,hT'.out⟩
     case measure=>simp[Go.RowKit.intOf]; omega
    ·replace heq:=hid heq
     go_wp2_with fail
     go_quiet (first | (go_at_call 22; refine Calls.quiet_of_same (bytesEqual_no _ _ _ _ _ _ (fun _=>True) (fun _=>True) (chunk O j) (chunk (padTo N) j) _ heq.out ?_ ?_); exact(hoc.out _ _ (by omega) (by omega)).below (below_drewN _ _ _); exact(hwc.out _ _ (by omega) (by omega)).below (below_drewN _ _ _)))
     replace hE:=hE.out.below (below_drewN _ _ nq)
     replace hwc:Hid (∀ off ln:Nat,off=4*j→ln=4→NumsAt (fun _=>True) .u8 (wr.drewN nq) (some ⟨w4.heap.size,off,none⟩) ln (chunk (padTo N) j)):=hid fun off ln e1 e2=>(hwc.out off ln e1 e2).below (below_drewN _ _ _)
     clear hoc
     generalize wr.drewN nq=w7 at *
     have s7:=hE.own.cell 0
     simp at s7
     replace hE:=hid hE
     have e4:(j+1)*4-j*4=4:=by omega
     have hcg:=chg_le O (padTo N) j
     have hTt:=hT.out.turned
     have hcc1:Hid (1≤cc+48):=hid (by omega)
     have hcc2:Hid (cc+48≤999984):=hid (by omega)
     have hd7:Hid (∀ (m:Nat) (D:Nat→Blk) (a'':Int),a'=(m:Int)+1→PutOk n C 3 a' j (leafFor key j (chunk (padTo N) j)) (cc+48) D a''→Droppable n D ((m:Int)+1)):=hid fun m D a'' e hp=>by
      subst e
      exact hTt.droppable hR.out hp
     have hlf:Hid (∀ (E:Nat→Blk) (a'':Int),LeafTurned n C key a' j (chunk (padTo N) j) (cc+48) E a''→TurnAt n B E key 0 O (padTo N) (j+1) a'' cc):=hid fun E a'' ⟨D,hp,hor⟩=>by
      rcases hor with⟨e,rfl⟩ | ⟨m,e,hRE,hFE⟩
      ·subst e; exact hT.out.step0 hR.out h1 hlt heq.out hp
      ·subst e; exact hT.out.step hR.out h1 hlt heq.out hp hRE hFE
     have hfull:Hid (n≤usedTo C n+3→Tight n B (chg O (padTo N) 64)):=hid fun f=>by
      have h4:=hTt.used85 hR.out
      have h2:=chg_step hlt heq.out
      have h3:=hT.out.used
      exact⟨by omega,by omega⟩
     replace hTt:=hid hTt
     clear hcg
     go_upto_region 14 with fail
     go_region_with (go_at_call 186; refine(turnLeaf_any (some ⟨g', 0,none⟩) n n C key a' j _ _ (chunk (padTo N) j) (cc+48) _ ?_ hTt.out.right hTt.out.root hlt hk.out ?_ hcc1.out hcc2.out hTt.out.few hd7.out).mono ?_; exact hE.out.st.store.below (below_drew _ _); exact(hwc.out _ _ (by omega) rfl).below (below_drew _ _); rintro e w8 ⟨⟨x,ln,lc,a8,e8,rfl,hcase⟩,b8⟩; have bb8:Below w7.heap.size w7 w8:=(below_drew _ _).trans b8; have t8:=hE.out.below bb8; have hqb:=t8.qb; have m8:=t8.own.cell 0; have f8:=t8.own.frozen 0; simp at m8; replace hcase:=hid hcase; replace bb8:=hid bb8; replace t8:=hid t8; clear b8)
     all_goals (
      rcases hcase.out with⟨rfl,rfl,rfl,rfl,rfl,hus⟩ | ⟨rfl,g8,E,rfl,rfl,rfl,hLT,hg8,hOw⟩
      ·have hno:=hid (hfull.out hus)
       have r10:=t8.out.r10.past (a:=⟨w2.heap.size,0,none⟩) (show w.heap.size+1≠w2.heap.size by omega) (.slice none 0 0)
       have r11:=t8.out.r11.past (a:=⟨w2.heap.size,0,none⟩) (show w.heap.size+1+1≠w2.heap.size by omega) (.slice none 0 0)
       have bz:=t8.out.bel.setCell (p:=⟨w2.heap.size,0,none⟩) (show w.heap.size≤w2.heap.size by omega) (.slice none 0 0)
       clear hcase hus m8 f8
       generalize w8.setCell ⟨w2.heap.size,0,none⟩ (.slice none 0 0)=w9 at *
       have q1:=r10.cell 0
       have q2:=r10.frozen 0
       have q3:=r11.cell 0
       have q4:=r11.frozen 0
       have q5:=r11.cell 1
       have q6:=r11.frozen 1
       simp at q1 q3 q5
       replace bz:=hid bz
       clear r10 r11
       go_wp2_with fail
       refine bodyPost_ret (v:=.tuple #[.agg #[.slice none 0 0],.agg #[.int .i64 0,.int .i64 0],.int .i64 8]) (by rw[results_cells2 rfl]; go_simp) rfl ⟨⟨none,0,0,0,0,8,rfl,.inl ⟨rfl,rfl,rfl,rfl,rfl,rfl,hno.out⟩⟩,((bz.out.setCell (show w.heap.size≤w.heap.size+1 by omega) _).setCell (show w.heap.size≤w.heap.size+1+1 by omega) _).setCell (show w.heap.size≤w.heap.size+1+1 by omega) _⟩
      ·have hT9:=hid (hlf.out E a8 hLT)
       have hE9:=hid (hE.out.turn bb8.out hg8 hOw)
       clear hcase hLT hOw m8 f8
       go_wp2_with fail
       go_roundw
       case rel=>exact⟨j+1,a8,E,g8,by omega,by go_num,rfl,hE9.out,hT9.out⟩
       case measure=>simp[Go.RowKit.intOf]; omega)
   ·obtain rfl:j=64:=by omega
    have hfin:Hid (RetT w.heap.size (.returned (.tuple #[.agg #[.slice (some ⟨g', 0,none⟩) n n],.agg #[.int .i64 a', .int .i64 nn],.int .i64 0])) (((wr.setCell ⟨w.heap.size+1,0,none⟩ (.slice (some ⟨g', 0,none⟩) n n)).setCell ⟨w.heap.size+1+1,0,none⟩ (.int .i64 a')).setCell ⟨w.heap.size+1+1,1,none⟩ (.int .i64 nn)) n B key 0 O N cc):=hid (by
     have hgb:=hE.gb
     have o1:=hE.st.kept (q:=w.heap.size+1) (by omega) (Kept.setCell (Kept.refl _ wr) (p:=⟨w.heap.size+1,0,none⟩) rfl (.slice (some ⟨g', 0,none⟩) n n))
     have o2:=o1.kept (q:=w.heap.size+1+1) (by omega) (Kept.setCell (Kept.refl _ _) (p:=⟨w.heap.size+1+1,0,none⟩) rfl (.int .i64 a'))
     have o3:=o2.kept (q:=w.heap.size+1+1) (by omega) (Kept.setCell (Kept.refl _ _) (p:=⟨w.heap.size+1+1,1,none⟩) rfl (.int .i64 nn))
     exact⟨_,n,n,a', nn,0,rfl,.inr ⟨rfl,g', C,rfl,rfl,rfl,by rw[hnl.out],by omega,o3,hT⟩⟩)
    have s1:=hE.own.cell 0
    have q1:=hE.r10.cell 0
    have q2:=hE.r10.frozen 0
    have q3:=hE.r11.cell 0
    have q4:=hE.r11.frozen 0
    have q5:=hE.r11.cell 1
    have q6:=hE.r11.frozen 1
    simp at s1 q1 q3 q5
    have bz:=hid hE.bel
    clear hE hT
    go_wp2_with fail
    refine bodyPost_ret (v:=.tuple #[.agg #[.slice (some ⟨g', 0,none⟩) n n],.agg #[.int .i64 a', .int .i64 nn],.int .i64 0]) (by rw[results_cells2 rfl]; go_simp) rfl ⟨hfin.out,((bz.out.setCell (show w.heap.size≤w.heap.size+1 by omega) _).setCell (show w.heap.size≤w.heap.size+1+1 by omega) _).setCell (show w.heap.size≤w.heap.size+1+1 by omega) _⟩
 ·subst h0
  have hm0:(((m:Int)+1) == 0)=false:=by simp; omega
  have hkp:Hid (Keepable n B ((m:Int)+1)):=hid ⟨hR.out,by
   rcases hr.out with h | ⟨h,_⟩
   ·omega
   ·exact h⟩
  have hT0:Hid (TurnAt n B (keptB B ((m:Int)+1)) key ((m:Int)+1) O (padTo N) 0 ((m:Int)+1) cc):=hid (turnAt_kept hR.out hr.out (by omega) hc.out)
  go_wp2_with fail
  generalize w2.alloc (.cells #[.slice (some ⟨g,0,none⟩) n n] 24)=w3 at *
  refine(keep_any ⟨w2.heap.size,0,none⟩ g n B ((m:Int)+1) w3 hP.out).mono ?_
  rintro e w4 ⟨hK,hOut⟩
  rcases hK with⟨e', _,_,hno⟩ | ⟨rfl,_,C0,hPC,hC0⟩
  ·exact absurd hkp.out hno
  rw[←hC0] at hT0
  have hst:=hid hPC.own
  replace kq:Hid (CellsAt w4 w2.heap.size #[.slice (some ⟨g,0,none⟩) n n] 24):=hid (by unfold CellsAt; rw[hOut.block _ kq.out.lt (by omega)]; exact kq.out)
  replace k10':Hid (CellsAt w4 (w.heap.size+1) #[.slice none 0 0] 24):=hid (by unfold CellsAt; rw[hOut.block _ k10'.out.lt (by omega)]; exact k10'.out)
  replace k11':Hid (CellsAt w4 (w.heap.size+1+1) #[.int .i64 0,.int .i64 0] 104):=hid (by unfold CellsAt; rw[hOut.block _ k11'.out.lt (by omega)]; exact k11'.out)
  replace b03:Hid (Below w.heap.size w w4):=hid (b03.out.trans (hOut.below (B:=w.heap.size) (by omega) (by have:=b03.out.size; omega)))
  clear hC0 hP hPC hOut hkp
  have hw4:w.heap.size≤w4.heap.size:=b03.out.size
  have hq4:=kq.out.lt
  go_wp2_with (at_make; refine wpList_make_full _ rfl (.const (.int .i64 256)) (.const (.int .i64 256)) 28 rfl w4.heap.size 5 i0 (.int .u8 0) 1 Tryz.underlying28 hi0 hz0 hz1 .i64 .i64 256 256 256 rfl rfl rfl rfl (by rw[hz2]; omega) (by unfold maxLen; omega) (Nat.le_refl _) ?_; intro w5 hown hgr; have hc5:=made_zero hown; have b5:Below w4.heap.size w4 w5:=⟨hgr.os,hgr.tape,hgr.output,hgr.size,fun k hk=>hgr.block k hk (by simp)⟩; clear hown hgr; obtain⟨w6,hr6,hc6,b6⟩:=copy_run (off:=0) (dLen:=256) (dCap:=256) (sLen:=nn) (sCap:=nc) (m:=nn) _ _ hc5 hNm.out (show nn=min nn 256 by omega) (hsrc.out w5 (Below.tr b03.out b5)) (by rw[hzl.out]; omega) hone.out b5 (Nat.le_refl _); rw[hsplice.out] at hc6; have hTU:Hid (TU w w6 w2.heap.size w4.heap.size n C0 (padTo N) g):=hid ⟨Below.tr b03.out b6,kq.out.below b6,hst.out.below b6,hc6,k10'.out.below b6,k11'.out.below b6,by omega,by omega,by omega,by omega⟩; clear hc5 b5 hc6 b6)
  clear hr6 kq k10' k11' hst b03 hw4
  go_loopw [2,34] (fun u v wr=>∃ (j:Nat) (a':Int) (C:Nat→Blk) (g':Nat),j≤64∧v=.int .i64 j∧u=.int .i64 a'∧TU w wr w2.heap.size w4.heap.size n C (padTo N) g'∧TurnAt n B C key ((m:Int)+1) O (padTo N) j a' cc) (fun _ v _=>64-(Go.RowKit.intOf v).toNat)
  case atStart=>exact⟨0,(m:Int)+1,C0,g,Nat.zero_le _,rfl,rfl,hTU.out,hT0.out⟩
  case round=>
   clear hTU hT0
   obtain⟨j,a', C,g', hj64,rfl,rfl,hE,hT⟩:=hrel
   by_cases hlt:j<64
   ·have hrow:=nums_of_cells (Q:=fun _=>True) trivial hVb.out hE.row
    rw[hpl.out] at hrow
    have hwc:Hid (∀ off ln:Nat,off=4*j→ln=4→NumsAt (fun _=>True) .u8 wr (some ⟨w4.heap.size,off,none⟩) ln (chunk (padTo N) j)):=hid fun off ln e1 e2=>by
     subst e1; subst e2
     have:=hrow.piece (lo:=4*j) (m:=4) (by omega)
     rwa [Nat.zero_add] at this
    have hoc:Hid (∀ off ln:Nat,off=oo+4*j→ln=4→NumsAt (fun _=>True) .u8 wr (some ⟨ob,off,none⟩) ln (chunk O j)):=hid fun off ln e1 e2=>by
     subst e1; subst e2
     exact(hO.out.below hE.bel).piece (lo:=4*j) (m:=4) (by omega)
    replace hE:=hid hE
    replace hT:=hid hT
    clear hrow
    by_cases heq:chunk O j=chunk (padTo N) j
    ·have hE':Hid (∀ nq,TU w (wr.drewN nq) w2.heap.size w4.heap.size n C (padTo N) g'):=hid fun nq=>hE.out.below (below_drewN _ _ _)
     have hT':=hid (hT.out.same hlt heq)
     go_wp2_with fail
     go_quiet (first | (go_at_call 22; refine Calls.quiet_of_same (bytesEqual_same _ _ _ _ _ _ (fun _=>True) (fun _=>True) (chunk (padTo N) j) _ ?_ ?_); exact heq▸(hoc.out _ _ (by omega) (by omega)).below (below_drewN _ _ _); exact(hwc.out _ _ (by omega) (by omega)).below (below_drewN _ _ _)))
     go_wp2_with fail
     go_roundw
     case rel=>exact⟨j+1,a', C,g', by omega,by go_num,rfl,hE'.out _,hT'.out⟩
     case measure=>simp[Go.RowKit.intOf]; omega
    ·replace heq:=hid heq
     go_wp2_with fail
     go_quiet (first | (go_at_call 22; refine Calls.quiet_of_same (bytesEqual_no _ _ _ _ _ _ (fun _=>True) (fun _=>True) (chunk O j) (chunk (padTo N) j) _ heq.out ?_ ?_); exact(hoc.out _ _ (by omega) (by omega)).below (below_drewN _ _ _); exact(hwc.out _ _ (by omega) (by omega)).below (below_drewN _ _ _)))
     replace hE:=hE.out.below (below_drewN _ _ nq)
     replace hwc:Hid (∀ off ln:Nat,off=4*j→ln=4→NumsAt (fun _=>True) .u8 (wr.drewN nq) (some ⟨w4.heap.size,off,none⟩) ln (chunk (padTo N) j)):=hid fun off ln e1 e2=>(hwc.out off ln e1 e2).below (below_drewN _ _ _)
     clear hoc
     generalize wr.drewN nq=w7 at *
     have s7:=hE.own.cell 0
     simp at s7
     replace hE:=hid hE
     have e4:(j+1)*4-j*4=4:=by omega
     have hcg:=chg_le O (padTo N) j
     have hTt:=hT.out.turned
     have hcc1:Hid (1≤cc+48):=hid (by omega)
     have hcc2:Hid (cc+48≤999984):=hid (by omega)
     have hd7:Hid (∀ (m:Nat) (D:Nat→Blk) (a'':Int),a'=(m:Int)+1→PutOk n C 3 a' j (leafFor key j (chunk (padTo N) j)) (cc+48) D a''→Droppable n D ((m:Int)+1)):=hid fun m D a'' e hp=>by
      subst e
      exact hTt.droppable hR.out hp
     have hlf:Hid (∀ (E:Nat→Blk) (a'':Int),LeafTurned n C key a' j (chunk (padTo N) j) (cc+48) E a''→TurnAt n B E key ((m:Int)+1) O (padTo N) (j+1) a'' cc):=hid fun E a'' ⟨D,hp,hor⟩=>by
      rcases hor with⟨e,rfl⟩ | ⟨m,e,hRE,hFE⟩
      ·subst e; exact hT.out.step0 hR.out h1 hlt heq.out hp
      ·subst e; exact hT.out.step hR.out h1 hlt heq.out hp hRE hFE
     have hfull:Hid (n≤usedTo C n+3→Tight n B (chg O (padTo N) 64)):=hid fun f=>by
      have h4:=hTt.used85 hR.out
      have h2:=chg_step hlt heq.out
      have h3:=hT.out.used
      exact⟨by omega,by omega⟩
     replace hTt:=hid hTt
     clear hcg
     go_upto_region 14 with fail
     go_region_with (go_at_call 186; refine(turnLeaf_any (some ⟨g', 0,none⟩) n n C key a' j _ _ (chunk (padTo N) j) (cc+48) _ ?_ hTt.out.right hTt.out.root hlt hk.out ?_ hcc1.out hcc2.out hTt.out.few hd7.out).mono ?_; exact hE.out.st.store.below (below_drew _ _); exact(hwc.out _ _ (by omega) rfl).below (below_drew _ _); rintro e w8 ⟨⟨x,ln,lc,a8,e8,rfl,hcase⟩,b8⟩; have bb8:Below w7.heap.size w7 w8:=(below_drew _ _).trans b8; have t8:=hE.out.below bb8; have hqb:=t8.qb; have m8:=t8.own.cell 0; have f8:=t8.own.frozen 0; simp at m8; replace hcase:=hid hcase; replace bb8:=hid bb8; replace t8:=hid t8; clear b8)
     all_goals (
      rcases hcase.out with⟨rfl,rfl,rfl,rfl,rfl,hus⟩ | ⟨rfl,g8,E,rfl,rfl,rfl,hLT,hg8,hOw⟩
      ·have hno:=hid (hfull.out hus)
       have r10:=t8.out.r10.past (a:=⟨w2.heap.size,0,none⟩) (show w.heap.size+1≠w2.heap.size by omega) (.slice none 0 0)
       have r11:=t8.out.r11.past (a:=⟨w2.heap.size,0,none⟩) (show w.heap.size+1+1≠w2.heap.size by omega) (.slice none 0 0)
       have bz:=t8.out.bel.setCell (p:=⟨w2.heap.size,0,none⟩) (show w.heap.size≤w2.heap.size by omega) (.slice none 0 0)
       clear hcase hus m8 f8
       generalize w8.setCell ⟨w2.heap.size,0,none⟩ (.slice none 0 0)=w9 at *
       have q1:=r10.cell 0
       have q2:=r10.frozen 0
       have q3:=r11.cell 0
       have q4:=r11.frozen 0
       have q5:=r11.cell 1
       have q6:=r11.frozen 1
       simp at q1 q3 q5
       replace bz:=hid bz
       clear r10 r11
       go_wp2_with fail
       refine bodyPost_ret (v:=.tuple #[.agg #[.slice none 0 0],.agg #[.int .i64 0,.int .i64 0],.int .i64 8]) (by rw[results_cells2 rfl]; go_simp) rfl ⟨⟨none,0,0,0,0,8,rfl,.inl ⟨rfl,rfl,rfl,rfl,rfl,rfl,hno.out⟩⟩,((bz.out.setCell (show w.heap.size≤w.heap.size+1 by omega) _).setCell (show w.heap.size≤w.heap.size+1+1 by omega) _).setCell (show w.heap.size≤w.heap.size+1+1 by omega) _⟩
      ·have hT9:=hid (hlf.out E a8 hLT)
       have hE9:=hid (hE.out.turn bb8.out hg8 hOw)
       clear hcase hLT hOw m8 f8
       go_wp2_with fail
       go_roundw
       case rel=>exact⟨j+1,a8,E,g8,by omega,by go_num,rfl,hE9.out,hT9.out⟩
       case measure=>simp[Go.RowKit.intOf]; omega)
   ·obtain rfl:j=64:=by omega
    have hfin:Hid (RetT w.heap.size (.returned (.tuple #[.agg #[.slice (some ⟨g', 0,none⟩) n n],.agg #[.int .i64 a', .int .i64 nn],.int .i64 0])) (((wr.setCell ⟨w.heap.size+1,0,none⟩ (.slice (some ⟨g', 0,none⟩) n n)).setCell ⟨w.heap.size+1+1,0,none⟩ (.int .i64 a')).setCell ⟨w.heap.size+1+1,1,none⟩ (.int .i64 nn)) n B key ((m:Int)+1) O N cc):=hid (by
     have hgb:=hE.gb
     have o1:=hE.st.kept (q:=w.heap.size+1) (by omega) (Kept.setCell (Kept.refl _ wr) (p:=⟨w.heap.size+1,0,none⟩) rfl (.slice (some ⟨g', 0,none⟩) n n))
     have o2:=o1.kept (q:=w.heap.size+1+1) (by omega) (Kept.setCell (Kept.refl _ _) (p:=⟨w.heap.size+1+1,0,none⟩) rfl (.int .i64 a'))
     have o3:=o2.kept (q:=w.heap.size+1+1) (by omega) (Kept.setCell (Kept.refl _ _) (p:=⟨w.heap.size+1+1,1,none⟩) rfl (.int .i64 nn))
     exact⟨_,n,n,a', nn,0,rfl,.inr ⟨rfl,g', C,rfl,rfl,rfl,by rw[hnl.out],by omega,o3,hT⟩⟩)
    have s1:=hE.own.cell 0
    have q1:=hE.r10.cell 0
    have q2:=hE.r10.frozen 0
    have q3:=hE.r11.cell 0
    have q4:=hE.r11.frozen 0
    have q5:=hE.r11.cell 1
    have q6:=hE.r11.frozen 1
    simp at s1 q1 q3 q5
    have bz:=hid hE.bel
    clear hE hT
    go_wp2_with fail
    refine bodyPost_ret (v:=.tuple #[.agg #[.slice (some ⟨g', 0,none⟩) n n],.agg #[.int .i64 a', .int .i64 nn],.int .i64 0]) (by rw[results_cells2 rfl]; go_simp) rfl ⟨hfin.out,((bz.out.setCell (show w.heap.size≤w.heap.size+1 by omega) _).setCell (show w.heap.size≤w.heap.size+1+1 by omega) _).setCell (show w.heap.size≤w.heap.size+1+1 by omega) _⟩
end Go.Proofs.YtjafgnohlkkopaaGreatDoor

namespace Go.Proofs.YtjafgnohlkkopaaGreatDoor
open Go.RowKit
def RetW (base:Nat) (e:Ending) (w:World) (n:Nat) (B:Nat→Blk) (key root size:Int) (ok:Prop) (bad:Int→Prop) (N:List Int) (cc:Int):Prop:=
 ∃ (x:Option Addr) (ln lc:Nat) (ra rs e':Int),e=.returned (.tuple #[.agg #[.slice x ln lc],.agg #[.int .i64 ra,.int .i64 rs],.int .i64 e'])∧
  ((x=none∧ln=0∧lc=0∧ra=0∧rs=0∧e'≠0∧(FileOk n B key root size→(ok→e'=8∧Tight n B (chg (fileL key (leafAt B 3 root)) (padTo N) 64))∧(¬ok→bad e')))∨
   (e'=0∧FileOk n B key root size∧ok∧∃ (g:Nat) (C:Nat→Blk),x=some ⟨g,0,none⟩∧ln=n∧lc=n∧rs=(N.length:Int)∧base≤g∧Own w g n C∧TurnAt n B C key root (fileL key (leafAt B 3 root)) (padTo N) 64 ra cc))
structure RC (W wr:World):Prop where
 bel:Below W.heap.size W wr
 sz:W.heap.size+4≤wr.heap.size
 r10:CellsAt wr (W.heap.size+1+1) #[.slice none 0 0] 24
 r11:CellsAt wr (W.heap.size+1+1+1) #[.int .i64 0,.int .i64 0] 104
theorem RC.below {W wr w':World} (h:RC W wr) (b:Below wr.heap.size wr w'):RC W w':=⟨Below.tr h.bel b,Nat.le_trans h.sz b.size,h.r10.below b,h.r11.below b⟩
abbrev put3 (W wr:World) (x:Option Addr) (ln lc:Nat) (ra rs:Int):World:=((wr.setCell ⟨W.heap.size+1+1,0,none⟩ (.slice x ln lc)).setCell ⟨W.heap.size+1+1+1,0,none⟩ (.int .i64 ra)).setCell ⟨W.heap.size+1+1+1,1,none⟩ (.int .i64 rs)
theorem RC.put3 {W wr:World} (h:RC W wr) (x:Option Addr) (ln lc:Nat) (ra rs:Int):Below W.heap.size W (put3 W wr x ln lc ra rs):=
 ((h.bel.setCell (show W.heap.size≤W.heap.size+1+1 by omega) _).setCell (show W.heap.size≤W.heap.size+1+1+1 by omega) _).setCell (show W.heap.size≤W.heap.size+1+1+1 by omega) _
theorem Own.put3 {W wr:World} {g n:Nat} {C:Nat→Blk} (h:Own wr g n C) (hg:W.heap.size+4≤g) (x:Option Addr) (ln lc:Nat) (ra rs:Int):Own (put3 W wr x ln lc ra rs) g n C:=
 ((h.kept (q:=W.heap.size+1+1) (by omega) (Kept.setCell (Kept.refl _ wr) (p:=⟨W.heap.size+1+1,0,none⟩) rfl _)).kept (q:=W.heap.size+1+1+1) (by omega) (Kept.setCell (Kept.refl _ _) (p:=⟨W.heap.size+1+1+1,0,none⟩) rfl _)).kept (q:=W.heap.size+1+1+1) (by omega) (Kept.setCell (Kept.refl _ _) (p:=⟨W.heap.size+1+1+1,1,none⟩) rfl _)
theorem NumsAt.takeN {Q:Nat→Prop} {k:IntKind} {w:World} {b off n:Nat} {l:List Int} (h:NumsAt Q k w (some ⟨b,off,none⟩) n l) {m:Nat} (hm:m≤n):NumsAt Q k w (some ⟨b,off,none⟩) m (l.take m):=by
 have:=h.piece (lo:=0) (m:=m) (by omega)
 rwa [Nat.add_zero,List.drop_zero] at this
set_option maxHeartbeats 8000000 in
set_option maxRecDepth 100000 in
theorem fileWrite_any (a:Option Addr) (n c:Nat) (B:Nat→Blk) (key root size at':Int) (ba:Option Addr) (bn bc:Nat) (b:List Int) (cc:Int) (w:World) (h:StoreAt w a n B) (hb:NumsAt (fun _=>True) .u8 w ba bn b) (h1:64≤cc) (hcm:cc≤999936) (hc:∀ k,k<n→(B k).refs≤cc):
 Calls Tryz.prog 148 #[.agg #[.slice a n c],.int .i64 key,.agg #[.int .i64 root,.int .i64 size],.int .i64 at', .slice ba bn bc] w fun e w'=>
  RetW w.heap.size e w' n B key root size (0≤at'∧at'+(b.length:Int)≤256) (fun e=>e=ovErr at' (b.length:Int)) (overL ((fileL key (leafAt B 3 root)).take size.toNat) at'.toNat b) cc∧Below w.heap.size w w':=by
 have b0:Below w.heap.size w _:=((below_two w (.cells #[.slice a n c] 24) (.cells #[.int .i64 root,.int .i64 size] 104)).alloc (by simp; omega) (.cells #[.slice none 0 0] 24)).alloc (by simp; omega) (.cells #[.int .i64 0,.int .i64 0] 104)
 have ks:CellsAt _ w.heap.size #[.slice a n c] 24:=(((cellsAt_alloc w _ _).below (below_alloc _ (.cells #[.int .i64 root,.int .i64 size] 104))).below (below_alloc _ (.cells #[.slice none 0 0] 24))).below (below_alloc _ (.cells #[.int .i64 0,.int .i64 0] 104))
 have kf:CellsAt _ (w.heap.size+1) #[.int .i64 root,.int .i64 size] 104:=((cellsAt_alloc2 w (.cells #[.slice a n c] 24) _ _).below (below_alloc _ (.cells #[.slice none 0 0] 24))).below (below_alloc _ (.cells #[.int .i64 0,.int .i64 0] 104))
 have hrc:RC w ((((w.alloc (.cells #[.slice a n c] 24)).alloc (.cells #[.int .i64 root,.int .i64 size] 104)).alloc (.cells #[.slice none 0 0] 24)).alloc (.cells #[.int .i64 0,.int .i64 0] 104)):=⟨b0,by simp,(cellsAt_alloc3 w (.cells #[.slice a n c] 24) (.cells #[.int .i64 root,.int .i64 size] 104) _ _).below (below_alloc _ (.cells #[.int .i64 0,.int .i64 0] 104)),cellsAt_alloc4 w (.cells #[.slice a n c] 24) (.cells #[.int .i64 root,.int .i64 size] 104) (.cells #[.slice none 0 0] 24) _ _⟩
 replace ks:=hid ks
 replace kf:=hid kf
 replace hrc:=hid hrc
 replace h:=hid h
 replace hb:=hid hb
 replace hc:=hid hc
 clear b0
 go_enter Tryz.func148,Tryz.ntmps148
 go_wp2_with fail
 generalize ((((w.alloc (.cells #[.slice a n c] 24)).alloc (.cells #[.int .i64 root,.int .i64 size] 104)).alloc (.cells #[.slice none 0 0] 24)).alloc (.cells #[.int .i64 0,.int .i64 0] 104))=w0 at *
 refine(open_any a n c B key root size w0 (h.out.below hrc.out.bel)).mono ?_
 rintro e w1 ⟨hO,b1⟩
 replace hrc:=hid (hrc.out.below b1)
 replace ks:=hid (ks.out.below b1)
 replace kf:=hid (kf.out.below b1)
 clear b1
 rcases hO with⟨e', rfl,he,hno⟩ | ⟨g1,rfl,hok,hg1,hrow⟩
 ·have he':(e' == 0)=false:=by simp[he]
  have q1:=hrc.out.r10.cell 0
  have q2:=hrc.out.r10.frozen 0
  have q3:=hrc.out.r11.cell 0
  have q4:=hrc.out.r11.frozen 0
  have q5:=hrc.out.r11.cell 1
  have q6:=hrc.out.r11.frozen 1
  simp at q1 q3 q5
  replace hno:=hid hno
  go_wp2_with fail
  refine bodyPost_ret (v:=.tuple #[.agg #[.slice none 0 0],.agg #[.int .i64 0,.int .i64 0],.int .i64 e']) (by rw[results_cells2 rfl]; go_simp) rfl ⟨⟨none,0,0,0,0,e', rfl,.inl ⟨rfl,rfl,rfl,rfl,rfl,he,fun f=>absurd f hno.out⟩⟩,hrc.out.put3 none 0 0 0 0⟩
 have hs:=hok.sb
 obtain⟨sz,rfl⟩:∃ sz:Nat,size=(sz:Int):=⟨size.toNat,by omega⟩
 have hN:=nums_of_cells (Q:=fun _=>True) trivial (fileL_bytes key (leafAt B 3 root)) hrow
 rw[fileL_length] at hN
 have hsz:sz≤256:=by omega
 have f0:=kf.out.cell 0
 have f1:=kf.out.cell 1
 have s0:=ks.out.cell 0
 simp at f0 f1 s0
 have hT:=hid (hN.takeN hsz)
 replace hN:=hid hN
 replace hok:=hid hok
 clear hrow hs
 go_wp2_with fail
 refine(over_any (some ⟨g1,0,none⟩) sz 256 _ at' ba bn bc b w1 hsz hT.out (hb.out.below hrc.out.bel)).mono ?_
 rintro e w2 ⟨hOv,b2⟩
 replace hrc:=hid (hrc.out.below b2)
 replace ks:=hid (ks.out.below b2)
 replace kf:=hid (kf.out.below b2)
 replace hN:=hid (hN.out.below b2)
 clear b2 f0 f1 s0 hT
 have q1:=hrc.out.r10.cell 0
 have q2:=hrc.out.r10.frozen 0
 have q3:=hrc.out.r11.cell 0
 have q4:=hrc.out.r11.frozen 0
 have q5:=hrc.out.r11.cell 1
 have q6:=hrc.out.r11.frozen 1
 have f0:=kf.out.cell 0
 have f1:=kf.out.cell 1
 have s0:=ks.out.cell 0
 simp at q1 q3 q5 f0 f1 s0
 rcases hOv with⟨e', rfl,he,hno⟩ | ⟨x,ln,lc,A,rfl,rfl,hA,hlc,hNow⟩
 ·have he':(e' == 0)=false:=by simp[he]
  replace hno:=hid hno
  go_wp2_with fail
  refine bodyPost_ret (v:=.tuple #[.agg #[.slice none 0 0],.agg #[.int .i64 0,.int .i64 0],.int .i64 e']) (by rw[results_cells2 rfl]; go_simp) rfl ⟨⟨none,0,0,0,0,e', rfl,.inl ⟨rfl,rfl,rfl,rfl,rfl,he,fun _=>⟨fun f=>absurd f hno.out.1,fun _=>hno.out.2⟩⟩⟩,hrc.out.put3 none 0 0 0 0⟩
 have hlen:=hNow.1
 have hln:ln≤256:=by
  rw[←hlen,overL_length,List.length_take,fileL_length]
  split<;>omega
 have hNow':=hid (hNow.weaken (R:=fun _=>True) (fun _ _ _=>trivial))
 have hA2:Hid (0≤(A:Int)∧(A:Int)+(b.length:Int)≤256):=hid (by omega)
 replace hlen:=hid hlen
 clear hNow hA q1 q2 q3 q4 q5 q6
 obtain⟨N,hNd⟩:∃ N,N=overL ((fileL key (leafAt B 3 root)).take sz) A b:=⟨_,rfl⟩
 rw[←hNd] at hlen hNow'
 replace hNd:=hid hNd
 go_wp2_with fail
 refine(turn_any a n c B key root g1 0 (fileL key (leafAt B 3 root)) x ln lc N cc w2 (h.out.below hrc.out.bel) hok.out.right hok.out.rooted hok.out.kb hN.out hNow'.out hln h1 hcm hc.out).mono ?_
 rintro e w3 ⟨⟨y,yn,yc,ra,rs,e', rfl,hcase⟩,b3⟩
 have hg4:=hrc.out.sz
 replace hrc:=hid (hrc.out.below b3)
 have q1:=hrc.out.r10.cell 0
 have q2:=hrc.out.r10.frozen 0
 have q3:=hrc.out.r11.cell 0
 have q4:=hrc.out.r11.frozen 0
 have q5:=hrc.out.r11.cell 1
 have q6:=hrc.out.r11.frozen 1
 simp at q1 q3 q5
 have hfin:Hid (RetW w.heap.size (.returned (.tuple #[.agg #[.slice y yn yc],.agg #[.int .i64 ra,.int .i64 rs],.int .i64 e'])) (put3 w w3 y yn yc ra rs) n B key root sz (0≤(A:Int)∧(A:Int)+(b.length:Int)≤256) (fun e=>e=ovErr (A:Int) (b.length:Int)) (overL ((fileL key (leafAt B 3 root)).take sz) A b) cc):=hid ⟨y,yn,yc,ra,rs,e', rfl,by
  rw[←hNd.out]
  rcases hcase with⟨h2,h3,h4,h5,h6,h7,h8⟩ | ⟨h2,g,C,h3,h4,h5,h6,h7,h8,h9⟩
  ·exact .inl ⟨h2,h3,h4,h5,h6,by omega,fun _=>⟨fun _=>⟨h7,h8⟩,fun f=>absurd hA2.out f⟩⟩
  ·exact .inr ⟨h2,hok.out,hA2.out,g,C,h3,h4,h5,h6,by omega,h8.put3 (by omega) _ _ _ _ _,h9⟩⟩
 clear hcase f0 f1 s0 b3
 go_wp2_with fail
 refine bodyPost_ret (v:=.tuple #[.agg #[.slice y yn yc],.agg #[.int .i64 ra,.int .i64 rs],.int .i64 e']) (by rw[results_cells2 rfl]; go_simp) rfl ⟨hfin.out,hrc.out.put3 _ _ _ _ _⟩
end Go.Proofs.YtjafgnohlkkopaaGreatDoor
