/-
  SetRow, SetN, SetF, FileC in one text. Nothing here is trusted.
-/
import Derived.Test.YtjafgnohlkkopaaGreatDoorPart09
import Derived.Test.YtjafgnohlkkopaaGreatDoorPart03
import Derived.Laws.OwnMore
import Derived.Lib.Bytealg
import Derived.Lib.Walk
import Derived.Laws.Strings
import Derived.Laws.Externs
import Derived.Laws.EntriesVeiled
set_option linter.unusedVariables false
namespace Go.Proofs.YtjafgnohlkkopaaGreatDoor
open Go.RowKit
section
variable {α β:Type} {f:α→List β} {k:Nat}
theorem flat_len (hk:∀ x,(f x).length=k):∀ l:List α,(l.flatMap f).length=l.length*k
 | []=>by simp
 | x::l=>by
   rw[List.flatMap_cons,List.length_append,hk,flat_len hk l,List.length_cons,Nat.add_mul,Nat.one_mul,Nat.add_comm]
theorem flat_take (hk:∀ x,(f x).length=k):∀ (l:List α) (i:Nat),(l.flatMap f).take (i*k)=(l.take i).flatMap f
 | [],i=>by simp
 | x::l,0=>by simp
 | x::l,i+1=>by
   rw[List.flatMap_cons,List.take_succ_cons,List.flatMap_cons,←flat_take hk l i,Nat.add_mul,Nat.one_mul,Nat.add_comm,List.take_append,hk]
   rw[List.take_of_length_le (by rw[hk]; omega)]
   congr 2
   omega
theorem flat_drop (hk:∀ x,(f x).length=k):∀ (l:List α) (i:Nat),(l.flatMap f).drop (i*k)=(l.drop i).flatMap f
 | [],i=>by simp
 | x::l,0=>by simp
 | x::l,i+1=>by
   rw[List.flatMap_cons,List.drop_succ_cons,←flat_drop hk l i,Nat.add_mul,Nat.one_mul,Nat.add_comm,List.drop_append,hk]
   rw[List.drop_of_length_le (by rw[hk]; omega)]
   rw[List.nil_append]
   congr 1
   omega
theorem flat_get (hk:∀ x,(f x).length=k):∀ (l:List α) (i r:Nat) (hi:i<l.length),r<k→(l.flatMap f)[i*k+r]? =(f l[i])[r]?
 | [],i,r,hi,_=>absurd hi (by simp)
 | x::l,0,r,hi,hr=>by
   rw[List.flatMap_cons,Nat.zero_mul,Nat.zero_add,List.getElem?_append_left (by rw[hk]; exact hr)]
   rfl
 | x::l,i+1,r,hi,hr=>by
   rw[List.flatMap_cons,List.getElem?_append_right (by rw[hk,Nat.add_mul]; omega),hk]
   have:=flat_get hk l i r (by simpa using hi) hr
   rw[show (i+1)*k+r-k=i*k+r by rw[Nat.add_mul]; omega,this]
   rfl
theorem flat_insert (l:List α) (i:Nat) (x:α):(l.take i++x::l.drop i).flatMap f=(l.take i).flatMap f++(f x++(l.drop i).flatMap f):=by
 rw[List.flatMap_append,List.flatMap_cons]
theorem flat_erase (l:List α) (i:Nat):(l.eraseIdx i).flatMap f=(l.take i).flatMap f++(l.drop (i+1)).flatMap f:=by
 rw[List.eraseIdx_eq_take_drop_succ,List.flatMap_append]
end
def Ent.cells (e:Ent):List Value:=[.string e.name,.int .i64 e.root,.int .i64 e.size]
theorem Ent.cells_len (e:Ent):e.cells.length=3:=rfl
theorem Ent.cells_one (e:Ent):∀ v∈e.cells,v.oneCell'=true:=by
 intro v hv
 simp only[Ent.cells,List.mem_cons,List.not_mem_nil,or_false] at hv
 rcases hv with rfl | rfl | rfl<;>rfl
def entCells (l:List Ent):List Value:=l.flatMap Ent.cells
theorem entCells_len (l:List Ent):(entCells l).length=l.length*3:=flat_len Ent.cells_len l
theorem entCells_one (l:List Ent):∀ v∈entCells l,v.oneCell'=true:=fun v hv=>by
 obtain⟨e,_,h⟩:=List.mem_flatMap.1 hv
 exact e.cells_one v h
structure SnapM where
 e:SnapE
 fa:Option Addr
 fn:Nat
 fc:Nat
def SnapM.cells (m:SnapM):List Value:=[.string m.e.name,.slice m.fa m.fn m.fc]
theorem SnapM.cells_len (m:SnapM):m.cells.length=2:=rfl
theorem SnapM.cells_one (m:SnapM):∀ v∈m.cells,v.oneCell'=true:=by
 intro v hv
 simp only[SnapM.cells,List.mem_cons,List.not_mem_nil,or_false] at hv
 rcases hv with rfl | rfl<;>rfl
def snapCells (l:List SnapM):List Value:=l.flatMap SnapM.cells
theorem snapCells_len (l:List SnapM):(snapCells l).length=l.length*2:=flat_len SnapM.cells_len l
theorem snapCells_one (l:List SnapM):∀ v∈snapCells l,v.oneCell'=true:=fun v hv=>by
 obtain⟨e,_,h⟩:=List.mem_flatMap.1 hv
 exact e.cells_one v h
structure SnapM.At (Q:Nat→Prop) (w:World) (m:SnapM):Prop where
 files:EntsAt Q w m.fa m.fn m.e.files
 caps:m.fn≤m.fc
 small:m.e.name.size≤maxLen
structure Only (M:Nat→Prop) (w w':World):Prop where
 os:w'.os=w.os
 tape:w'.tape=w.tape
 output:w'.output=w.output
 size:w.heap.size≤w'.heap.size
 block:∀ k,k<w.heap.size→¬M k→w'.heap[k]? =w.heap[k]?
theorem Only.refl (M:Nat→Prop) (w:World):Only M w w:=⟨rfl,rfl,rfl,Nat.le_refl _,fun _ _ _=>rfl⟩
theorem Only.trans {M:Nat→Prop} {a b c:World} (h:Only M a b) (k:Only M b c):Only M a c:=
 ⟨k.os.trans h.os,k.tape.trans h.tape,k.output.trans h.output,Nat.le_trans h.size k.size,fun i hi hm=>(k.block i (Nat.lt_of_lt_of_le hi h.size) hm).trans (h.block i hi hm)⟩
theorem Only.mono {M N:Nat→Prop} {a b:World} (h:Only M a b) (hm:∀ k,k<a.heap.size→M k→N k):Only N a b:=
 ⟨h.os,h.tape,h.output,h.size,fun i hi hn=>h.block i hi fun m=>hn (hm i hi m)⟩
theorem Only.of_below {M:Nat→Prop} {a b:World} (h:Below a.heap.size a b):Only M a b:=⟨h.os,h.tape,h.output,h.size,fun k hk _=>h.block k hk⟩
theorem Only.of_out {M:Nat→Prop} {g:Nat} {a b:World} (h:Out g a b) (hg:M g):Only M a b:=⟨h.os,h.tape,h.output,h.size,fun k hk hm=>h.block k hk (fun e=>hm (e▸hg))⟩
theorem Only.of_kept {M:Nat→Prop} {g:Nat} {a b:World} (h:Kept g a b) (hg:M g):Only M a b:=Only.of_out (Out.of_kept h) hg
theorem Only.below {M:Nat→Prop} {B:Nat} {a b:World} (h:Only M a b) (hB:∀ k,M k→B≤k) (hs:B≤a.heap.size):Below B a b:=
 ⟨h.os,h.tape,h.output,h.size,fun k hk=>h.block k (by omega) (fun m=>by have:=hB k m; omega)⟩
theorem Only.cell {M:Nat→Prop} {a b:World} (h:Only M a b) {p:Addr} (hp:p.block<a.heap.size) (hm:¬M p.block):b.cell? p=a.cell? p:=World.cell?_of_block (w:=a) (h.block p.block hp hm)
theorem Only.cells {M:Nat→Prop} {a b:World} (h:Only M a b) {g:Nat} {cs:Array Value} {t:TypeId} (hc:CellsAt a g cs t) (hm:¬M g):CellsAt b g cs t:=by
 have hl:=hc.lt
 unfold CellsAt at hc ⊢
 rw[h.block g hl hm]
 exact hc
theorem Only.row {M:Nat→Prop} {a b:World} (h:Only M a b) {base:Nat} {e:TypeId} {size:Nat} {v:Value} {n:Nat} {xs:List Value} (hr:a.ownsRow base e size v n xs) (hm:∀ k,v.ownBlock=some k→¬M k):b.ownsRow base e size v n xs:=by
 refine⟨hr.1,?_⟩
 rcases hr.2 with h0 | ⟨g,cap,cur,hv,hb,hg,rest⟩
 ·exact .inl h0
 ·have hl:=(hr.lt g (by rw[hv]; rfl)).2
  exact .inr ⟨g,cap,cur,hv,hb,by rw[h.block g hl (hm g (by rw[hv]; rfl))]; exact hg,rest⟩
theorem Only.ents {M:Nat→Prop} {a b:World} (h:Only M a b) {Q:Nat→Prop} {x:Option Addr} {n:Nat} {l:List Ent} (he:EntsAt Q a x n l) (hm:∀ k,Q k→¬M k):EntsAt Q b x n l:=by
 refine⟨he.1,he.2.1,fun hn=>?_⟩
 obtain⟨g,off,rfl,hlt,hq,hc⟩:=he.2.2 hn
 refine⟨g,off,rfl,Nat.lt_of_lt_of_le hlt h.size,hq,fun i hi=>?_⟩
 have hE:=hc i hi
 exact⟨(h.cell (p:=⟨g,off+i*3,none⟩) hlt (hm g hq)).trans hE.c0,(h.cell (p:=⟨g,off+i*3+1,none⟩) hlt (hm g hq)).trans hE.c1,(h.cell (p:=⟨g,off+i*3+2,none⟩) hlt (hm g hq)).trans hE.c2⟩
theorem Only.snap {M:Nat→Prop} {a b:World} (h:Only M a b) {Q:Nat→Prop} {m:SnapM} (hs:m.At Q a) (hm:∀ k,Q k→¬M k):m.At Q b:=⟨h.ents hs.files hm,hs.caps,hs.small⟩
theorem Only.nums {M:Nat→Prop} {a b:World} (h:Only M a b) {Q:Nat→Prop} {k:IntKind} {x:Option Addr} {n:Nat} {l:List Int} (hn:NumsAt Q k a x n l) (hm:∀ k,Q k→¬M k):NumsAt Q k b x n l:=by
 refine⟨hn.1,hn.2.1,fun h0=>?_⟩
 obtain⟨g,off,rfl,hlt,hq,hc⟩:=hn.2.2 h0
 exact⟨g,off,rfl,Nat.lt_of_lt_of_le hlt h.size,hq,fun i hi=>(h.cell (p:=⟨g,off+i,none⟩) hlt (hm g hq)).trans (hc i hi)⟩
theorem Only.blocks {M:Nat→Prop} {a b:World} (h:Only M a b) {Q:Nat→Prop} {g off n:Nat} {B:Nat→Blk} (hb:Blocks Q a g off n B) (hg:¬M g) (hgl:g<a.heap.size) (hm:∀ k,Q k→¬M k):Blocks Q b g off n B:=by
 intro i hi
 obtain⟨ka,kn,kc,ba,bn,bc,hE⟩:=hb i hi
 exact⟨ka,kn,kc,ba,bn,bc,(h.cell (p:=⟨g,off+i*4,none⟩) hgl hg).trans hE.c0,(h.cell (p:=⟨g,off+i*4+1,none⟩) hgl hg).trans hE.c1,(h.cell (p:=⟨g,off+i*4+2,none⟩) hgl hg).trans hE.c2,(h.cell (p:=⟨g,off+i*4+3,none⟩) hgl hg).trans hE.c3,h.nums hE.kids hm,h.nums hE.bytes hm,hE.refs,hE.level,hE.caps⟩
theorem only_grown {M:Nat→Prop} {a b:World} {row:Option Nat} (h:a.grownBy b row) (hm:∀ k,row=some k→M k):Only M a b:=
 ⟨h.os,h.tape,h.output,h.size,fun k hk hn=>h.block k hk (fun e=>hn (hm k e.symm))⟩
theorem ents_own {w:World} {base:Nat} {e:TypeId} {fa:Option Addr} {fn fc:Nat} {l:List Ent} (hok:∀ x∈l,x.ok) (h:w.ownsRow base e 3 (.slice fa fn fc) fn (entCells l)):EntsAt (fun b=>base≤b∧((Value.slice fa fn fc).ownBlock=some b)) w fa fn l:=by
 have hl:l.length=fn:=by have:=h.1; rw[entCells_len] at this; omega
 refine⟨hl,hok,fun hn=>?_⟩
 rcases h.2 with⟨hv,h0⟩ | ⟨g,cap,cur,hv,hb,hg,hnc,_⟩
 ·omega
 ·simp only[Value.slice.injEq] at hv
  obtain⟨rfl,_,rfl⟩:=hv
  refine⟨g,0,rfl,(h.lt g rfl).2,⟨hb,rfl⟩,fun i hi=>?_⟩
  have hil:i<l.length:=by omega
  have hx:l.getD i Ent.zero=l[i]:=by simp[List.getD,hil]
  rw[hx,Nat.zero_add]
  have hc:=fun r (hr:r<3)=>(h.cellAt (i*3+r) (by omega)).trans (flat_get Ent.cells_len l i r hil hr)
  exact⟨hc 0 (by omega),hc 1 (by omega),hc 2 (by omega)⟩
theorem snaps_own {w:World} {Q:Nat→Prop} {base:Nat} {e:TypeId} {sa:Option Addr} {sn sc:Nat} {l:List SnapM} (hl:∀ m∈l,m.At Q w) (h:w.ownsRow base e 2 (.slice sa sn sc) sn (snapCells l)):SnapsAt (fun b=>Q b∨(base≤b∧(Value.slice sa sn sc).ownBlock=some b)) w sa sn (l.map (·.e)):=by
 have hln:l.length=sn:=by have:=h.1; rw[snapCells_len] at this; omega
 refine⟨by rw[List.length_map]; exact hln,fun hn=>?_⟩
 rcases h.2 with⟨hv,h0⟩ | ⟨g,cap,cur,hv,hb,hg,hnc,_⟩
 ·omega
 ·simp only[Value.slice.injEq] at hv
  obtain⟨rfl,_,rfl⟩:=hv
  refine⟨g,0,rfl,(h.lt g rfl).2,.inr ⟨hb,rfl⟩,fun i hi=>?_⟩
  have hil:i<l.length:=by omega
  have hx:(l.map (·.e)).getD i SnapE.zero=l[i].e:=by simp[List.getD,hil]
  rw[hx,Nat.zero_add]
  have hc:=fun r (hr:r<2)=>(h.cellAt (i*2+r) (by omega)).trans (flat_get SnapM.cells_len l i r hil hr)
  have hA:=hl l[i] (List.getElem_mem hil)
  exact⟨l[i].fa,l[i].fn,l[i].fc,hc 0 (by omega),hc 1 (by omega),hA.files.weaken (fun b _ q=>.inl q),hA.small,hA.caps⟩
theorem EntsAt.cells {Q:Nat→Prop} {w:World} {b off n:Nat} {l:List Ent} (h:EntsAt Q w (some ⟨b,off,none⟩) n l):∀ j u,(entCells l)[j]? =some u→w.cell? ⟨b,off+j,none⟩=some u:=by
 intro j u hj
 have hjl:j<l.length*3:=by
  rw[←entCells_len]
  rcases Nat.lt_or_ge j (entCells l).length with h | h
  ·exact h
  ·rw[List.getElem?_eq_none h] at hj; cases hj
 have hi:j / 3<l.length:=by omega
 have hE:=h.ent (i:=j / 3) (by rw[←h.1]; exact hi)
 have hx:l.getD (j / 3) Ent.zero=l[j / 3]:=by simp[List.getD,hi]
 rw[hx] at hE
 have hg:=flat_get Ent.cells_len l (j / 3) (j%3) hi (Nat.mod_lt _ (by omega))
 rw[show j / 3*3+j%3=j by omega] at hg
 unfold entCells at hj
 rw[hg] at hj
 have h3:j%3=0∨j%3=1∨j%3=2:=by omega
 rcases h3 with h3 | h3 | h3
 ·rw[h3] at hj
  rw[show off+j=off+j / 3*3 by omega,hE.c0]
  exact hj
 ·rw[h3] at hj
  rw[show off+j=off+j / 3*3+1 by omega,hE.c1]
  exact hj
 ·rw[h3] at hj
  rw[show off+j=off+j / 3*3+2 by omega,hE.c2]
  exact hj
theorem SnapsAt.rows {Q:Nat→Prop} {w:World} {a:Option Addr} {n:Nat} {l:List SnapE} (h:SnapsAt Q w a n l):∃ ms:List SnapM,ms.map (·.e)=l∧(∀ m∈ms,m.At Q w)∧(0<n→∃ b off,a=some ⟨b,off,none⟩∧b<w.heap.size∧∀ j u,(snapCells ms)[j]? =some u→w.cell? ⟨b,off+j,none⟩=some u):=by
 rcases Nat.eq_zero_or_pos n with h0 | h0
 ·subst h0
  have:=List.eq_nil_of_length_eq_zero h.1
  subst this
  exact⟨[],rfl,by simp,fun h=>absurd h (by omega)⟩
 ·obtain⟨b,off,rfl,hlt,hq,hc⟩:=h.2 h0
  have hl:=h.1
  have key:∀ i,i≤n→∃ ms:List SnapM,ms.length=i∧ms.map (·.e)=l.take i∧(∀ m∈ms,m.At Q w)∧∀ j (hj:j<ms.length),w.cell? ⟨b,off+j*2,none⟩=some (.string ms[j].e.name)∧w.cell? ⟨b,off+j*2+1,none⟩=some (.slice ms[j].fa ms[j].fn ms[j].fc):=by
   intro i
   induction i with
   | zero=>intro _; exact⟨[],rfl,by simp,by simp,fun j hj=>absurd hj (by simp)⟩
   | succ i ih=>
     intro hi
     obtain⟨ms,e1,e2,e3,e4⟩:=ih (by omega)
     obtain⟨fa,fn,fc,hs⟩:=hc i (by omega)
     have hil:i<l.length:=by omega
     have hx:l.getD i SnapE.zero=l[i]:=by simp[List.getD,hil]
     rw[hx] at hs
     refine⟨ms++[⟨l[i],fa,fn,fc⟩],by simp[e1],by rw[List.map_append,e2,List.take_succ_eq_append_getElem hil]; rfl,?_,?_⟩
     ·intro m hm
      rcases List.mem_append.1 hm with hm | hm
      ·exact e3 m hm
      ·rw[List.mem_singleton.1 hm]; exact⟨hs.files,hs.caps,hs.small⟩
     ·intro j hj
      rw[List.length_append,List.length_singleton] at hj
      by_cases ej:j<ms.length
      ·rw[List.getElem_append_left ej]; exact e4 j ej
      ·obtain rfl:j=i:=by omega
       rw[List.getElem_append_right (by omega)]
       simp only[e1,Nat.sub_self,List.getElem_cons_zero]
       exact⟨hs.c0,hs.c1⟩
  obtain⟨ms,e1,e2,e3,e4⟩:=key n (Nat.le_refl _)
  refine⟨ms,by rw[e2]; exact List.take_of_length_le (by omega),e3,fun _=>⟨b,off,rfl,hlt,fun j u hj=>?_⟩⟩
  have hjl:j<ms.length*2:=by
   rw[←snapCells_len]
   rcases Nat.lt_or_ge j (snapCells ms).length with h | h
   ·exact h
   ·rw[List.getElem?_eq_none h] at hj; cases hj
  have hi:j / 2<ms.length:=by omega
  have hg:=flat_get SnapM.cells_len ms (j / 2) (j%2) hi (Nat.mod_lt _ (by omega))
  rw[show j / 2*2+j%2=j by omega] at hg
  unfold snapCells at hj
  rw[hg] at hj
  have h4:=e4 (j / 2) hi
  have h2:j%2=0∨j%2=1:=by omega
  rcases h2 with h2 | h2
  ·rw[h2] at hj
   rw[show off+j=off+j / 2*2 by omega,h4.1]
   exact hj
  ·rw[h2] at hj
   rw[show off+j=off+j / 2*2+1 by omega,h4.2]
   exact hj
end Go.Proofs.YtjafgnohlkkopaaGreatDoor

namespace Go.Proofs.YtjafgnohlkkopaaGreatDoor
open Go.RowKit
theorem cb_lt:∀ a b:List UInt8,Lib.compareBytes a b<0↔a<b
 | [],[]=>by simp[Lib.compareBytes]
 | [],_::_=>by simp[Lib.compareBytes]
 | _::_,[]=>by simp[Lib.compareBytes]
 | a::xs,b::ys=>by
   rw[List.cons_lt_cons_iff]
   simp only[Lib.compareBytes]
   by_cases h:a<b
   ·simp[h]
   ·by_cases h2:b<a
    ·have hne:a≠b:=fun e=>by subst e; exact h h2
     simp[h,h2,hne]
    ·have he:a=b:=UInt8.le_antisymm (UInt8.not_lt.1 h2) (UInt8.not_lt.1 h)
     subst he
     simp[h,cb_lt xs ys]
theorem cb_eq:∀ a b:List UInt8,Lib.compareBytes a b=0↔a=b
 | [],[]=>by simp[Lib.compareBytes]
 | [],_::_=>by simp[Lib.compareBytes]
 | _::_,[]=>by simp[Lib.compareBytes]
 | a::xs,b::ys=>by
   simp only[Lib.compareBytes]
   by_cases h:a<b
   ·have hne:a≠b:=fun e=>by subst e; exact absurd h (UInt8.lt_irrefl _)
    simp[h,hne]
   ·by_cases h2:b<a
    ·have hne:a≠b:=fun e=>by subst e; exact h h2
     simp[h,h2,hne]
    ·have he:a=b:=UInt8.le_antisymm (UInt8.not_lt.1 h2) (UInt8.not_lt.1 h)
     subst he
     simp[h,cb_eq xs ys]
theorem cb_gt:∀ a b:List UInt8,0<Lib.compareBytes a b↔b<a
 | [],[]=>by simp[Lib.compareBytes]
 | [],_::_=>by simp[Lib.compareBytes]
 | _::_,[]=>by simp[Lib.compareBytes]
 | a::xs,b::ys=>by
   rw[List.cons_lt_cons_iff]
   simp only[Lib.compareBytes]
   by_cases h:a<b
   ·have h2:¬b<a:=fun h2=>absurd (UInt8.lt_trans h h2) (UInt8.lt_irrefl _)
    have hne:b≠a:=fun e=>by subst e; exact absurd h (UInt8.lt_irrefl _)
    simp[h,h2,hne]
   ·by_cases h2:b<a
    ·simp[h,h2]
    ·have he:a=b:=UInt8.le_antisymm (UInt8.not_lt.1 h2) (UInt8.not_lt.1 h)
     subst he
     simp[h,cb_gt xs ys]
theorem nm_tri (a b:List UInt8):a<b∨a=b∨b<a:=by
 rcases Int.lt_trichotomy (Lib.compareBytes a b) 0 with h | h | h
 ·exact .inl ((cb_lt a b).1 h)
 ·exact .inr (.inl ((cb_eq a b).1 h))
 ·exact .inr (.inr ((cb_gt a b).1 h))
theorem nm_irrefl (a:List UInt8):¬a<a:=fun h=>by
 have:=(cb_lt a a).2 h
 have:=(cb_eq a a).2 rfl
 omega
theorem nm_asymm {a b:List UInt8} (h:a<b):¬b<a:=fun h2=>nm_irrefl a (List.lt_trans h h2)
theorem less_bytes:∀ x y:List UInt8,Op.bytesLess x y=true↔x<y
 | [],[]=>by simp[Op.bytesLess]
 | _::_,[]=>by simp[Op.bytesLess]
 | [],_::_=>by simp[Op.bytesLess]
 | a::x,b::y=>by
   rw[Op.bytesLess]
   simp only[List.cons_lt_cons_iff,Bool.or_eq_true,Bool.and_eq_true,decide_eq_true_eq,beq_iff_eq,less_bytes x y]
theorem str_leq {P:Program} (t:TypeId) (s a:ByteArray) (w:World):(binOp .leq t (.string s) (.string a)).run P w=.ok (.bool (!decide (a.data.toList<s.data.toList))) w:=by
 have e:(Op.bytesLess s.toList a.toList || s.toList == a.toList)=!decide (a.data.toList<s.data.toList):=by
  rw[ByteArray.toList_eq,ByteArray.toList_eq,Bool.eq_iff_iff]
  simp only[Bool.or_eq_true,less_bytes,beq_iff_eq,Bool.not_eq_true', decide_eq_false_iff_not]
  constructor
  ·rintro (h | h)
   ·exact nm_asymm h
   ·rw[h]; exact nm_irrefl _
  ·intro h
   rcases nm_tri s.data.toList a.data.toList with h1 | h1 | h1
   ·exact .inl h1
   ·exact .inr h1
   ·exact absurd h1 h
 simp[binOp,Op.stringOp,e]
set_option maxHeartbeats 1000000 in
set_option maxRecDepth 100000 in
theorem compareString_any (a b:ByteArray) (w:World):
 Calls Tryz.prog 91 #[.string a,.string b] w fun e w'=>e=.returned (.int .i64 (Lib.compareBytes a.data.toList b.data.toList))∧w'=w:=by
 go_enter Tryz.func91,Tryz.ntmps91
 go_wp2
 rw[run_callFunc_extern Tryz.func114 (by kernel_rfl) (by kernel_rfl) (by kernel_rfl) (e:=Extern.BytealgCompare.compare) (by kernel_rfl),Lib.run_compareString]
 simp only[Result.andThen]
 rw[Oper.upon_value]
 go_wp2
 go_ret
 exact⟨rfl,rfl⟩
set_option maxHeartbeats 1000000 in
theorem compare_any (a b:ByteArray) (w:World):
 Calls Tryz.prog 68 #[.string a,.string b] w fun e w'=>e=.returned (.int .i64 (Lib.compareBytes a.data.toList b.data.toList))∧w'=w:=by
 go_enter Tryz.func68,Tryz.ntmps68
 go_wp2_with (go_at_call 91; refine(compareString_any _ _ _).mono ?_; rintro e w' ⟨rfl,rfl⟩)
 go_ret
 exact⟨rfl,rfl⟩
theorem isSign_any (c:UInt8) (w:World):
 Calls Tryz.prog 88 #[.int .u8 (c.toNat:Int)] w fun e w'=>RetB e (isLetter c)∧w'=w:=by
 have hL:isLetter c↔((97:Int)≤(c.toNat:Int)∧(c.toNat:Int)≤122)∨((48:Int)≤(c.toNat:Int)∧(c.toNat:Int)≤57):=by
  unfold isLetter
  simp only[UInt8.le_iff_toNat_le]
  have h1:(97:UInt8).toNat=97:=rfl
  have h2:(122:UInt8).toNat=122:=rfl
  have h3:(48:UInt8).toNat=48:=rfl
  have h4:(57:UInt8).toNat=57:=rfl
  rw[h1,h2,h3,h4]
  omega
 have hL':=hid hL
 clear hL
 generalize (c.toNat:Int)=x at *
 go_enter Tryz.func88,Tryz.ntmps88
 go_wp2_with fail
 all_goals (go_ret; refine⟨⟨_,rfl,?_⟩,rfl⟩; rw[hL'.out]; simp; omega)
theorem str_at (s:ByteArray) (i:Nat) (hi:i<s.size):s.data.toList[i]? =some s[i]:=by
 have h:i<s.data.toList.length:=by simpa using hi
 rw[List.getElem?_eq_getElem h]
 rfl
theorem str_size (s:ByteArray):s.data.toList.length=s.size:=rfl
set_option maxHeartbeats 1000000 in
set_option maxRecDepth 100000 in
theorem name_any (s:ByteArray) (w:World) (hs:s.size≤maxLen):
 Calls Tryz.prog 64 #[.string s] w fun e w'=>RetB e (IsName s)∧w'=w:=by
 have hs':s.size≤9223372036854775807:=by unfold maxLen at hs; omega
 go_enter Tryz.func64,Tryz.ntmps64
 by_cases h0:s.size=0
 ·have h0':((s.size:Int) == 0)=true:=by simp[h0]
  go_wp2_with fail
  go_ret
  exact⟨⟨false,rfl,by simp only[Bool.false_eq_true,false_iff]; intro h; have:=h.1; rw[str_size] at this; omega⟩,rfl⟩
 ·have h0':((s.size:Int) == 0)=false:=by simp[h0]
  by_cases h8:(8:Int)<(s.size:Int)
  ·go_wp2_with fail
   go_ret
   exact⟨⟨false,rfl,by simp only[Bool.false_eq_true,false_iff]; intro h; have:=h.2.1; rw[str_size] at this; omega⟩,rfl⟩
  ·go_wp2_with fail
   go_loopw [14] (fun v wr=>∃ i:Nat,i≤s.size∧v=.int .i64 i∧wr=w∧∀ c∈s.data.toList.take i,isLetter c) (fun v _=>s.size-(Go.RowKit.intOf v).toNat)
   case atStart=>exact⟨0,Nat.zero_le _,rfl,rfl,by simp⟩
   case round=>
    obtain⟨i,hi,rfl,rfl,hc⟩:=hrel
    by_cases hlt:i<s.size
    ·have hltI:(i:Int)<(s.size:Int):=by omega
     have hat:=str_at s i hlt
     replace hc:=hid hc
     replace hat:=hid hat
     go_wp2_with fail
     refine(isSign_any s[i] _).mono ?_
     rintro e w1 ⟨⟨b,rfl,hb⟩,rfl⟩
     replace hb:=hid hb
     cases b
     ·go_wp2_with fail
      go_ret
      refine⟨⟨false,rfl,?_⟩,rfl⟩
      simp only[Bool.false_eq_true,false_iff]
      intro h
      have h1:isLetter s[i]:=h.2.2 _ (List.mem_of_getElem? hat.out)
      exact Bool.false_ne_true (hb.out.2 h1)
     ·go_wp2_with fail
      go_roundw
      case rel=>
       refine⟨i+1,by omega,by go_num,trivial,fun c hcm=>?_⟩
       rw[List.take_add_one,hat.out] at hcm
       rcases List.mem_append.1 hcm with h | h
       ·exact hc.out c h
       ·simp at h
        rw[h]
        exact hb.out.1 trivial
      case measure=>simp[Go.RowKit.intOf]; omega
    ·obtain rfl:i=s.size:=by omega
     have e1:s.data.toList.take s.size=s.data.toList:=List.take_of_length_le (Nat.le_refl _)
     rw[e1] at hc
     replace hc:=hid hc
     clear e1
     go_wp2_with fail
     go_ret
     exact⟨⟨true,rfl,by simp only[true_iff]; exact⟨by rw[str_size]; omega,by rw[str_size]; omega,hc.out⟩⟩,rfl⟩
theorem checkName_any (a s:ByteArray) (w:World) (hs:s.size≤maxLen):
 Calls Tryz.prog 82 #[.string a,.string s] w fun e w'=>RetE e (IsName s∧a.data.toList<s.data.toList)∧w'=w:=by
 go_enter Tryz.func82,Tryz.ntmps82
 go_wp2_with fail
 refine(name_any s _ hs).mono ?_
 rintro e w1 ⟨⟨b,rfl,hb⟩,rfl⟩
 replace hb:=hid hb
 cases b
 ·go_wp2_with fail
  go_ret
  exact⟨retE_no 1 (by omega) (fun h=>Bool.false_ne_true (hb.out.2 h.1)),rfl⟩
 ·have hN:=hid (hb.out.1 rfl)
  have hle:=fun w=>str_leq (P:=Tryz.prog) 9 s a w
  by_cases hlt:a.data.toList<s.data.toList
  ·have hd:decide (a.data.toList<s.data.toList)=true:=by simp[hlt]
   rw[hd] at hle
   replace hlt:=hid hlt
   clear hd
   go_wp2_with fail
   go_ret
   exact⟨retE_yes ⟨hN.out,hlt.out⟩,rfl⟩
  ·have hd:decide (a.data.toList<s.data.toList)=false:=by simp[hlt]
   rw[hd] at hle
   replace hlt:=hid hlt
   clear hd
   go_wp2_with fail
   go_ret
   exact⟨retE_no 6 (by omega) (fun h=>hlt.out h.2),rfl⟩
end Go.Proofs.YtjafgnohlkkopaaGreatDoor

namespace Go.Proofs.YtjafgnohlkkopaaGreatDoor
open Go.RowKit
structure Found {α:Type} (f:α→List UInt8) (l:List α) (t:List UInt8) (p:Nat) (b:Bool):Prop where
 le:p≤l.length
 ahead:∀ x∈l.take p,f x<t
 behind:∀ x∈l.drop p,¬f x<t
 there:b=true↔∃ x,l[p]? =some x∧f x=t
theorem found_left {α:Type} {f:α→List UInt8} {l:List α} {t:List UInt8} (ho:l.Pairwise fun a b=>f a<f b) {h:Nat} {x:α} (hx:l[h]? =some x) (hlt:f x<t):∀ y∈l.take (h+1),f y<t:=by
 intro y hy
 obtain⟨k,hk,rfl⟩:=List.mem_iff_getElem.1 hy
 rw[List.length_take] at hk
 rw[List.getElem_take]
 obtain⟨hh,rfl⟩:=List.getElem?_eq_some_iff.1 hx
 by_cases e:k=h
 ·subst e; exact hlt
 ·exact List.lt_trans (List.pairwise_iff_getElem.1 ho k h (by omega) hh (by omega)) hlt
theorem found_right {α:Type} {f:α→List UInt8} {l:List α} {t:List UInt8} (ho:l.Pairwise fun a b=>f a<f b) {h:Nat} {x:α} (hx:l[h]? =some x) (hge:¬f x<t):∀ y∈l.drop h,¬f y<t:=by
 intro y hy
 obtain⟨k,hk,rfl⟩:=List.mem_iff_getElem.1 hy
 rw[List.length_drop] at hk
 rw[List.getElem_drop]
 obtain⟨hh,rfl⟩:=List.getElem?_eq_some_iff.1 hx
 by_cases e:k=0
 ·subst e; exact hge
 ·exact fun hl=>hge (List.lt_trans (List.pairwise_iff_getElem.1 ho h (h+k) hh (by omega) (by omega)) hl)
def RetF {α:Type} (f:α→List UInt8) (l:List α) (t:List UInt8) (e:Ending):Prop:=∃ (p:Nat) (b:Bool),e=.returned (.tuple #[.int .i64 p,.bool b])∧Found f l t p b
theorem cmpE_any (x:Ent) (t:ByteArray) (w:World):
 Calls Tryz.prog 146 #[.agg #[.string x.name,.int .i64 x.root,.int .i64 x.size],.string t] w fun e w'=>e=.returned (.int .i64 (Lib.compareBytes x.nm t.data.toList))∧Below w.heap.size w w':=by
 have b0:=below_alloc w (.cells (Value.cells (.agg #[.string x.name,.int .i64 x.root,.int .i64 x.size])) 106)
 go_enter Tryz.func146,Tryz.ntmps146
 go_wp2_with fail
 refine(compare_any x.name t _).mono ?_
 rintro e w1 ⟨rfl,rfl⟩
 go_wp2_with fail
 go_ret
 exact⟨rfl,b0⟩
set_option maxHeartbeats 2000000 in
set_option maxRecDepth 100000 in
theorem searchE_any (Q:Nat→Prop) (a:Option Addr) (n c:Nat) (l:List Ent) (t:ByteArray) (w:World) (hn:n≤1000) (h:EntsAt Q w a n l) (ho:l.Pairwise fun a b=>a.nm<b.nm):
 Calls Tryz.prog 145 #[.slice a n c,.string t,.func (.func 146) #[] #[]] w fun e w'=>RetF Ent.nm l t.data.toList e∧Below w.heap.size w w':=by
 have hl:=hid h.1
 replace h:=hid h
 replace ho:=hid ho
 go_enter Tryz.func145,Tryz.ntmps145
 go_wp2_with fail
 go_loopw [9,10] (fun u v wr=>∃ i j:Nat,i≤j∧j≤n∧u=.int .i64 i∧v=.int .i64 j∧Below w.heap.size w wr∧(∀ x∈l.take i,x.nm<t.data.toList)∧∀ x∈l.drop j,¬x.nm<t.data.toList) (fun u v _=>(Go.RowKit.intOf v).toNat-(Go.RowKit.intOf u).toNat)
 case atStart=>exact⟨0,n,Nat.zero_le _,Nat.le_refl _,rfl,rfl,Below.refl _ _,by simp,by rw[List.drop_of_length_le (by rw[hl.out]; exact Nat.le_refl _)]; simp⟩
 case round=>
  obtain⟨i,j,hij,hjn,rfl,rfl,hbel,h1,h2⟩:=hrel
  replace h1:=hid h1
  replace h2:=hid h2
  by_cases hlt:i<j
  ·obtain⟨m,hm⟩:∃ m:Nat,m=(i+j) / 2:=⟨_,rfl⟩
   have hm':((i:Int)+(j:Int)) / 2=(m:Int):=by omega
   have hmi:i≤m∧m<j:=by omega
   clear hm
   have hml:m<l.length:=by rw[hl.out]; omega
   have h':=h.out.below hbel
   obtain⟨b,off,rfl⟩:∃ b off,a=some ⟨b,off,none⟩:=by
    obtain⟨b,off,e,_⟩:=h'.2.2 (by omega)
    exact⟨b,off,e⟩
   have hx:l[m]? =some (l.getD m Ent.zero):=by rw[List.getElem?_eq_getElem hml]; simp[List.getD,hml]
   have hE:=h'.ent (i:=m) (by omega)
   have c2:=hE.c2
   have c0:=hE.c0
   have c1:=hE.c1
   replace hx:=hid hx
   clear hE h'
   generalize l.getD m Ent.zero=x at *
   go_wp2_with fail
   refine(cmpE_any x t wr).mono ?_
   rintro e w1 ⟨rfl,b1⟩
   clear c0 c1 c2
   have hL:=found_left ho.out (t:=t.data.toList) hx.out
   have hR:=found_right ho.out (t:=t.data.toList) hx.out
   rw[←cb_lt] at hL hR
   generalize Lib.compareBytes x.nm t.data.toList=r at *
   replace hL:=hid hL
   replace hR:=hid hR
   replace hbel:=Below.tr hbel b1
   by_cases hr:r<0
   ·have hr':decide (r<0)=true:=by simp[hr]
    go_wp2_with fail
    go_roundw
    case rel=>exact⟨m+1,j,by omega,hjn,by go_num,rfl,hbel,hL.out hr,h2.out⟩
    case measure=>simp[Go.RowKit.intOf]; omega
   ·have hr':decide (r<0)=false:=by simp[hr]
    go_wp2_with fail
    go_roundw
    case rel=>exact⟨i,m,hmi.1,by omega,rfl,rfl,hbel,h1.out,hR.out hr⟩
    case measure=>simp[Go.RowKit.intOf]; omega
  ·obtain rfl:i=j:=by omega
   by_cases hin:i<n
   ·have hml:i<l.length:=by rw[hl.out]; omega
    have h':=h.out.below hbel
    obtain⟨b,off,rfl⟩:∃ b off,a=some ⟨b,off,none⟩:=by
     obtain⟨b,off,e,_⟩:=h'.2.2 (by omega)
     exact⟨b,off,e⟩
    have hx:l[i]? =some (l.getD i Ent.zero):=by rw[List.getElem?_eq_getElem hml]; simp[List.getD,hml]
    have hE:=h'.ent (i:=i) (by omega)
    have c2:=hE.c2
    have c0:=hE.c0
    have c1:=hE.c1
    replace hx:=hid hx
    clear hE h'
    generalize l.getD i Ent.zero=x at *
    go_wp2_with fail
    refine(cmpE_any x t wr).mono ?_
    rintro e w1 ⟨rfl,b1⟩
    clear c0 c1 c2
    have hq:=cb_eq x.nm t.data.toList
    generalize Lib.compareBytes x.nm t.data.toList=r at *
    have J:Hid (RetF Ent.nm l t.data.toList (.returned (.tuple #[.int .i64 i,.bool (r == 0)]))):=hid ⟨i,_,rfl,by rw[hl.out]; exact hjn,h1.out,h2.out,by
     rw[hx.out,beq_iff_eq,hq]
     constructor
     ·intro h; exact⟨x,rfl,h⟩
     ·rintro⟨y,e,h⟩; cases e; exact h⟩
    replace hbel:=Below.tr hbel b1
    clear hq
    go_wp2_with fail
    go_ret2
    exact⟨J.out,hbel⟩
   ·have J:Hid (RetF Ent.nm l t.data.toList (.returned (.tuple #[.int .i64 i,.bool false]))):=hid ⟨i,_,rfl,by rw[hl.out]; exact hjn,h1.out,h2.out,by
     rw[List.getElem?_eq_none (by rw[hl.out]; omega)]
     simp⟩
    go_wp2_with fail
    go_ret2
    exact⟨J.out,hbel⟩
theorem findE_any (Q:Nat→Prop) (a:Option Addr) (n c:Nat) (l:List Ent) (t:ByteArray) (w:World) (hn:n≤1000) (h:EntsAt Q w a n l) (ho:l.Pairwise fun a b=>a.nm<b.nm):
 Calls Tryz.prog 115 #[.slice a n c,.string t] w fun e w'=>RetF Ent.nm l t.data.toList e∧Below w.heap.size w w':=by
 go_enter Tryz.func115,Tryz.ntmps115
 go_wp2_with fail
 refine(searchE_any Q a n c l t w hn h ho).mono ?_
 rintro e w1 ⟨⟨p,b,rfl,hF⟩,b1⟩
 replace hF:=hid hF
 go_wp2_with fail
 go_ret2
 exact⟨⟨p,b,rfl,hF.out⟩,b1⟩
theorem cmpS_any (x:SnapE) (fa:Option Addr) (fn fc:Nat) (t:ByteArray) (w:World):
 Calls Tryz.prog 119 #[.agg #[.string x.name,.slice fa fn fc],.string t] w fun e w'=>e=.returned (.int .i64 (Lib.compareBytes x.nm t.data.toList))∧Below w.heap.size w w':=by
 have b0:=below_alloc w (.cells (Value.cells (.agg #[.string x.name,.slice fa fn fc])) 113)
 go_enter Tryz.func119,Tryz.ntmps119
 go_wp2_with fail
 refine(compare_any x.name t _).mono ?_
 rintro e w1 ⟨rfl,rfl⟩
 go_wp2_with fail
 go_ret
 exact⟨rfl,b0⟩
set_option maxHeartbeats 2000000 in
set_option maxRecDepth 100000 in
theorem searchS_any (Q:Nat→Prop) (a:Option Addr) (n c:Nat) (l:List SnapE) (t:ByteArray) (w:World) (hn:n≤1000) (h:SnapsAt Q w a n l) (ho:l.Pairwise fun a b=>a.nm<b.nm):
 Calls Tryz.prog 118 #[.slice a n c,.string t,.func (.func 119) #[] #[]] w fun e w'=>RetF SnapE.nm l t.data.toList e∧Below w.heap.size w w':=by
 have hl:=hid h.1
 replace h:=hid h
 replace ho:=hid ho
 go_enter Tryz.func118,Tryz.ntmps118
 go_wp2_with fail
 go_loopw [9,10] (fun u v wr=>∃ i j:Nat,i≤j∧j≤n∧u=.int .i64 i∧v=.int .i64 j∧Below w.heap.size w wr∧(∀ x∈l.take i,x.nm<t.data.toList)∧∀ x∈l.drop j,¬x.nm<t.data.toList) (fun u v _=>(Go.RowKit.intOf v).toNat-(Go.RowKit.intOf u).toNat)
 case atStart=>exact⟨0,n,Nat.zero_le _,Nat.le_refl _,rfl,rfl,Below.refl _ _,by simp,by rw[List.drop_of_length_le (by rw[hl.out]; exact Nat.le_refl _)]; simp⟩
 case round=>
  obtain⟨i,j,hij,hjn,rfl,rfl,hbel,h1,h2⟩:=hrel
  replace h1:=hid h1
  replace h2:=hid h2
  by_cases hlt:i<j
  ·obtain⟨m,hm⟩:∃ m:Nat,m=(i+j) / 2:=⟨_,rfl⟩
   have hm':((i:Int)+(j:Int)) / 2=(m:Int):=by omega
   have hmi:i≤m∧m<j:=by omega
   clear hm
   have hml:m<l.length:=by rw[hl.out]; omega
   have h':=h.out.below hbel
   obtain⟨b,off,rfl⟩:∃ b off,a=some ⟨b,off,none⟩:=by
    obtain⟨b,off,e,_⟩:=h'.2 (by omega)
    exact⟨b,off,e⟩
   have hx:l[m]? =some (l.getD m SnapE.zero):=by rw[List.getElem?_eq_getElem hml]; simp[List.getD,hml]
   obtain⟨fa,fn,fc,hE⟩:=h'.snap (i:=m) (by omega)
   have c0:=hE.c0
   have c1:=hE.c1
   replace hx:=hid hx
   clear hE h'
   generalize l.getD m SnapE.zero=x at *
   go_wp2_with fail
   refine(cmpS_any x fa fn fc t wr).mono ?_
   rintro e w1 ⟨rfl,b1⟩
   clear c0 c1
   have hL:=found_left ho.out (t:=t.data.toList) hx.out
   have hR:=found_right ho.out (t:=t.data.toList) hx.out
   rw[←cb_lt] at hL hR
   generalize Lib.compareBytes x.nm t.data.toList=r at *
   replace hL:=hid hL
   replace hR:=hid hR
   replace hbel:=Below.tr hbel b1
   by_cases hr:r<0
   ·have hr':decide (r<0)=true:=by simp[hr]
    go_wp2_with fail
    go_roundw
    case rel=>exact⟨m+1,j,by omega,hjn,by go_num,rfl,hbel,hL.out hr,h2.out⟩
    case measure=>simp[Go.RowKit.intOf]; omega
   ·have hr':decide (r<0)=false:=by simp[hr]
    go_wp2_with fail
    go_roundw
    case rel=>exact⟨i,m,hmi.1,by omega,rfl,rfl,hbel,h1.out,hR.out hr⟩
    case measure=>simp[Go.RowKit.intOf]; omega
  ·obtain rfl:i=j:=by omega
   by_cases hin:i<n
   ·have hml:i<l.length:=by rw[hl.out]; omega
    have h':=h.out.below hbel
    obtain⟨b,off,rfl⟩:∃ b off,a=some ⟨b,off,none⟩:=by
     obtain⟨b,off,e,_⟩:=h'.2 (by omega)
     exact⟨b,off,e⟩
    have hx:l[i]? =some (l.getD i SnapE.zero):=by rw[List.getElem?_eq_getElem hml]; simp[List.getD,hml]
    obtain⟨fa,fn,fc,hE⟩:=h'.snap (i:=i) (by omega)
    have c0:=hE.c0
    have c1:=hE.c1
    replace hx:=hid hx
    clear hE h'
    generalize l.getD i SnapE.zero=x at *
    go_wp2_with fail
    refine(cmpS_any x fa fn fc t wr).mono ?_
    rintro e w1 ⟨rfl,b1⟩
    clear c0 c1
    have hq:=cb_eq x.nm t.data.toList
    generalize Lib.compareBytes x.nm t.data.toList=r at *
    have J:Hid (RetF SnapE.nm l t.data.toList (.returned (.tuple #[.int .i64 i,.bool (r == 0)]))):=hid ⟨i,_,rfl,by rw[hl.out]; exact hjn,h1.out,h2.out,by
     rw[hx.out,beq_iff_eq,hq]
     constructor
     ·intro h; exact⟨x,rfl,h⟩
     ·rintro⟨y,e,h⟩; cases e; exact h⟩
    replace hbel:=Below.tr hbel b1
    clear hq
    go_wp2_with fail
    go_ret2
    exact⟨J.out,hbel⟩
   ·have J:Hid (RetF SnapE.nm l t.data.toList (.returned (.tuple #[.int .i64 i,.bool false]))):=hid ⟨i,_,rfl,by rw[hl.out]; exact hjn,h1.out,h2.out,by
     rw[List.getElem?_eq_none (by rw[hl.out]; omega)]
     simp⟩
    go_wp2_with fail
    go_ret2
    exact⟨J.out,hbel⟩
theorem findS_any (Q:Nat→Prop) (a:Option Addr) (n c:Nat) (l:List SnapE) (t:ByteArray) (w:World) (hn:n≤1000) (h:SnapsAt Q w a n l) (ho:l.Pairwise fun a b=>a.nm<b.nm):
 Calls Tryz.prog 96 #[.slice a n c,.string t] w fun e w'=>RetF SnapE.nm l t.data.toList e∧Below w.heap.size w w':=by
 go_enter Tryz.func96,Tryz.ntmps96
 go_wp2_with fail
 refine(searchS_any Q a n c l t w hn h ho).mono ?_
 rintro e w1 ⟨⟨p,b,rfl,hF⟩,b1⟩
 replace hF:=hid hF
 go_wp2_with fail
 go_ret2
 exact⟨⟨p,b,rfl,hF.out⟩,b1⟩
end Go.Proofs.YtjafgnohlkkopaaGreatDoor

namespace Go.Proofs.YtjafgnohlkkopaaGreatDoor
open Go.RowKit
theorem isSize_ok (n:Int) (w:World) (h:0≤n∧n≤256):
 Calls Tryz.prog 77 #[.int .i64 n] w fun e w'=>e=.returned (.bool true)∧w'=w:=by
 obtain⟨h0,h1⟩:=h
 go_enter Tryz.func77,Tryz.ntmps77
 go_wp2
 go_ret
 exact⟨rfl,rfl⟩
theorem isSize_no (n:Int) (w:World) (h:¬(0≤n∧n≤256)):
 Calls Tryz.prog 77 #[.int .i64 n] w fun e w'=>e=.returned (.bool false)∧w'=w:=by
 by_cases h0:n<0
 ·clear h
  go_enter Tryz.func77,Tryz.ntmps77
  go_wp2
  go_ret
  exact⟨rfl,rfl⟩
 ·have h1:¬n≤256:=by omega
  clear h
  go_enter Tryz.func77,Tryz.ntmps77
  go_wp2
  go_ret
  exact⟨rfl,rfl⟩
theorem notZero_any (x:Int) (w:World):
 Calls Tryz.prog 136 #[.int .u8 x] w fun e w'=>e=.returned (.bool (!(x == 0)))∧w'=w:=by
 go_enter Tryz.func136,Tryz.ntmps136
 go_wp2
 go_ret
 exact⟨rfl,rfl⟩
def RetNz (e:Ending) (n:Nat) (l:List Int):Prop:=(e=.returned (.int .i64 (-1))∧∀ i,i<n→l.getD i 0=0)∨(∃ i:Nat,e=.returned (.int .i64 i)∧i<n∧l.getD i 0≠0)
theorem indexNot_any (a:Option Addr) (n c:Nat) (l:List Int) (Q:Nat→Prop) (w:World) (hn:n≤1000) (h:NumsAt Q .u8 w a n l):
 Calls Tryz.prog 157 #[.slice a n c,.func (.func 136) #[] #[]] w fun e w'=>RetNz e n l∧w'=w:=by
 replace h:=hid h
 go_enter Tryz.func157,Tryz.ntmps157
 go_wp2_with fail
 go_loopw [8] (fun v wr=>∃ i:Nat,i≤n∧v=.int .i64 i∧wr=w∧∀ j,j<i→l.getD j 0=0) (fun v _=>n-(Go.RowKit.intOf v).toNat)
 case atStart=>exact⟨0,Nat.zero_le _,rfl,rfl,fun j hj=>absurd hj (by omega)⟩
 case round=>
  obtain⟨i,him,rfl,rfl,hz⟩:=hrel
  replace hz:=hid hz
  by_cases hlt:i<n
  ·obtain⟨b,off,rfl,hb,_,hc⟩:=h.out.2.2 (by omega)
   have hci:=hc i hlt
   clear hc
   generalize hx:l.getD i 0=x at *
   replace hx:=hid hx
   go_wp2_with fail
   refine(notZero_any x wr).mono ?_
   rintro e w1 ⟨rfl,rfl⟩
   by_cases h0:x=0
   ·have h0':(x == 0)=true:=by simp[h0]
    go_wp2_with fail
    go_roundw
    case rel=>exact⟨i+1,by omega,by go_num,by simp,fun j hj=>by
     by_cases e:j=i
     ·rw[e,hx.out,h0]
     ·exact hz.out j (by omega)⟩
    case measure=>simp[Go.RowKit.intOf]; omega
   ·have h0':(x == 0)=false:=by simp[h0]
    go_wp2_with fail
    go_ret
    exact⟨.inr ⟨i,rfl,hlt,by rw[hx.out]; exact h0⟩,rfl⟩
  ·obtain rfl:i=n:=by omega
   go_wp2_with fail
   go_ret
   exact⟨.inl ⟨rfl,hz.out⟩,rfl⟩
theorem getD_all {l:List Int} {n:Nat} (h:l.length=n):(∀ i,i<n→l.getD i 0=0)↔∀ x∈l,x=0:=by
 subst h
 constructor
 ·intro h x hx
  obtain⟨i,hi,rfl⟩:=List.mem_iff_getElem.1 hx
  have:=h i hi
  simpa [List.getD,hi] using this
 ·intro h i hi
  have e:l.getD i 0=l[i]:=by simp[List.getD,hi]
  rw[e]; exact h _ (List.getElem_mem hi)
def RetN (e:Ending) (l:List Int):Prop:=(e=.returned (.bool true)∧∀ x∈l,x=0)∨(e=.returned (.bool false)∧¬∀ x∈l,x=0)
theorem isNoughts_any (a:Option Addr) (n c:Nat) (l:List Int) (Q:Nat→Prop) (w:World) (hn:n≤1000) (h:NumsAt Q .u8 w a n l):
 Calls Tryz.prog 102 #[.slice a n c] w fun e w'=>RetN e l∧w'=w:=by
 have hl:=h.1
 have hcf:Calls Tryz.prog 135 #[.slice a n c,.func (.func 136) #[] #[]] w fun e w'=>((e=.returned (.bool false)∧∀ x∈l,x=0)∨(e=.returned (.bool true)∧¬∀ x∈l,x=0))∧w'=w:=by
  go_enter Tryz.func135,Tryz.ntmps135
  go_wp2_with fail
  refine(indexNot_any a n c l Q w hn h).mono ?_
  rintro e w1 ⟨⟨rfl,hz⟩ | ⟨i,rfl,hi,hx⟩,rfl⟩
  ·rw[getD_all hl] at hz
   replace hz:=hid hz
   go_wp2_with fail
   go_ret
   exact⟨.inl ⟨rfl,hz.out⟩,rfl⟩
  ·have hno:Hid (¬∀ x∈l,x=0):=hid fun f=>hx ((getD_all hl).2 f i hi)
   clear hx
   go_wp2_with fail
   go_ret
   exact⟨.inr ⟨rfl,hno.out⟩,rfl⟩
 replace hcf:=hid hcf
 clear h
 go_enter Tryz.func102,Tryz.ntmps102
 go_wp2_with fail
 refine hcf.out.mono ?_
 rintro e w1 ⟨⟨rfl,hz⟩ | ⟨rfl,hz⟩,rfl⟩
 ·replace hz:=hid hz
  go_wp2_with fail
  go_ret
  exact⟨.inl ⟨rfl,hz.out⟩,rfl⟩
 ·replace hz:=hid hz
  go_wp2_with fail
  go_ret
  exact⟨.inr ⟨rfl,hz.out⟩,rfl⟩
theorem NumsAt.bytesAt {Q:Nat→Prop} {w:World} {a:Option Addr} {n:Nat} {l:List Int} (h:NumsAt Q .u8 w a n l):BytesAt w a n l:=by
 refine⟨h.1,fun x hx=>by have:=bounds_u8 (h.2.1 x hx); omega,fun hn=>?_⟩
 obtain⟨b,off,h1,h2,_,h3⟩:=h.2.2 hn
 exact⟨b,off,h1,h2,h3⟩
theorem wf_u8 {x:Int} (h:0≤x∧x<256):(Lit.int .u8 x).wf=true:=by
 have h0:=h.1
 have h1:=h.2
 have e1:IntKind.u8.min=0:=rfl
 have e2:IntKind.u8.max=255:=rfl
 simp[Lit.wf]
 omega
theorem BytesAt.nums {w:World} {a:Option Addr} {n:Nat} {l:List Int} (h:BytesAt w a n l):NumsAt (fun _=>True) .u8 w a n l:=by
 refine⟨h.1,fun x hx=>wf_u8 (h.2.1 x hx),fun hn=>?_⟩
 obtain⟨b,off,h1,h2,h3⟩:=h.2.2 hn
 exact⟨b,off,h1,h2,trivial,h3⟩
theorem NumsAt.bytes {Q:Nat→Prop} {w:World} {a:Option Addr} {n:Nat} {l:List Int} (h:NumsAt Q .u8 w a n l):Bytes l:=h.bytesAt.2.1
theorem NumsAt.piece {Q:Nat→Prop} {k:IntKind} {w:World} {b off n:Nat} {l:List Int} (h:NumsAt Q k w (some ⟨b,off,none⟩) n l) {lo m:Nat} (hm:lo+m≤n):NumsAt Q k w (some ⟨b,off+lo,none⟩) m ((l.drop lo).take m):=by
 have hl:=h.1
 refine⟨by simp[hl]; omega,fun x hx=>h.2.1 x (List.mem_of_mem_drop (List.mem_of_mem_take hx)),fun hp=>?_⟩
 obtain⟨b', off', he,hb,hq,hc⟩:=h.2.2 (by omega)
 cases he
 refine⟨b,off+lo,rfl,hb,hq,fun i hi=>?_⟩
 rw[show off+lo+i=off+(lo+i) by omega,hc (lo+i) (by omega)]
 simp[List.getD,hi]
theorem cells_of_own {w:World} {B g n:Nat} {e:TypeId} {xs:List Value} (h:w.ownsRow B e 1 (.slice (some ⟨g,0,none⟩) n n) n xs):CellsAt w g xs.toArray e:=by
 rcases h.2 with⟨h0,_⟩ | ⟨g', cap', cur,hv,_,hh,_,_,hfit,ht⟩
 ·cases h0
 ·cases hv
  unfold CellsAt
  rw[hh,←ht,List.take_of_length_le (by simp[hfit])]
end Go.Proofs.YtjafgnohlkkopaaGreatDoor
