import Derived.Test.YtjafgnohlkkopaaGreatDoorPart08
import Derived.Lib.Bytealg
import Derived.Lib.Walk
import Derived.Laws.Strings
import Derived.Laws.Externs
import Derived.Laws.EntriesVeiled
set_option linter.unusedVariables false
set_option maxHeartbeats 8000000
set_option maxRecDepth 100000
namespace Go.Proofs.YtjafgnohlkkopaaGreatDoor
open Go.RowKit
theorem bK3:∀ a b:List UInt8,Lib.compareBytes a b<0↔a<b
 | [],[]=>by simp[Lib.compareBytes]
 | [],_::_=>by simp[Lib.compareBytes]
 | _::_,[]=>by simp[Lib.compareBytes]
 | a::xs,b::ys=>by
   rw[List.cons_lt_cons_iff]
   simp only[Lib.compareBytes]
   by_cases h:a<b
   ·simp[h]
   ·by_cases h2:b<a
    ·have hne:a≠b:=fun e=>by subst e; exact h h2
     simp[h,h2,hne]
    ·have he:a=b:=UInt8.le_antisymm (UInt8.not_lt.1 h2) (UInt8.not_lt.1 h)
     subst he
     simp[h,bK3 xs ys]
theorem bK4:∀ a b:List UInt8,Lib.compareBytes a b=0↔a=b
 | [],[]=>by simp[Lib.compareBytes]
 | [],_::_=>by simp[Lib.compareBytes]
 | _::_,[]=>by simp[Lib.compareBytes]
 | a::xs,b::ys=>by
   simp only[Lib.compareBytes]
   by_cases h:a<b
   ·have hne:a≠b:=fun e=>by subst e; exact absurd h (UInt8.lt_irrefl _)
    simp[h,hne]
   ·by_cases h2:b<a
    ·have hne:a≠b:=fun e=>by subst e; exact h h2
     simp[h,h2,hne]
    ·have he:a=b:=UInt8.le_antisymm (UInt8.not_lt.1 h2) (UInt8.not_lt.1 h)
     subst he
     simp[h,bK4 xs ys]
theorem cR0:∀ a b:List UInt8,0<Lib.compareBytes a b↔b<a
 | [],[]=>by simp[Lib.compareBytes]
 | [],_::_=>by simp[Lib.compareBytes]
 | _::_,[]=>by simp[Lib.compareBytes]
 | a::xs,b::ys=>by
   rw[List.cons_lt_cons_iff]
   simp only[Lib.compareBytes]
   by_cases h:a<b
   ·have h2:¬b<a:=fun h2=>absurd (UInt8.lt_trans h h2) (UInt8.lt_irrefl _)
    have hne:b≠a:=fun e=>by subst e; exact absurd h (UInt8.lt_irrefl _)
    simp[h,h2,hne]
   ·by_cases h2:b<a
    ·simp[h,h2]
    ·have he:a=b:=UInt8.le_antisymm (UInt8.not_lt.1 h2) (UInt8.not_lt.1 h)
     subst he
     simp[h,cR0 xs ys]
theorem cH4 (a b:List UInt8):a<b\/a=b\/b<a:=by
 rcases Int.lt_trichotomy (Lib.compareBytes a b) 0 with h | h | h
 ·exact .inl ((bK3 a b).1 h)
 ·exact .inr (.inl ((bK4 a b).1 h))
 ·exact .inr (.inr ((cR0 a b).1 h))
theorem nV (a:List UInt8):¬a<a:=fun h=>by
 have:=(bK3 a a).2 h
 have:=(bK4 a a).2 rfl
 omega
theorem bB0 {a b:List UInt8}(h:a<b):¬b<a:=fun h2=>nV a (List.lt_trans h h2)
theorem aB3:∀ x y:List UInt8,Op.bytesLess x y=true↔x<y
 | [],[]=>by simp[Op.bytesLess]
 | _::_,[]=>by simp[Op.bytesLess]
 | [],_::_=>by simp[Op.bytesLess]
 | a::x,b::y=>by
   rw[Op.bytesLess]
   simp only[List.cons_lt_cons_iff,Bool.or_eq_true,Bool.and_eq_true,decide_eq_true_eq,beq_iff_eq,aB3 x y]
theorem bN2 {P:Program}(t:TypeId)(s a:ByteArray)(w:World):(binOp .leq t (.string s) (.string a)).run P w=.ok (.bool (!decide (a.data.toList<s.data.toList))) w:=by
 have e:(Op.bytesLess s.toList a.toList || s.toList == a.toList)=!decide (a.data.toList<s.data.toList):=by
  rw[ByteArray.toList_eq,ByteArray.toList_eq,Bool.eq_iff_iff]
  simp only[Bool.or_eq_true,aB3,beq_iff_eq,Bool.not_eq_true', decide_eq_false_iff_not]
  constructor
  ·rintro (h | h)
   ·exact bB0 h
   ·rw[h]; exact nV _
  ·intro h
   rcases cH4 s.data.toList a.data.toList with h1 | h1 | h1
   ·exact .inl h1
   ·exact .inr h1
   ·exact absurd h1 h
 simp[binOp,Op.stringOp,e]
theorem tO (a b:ByteArray)(w:World):
 Calls Tryz.prog 91 #[.string a,.string b] w fun e w'=>e=.returned (.int .i64 (Lib.compareBytes a.data.toList b.data.toList))/\w'=w:=by
 go_enter Tryz.func91,Tryz.ntmps91
 go_wp2
 rw[run_callFunc_extern Tryz.func114 (by kernel_rfl) (by kernel_rfl) (by kernel_rfl) (e:=Extern.BytealgCompare.compare) (by kernel_rfl),Lib.run_compareString]
 simp only[Result.andThen]
 rw[Oper.upon_value]
 go_wp2
 go_ret
 exact⟨rfl,rfl⟩
theorem qO (a b:ByteArray)(w:World):
 Calls Tryz.prog 68 #[.string a,.string b] w fun e w'=>e=.returned (.int .i64 (Lib.compareBytes a.data.toList b.data.toList))/\w'=w:=by
 go_enter Tryz.func68,Tryz.ntmps68
 go_wp2_with (go_at_call 91; refine(tO _ _ _).mono ?_; rintro e w' ⟨rfl,rfl⟩)
 go_ret
 exact⟨rfl,rfl⟩
theorem bI9 (c:UInt8)(w:World):
 Calls Tryz.prog 88 #[.int .u8 (c.toNat:Int)] w fun e w'=>cT2 e (oV c)/\w'=w:=by
 have hL:oV c↔((97:Int)<=(c.toNat:Int)/\(c.toNat:Int)<=122)\/((48:Int)<=(c.toNat:Int)/\(c.toNat:Int)<=57):=by
  unfold oV
  simp only[UInt8.le_iff_toNat_le]
  have h1:(97:UInt8).toNat=97:=rfl
  have h2:(122:UInt8).toNat=122:=rfl
  have h3:(48:UInt8).toNat=48:=rfl
  have h4:(57:UInt8).toNat=57:=rfl
  rw[h1,h2,h3,h4]
  omega
 have hL':=hid hL
 clear hL
 generalize (c.toNat:Int)=x at *
 go_enter Tryz.func88,Tryz.ntmps88
 go_wp2_with fail
 all_goals (go_ret; refine⟨⟨_,rfl,?_⟩,rfl⟩; rw[hL'.out]; simp; omega)
theorem cO3 (s:ByteArray)(i:Nat)(hi:i<s.size):s.data.toList[i]? =some s[i]:=by
 have h:i<s.data.toList.length:=by simpa using hi
 rw[List.getElem?_eq_getElem h]
 rfl
theorem vH (s:ByteArray):s.data.toList.length=s.size:=rfl
theorem iO (s:ByteArray)(w:World)(hs:s.size<=maxLen):
 Calls Tryz.prog 64 #[.string s] w fun e w'=>cT2 e (aM s)/\w'=w:=by
 have hs':s.size<=9223372036854775807:=by unfold maxLen at hs; omega
 go_enter Tryz.func64,Tryz.ntmps64
 by_cases h0:s.size=0
 ·have h0':((s.size:Int) == 0)=true:=by simp[h0]
  go_wp2_with fail
  go_ret
  exact⟨⟨false,rfl,by simp only[Bool.false_eq_true,false_iff]; intro h; have:=h.1; rw[vH] at this; omega⟩,rfl⟩
 ·have h0':((s.size:Int) == 0)=false:=by simp[h0]
  by_cases h8:(8:Int)<(s.size:Int)
  ·go_wp2_with fail
   go_ret
   exact⟨⟨false,rfl,by simp only[Bool.false_eq_true,false_iff]; intro h; have:=h.2.1; rw[vH] at this; omega⟩,rfl⟩
  ·go_wp2_with fail
   go_loopw [14] (fun v wr=>∃ i:Nat,i<=s.size/\v=.int .i64 i/\wr=w/\∀ c∈s.data.toList.take i,oV c) (fun v _=>s.size-(Go.RowKit.intOf v).toNat)
   case atStart=>exact⟨0,Nat.zero_le _,rfl,rfl,by simp⟩
   case round=>
    obtain⟨i,hi,rfl,rfl,hc⟩:=hrel
    by_cases hlt:i<s.size
    ·have hltI:(i:Int)<(s.size:Int):=by omega
     have hat:=cO3 s i hlt
     replace hc:=hid hc
     replace hat:=hid hat
     go_wp2_with fail
     refine(bI9 s[i] _).mono ?_
     rintro e w1 ⟨⟨b,rfl,hb⟩,rfl⟩
     replace hb:=hid hb
     cases b
     ·go_wp2_with fail
      go_ret
      refine⟨⟨false,rfl,?_⟩,rfl⟩
      simp only[Bool.false_eq_true,false_iff]
      intro h
      have h1:oV s[i]:=h.2.2 _ (List.mem_of_getElem? hat.out)
      exact Bool.false_ne_true (hb.out.2 h1)
     ·go_wp2_with fail
      go_roundw
      case rel=>
       refine⟨i+1,by omega,by go_num,trivial,fun c hcm=>?_⟩
       rw[List.take_add_one,hat.out] at hcm
       rcases List.mem_append.1 hcm with h | h
       ·exact hc.out c h
       ·simp at h
        rw[h]
        exact hb.out.1 trivial
      case measure=>simp[Go.RowKit.intOf]; omega
    ·obtain rfl:i=s.size:=by omega
     have e1:s.data.toList.take s.size=s.data.toList:=List.take_of_length_le (Nat.le_refl _)
     rw[e1] at hc
     replace hc:=hid hc
     clear e1
     go_wp2_with fail
     go_ret
     exact⟨⟨true,rfl,by simp only[true_iff]; exact⟨by rw[vH]; omega,by rw[vH]; omega,hc.out⟩⟩,rfl⟩
def cO9 (s:ByteArray)(c:Int):Prop:=c=1/\¬aM s\/c=6/\aM s
theorem yM (a s:ByteArray)(w:World)(hs:s.size<=maxLen):
 Calls Tryz.prog 82 #[.string a,.string s] w fun e w'=>zB e (aM s/\a.data.toList<s.data.toList) (cO9 s)/\w'=w:=by
 go_enter Tryz.func82,Tryz.ntmps82
 go_wp2_with fail
 refine(iO s _ hs).mono ?_
 rintro e w1 ⟨⟨b,rfl,hb⟩,rfl⟩
 replace hb:=hid hb
 cases b
 ·go_wp2_with fail
  go_ret
  exact⟨aU 1 (by omega) (fun h=>Bool.false_ne_true (hb.out.2 h.1)) (.inl ⟨rfl,fun h=>Bool.false_ne_true (hb.out.2 h)⟩),rfl⟩
 ·have hN:=hid (hb.out.1 rfl)
  have hle:=fun w=>bN2 (P:=Tryz.prog) 9 s a w
  by_cases hlt:a.data.toList<s.data.toList
  ·have hd:decide (a.data.toList<s.data.toList)=true:=by simp[hlt]
   rw[hd] at hle
   replace hlt:=hid hlt
   clear hd
   go_wp2_with fail
   go_ret
   exact⟨gV ⟨hN.out,hlt.out⟩,rfl⟩
  ·have hd:decide (a.data.toList<s.data.toList)=false:=by simp[hlt]
   rw[hd] at hle
   replace hlt:=hid hlt
   clear hd
   go_wp2_with fail
   go_ret
   exact⟨aU 6 (by omega) (fun h=>hlt.out h.2) (.inr ⟨rfl,hN.out⟩),rfl⟩
structure Found {α:Type}(f:α->List UInt8)(l:List α)(t:List UInt8)(p:Nat)(b:Bool):Prop where
 le:p<=l.length
 ahead:∀ x∈l.take p,f x<t
 behind:∀ x∈l.drop p,¬f x<t
 there:b=true↔∃ x,l[p]? =some x/\f x=t
theorem tJ {α:Type}{f:α->List UInt8}{l:List α}{t:List UInt8}(ho:l.Pairwise fun a b=>f a<f b){h:Nat}{x:α}(hx:l[h]? =some x)(hlt:f x<t):∀ y∈l.take (h+1),f y<t:=by
 intro y hy
 obtain⟨k,hk,rfl⟩:=List.mem_iff_getElem.1 hy
 rw[List.length_take] at hk
 rw[List.getElem_take]
 obtain⟨hh,rfl⟩:=List.getElem?_eq_some_iff.1 hx
 by_cases e:k=h
 ·subst e; exact hlt
 ·exact List.lt_trans (List.pairwise_iff_getElem.1 ho k h (by omega) hh (by omega)) hlt
theorem qK {α:Type}{f:α->List UInt8}{l:List α}{t:List UInt8}(ho:l.Pairwise fun a b=>f a<f b){h:Nat}{x:α}(hx:l[h]? =some x)(hge:¬f x<t):∀ y∈l.drop h,¬f y<t:=by
 intro y hy
 obtain⟨k,hk,rfl⟩:=List.mem_iff_getElem.1 hy
 rw[List.length_drop] at hk
 rw[List.getElem_drop]
 obtain⟨hh,rfl⟩:=List.getElem?_eq_some_iff.1 hx
 by_cases e:k=0
 ·subst e; exact hge
 ·exact fun hl=>hge (List.lt_trans (List.pairwise_iff_getElem.1 ho h (h+k) hh (by omega) (by omega)) hl)
def bL7 {α:Type}(f:α->List UInt8)(l:List α)(t:List UInt8)(e:Ending):Prop:=∃ (p:Nat) (b:Bool),e=.returned (.tuple #[.int .i64 p,.bool b])/\Found f l t p b
theorem bD8 (x:Ent)(t:ByteArray)(w:World):
 Calls Tryz.prog 146 #[.agg #[.string x.name,.int .i64 x.root,.int .i64 x.size],.string t] w fun e w'=>e=.returned (.int .i64 (Lib.compareBytes x.nm t.data.toList))/\Below w.heap.size w w':=by
 have b0:=aA w (.cells (Value.cells (.agg #[.string x.name,.int .i64 x.root,.int .i64 x.size])) 106)
 go_enter Tryz.func146,Tryz.ntmps146
 go_wp2_with fail
 refine(qO x.name t _).mono ?_
 rintro e w1 ⟨rfl,rfl⟩
 go_wp2_with fail
 go_ret
 exact⟨rfl,b0⟩
theorem aS9 (Q:Nat->Prop)(a:Option Addr)(n c:Nat)(l:List Ent)(t:ByteArray)(w:World)(hn:n<=1000)(h:dU Q w a n l)(ho:l.Pairwise fun a b=>a.nm<b.nm):
 Calls Tryz.prog 145 #[.slice a n c,.string t,.func (.func 146) #[] #[]] w fun e w'=>bL7 Ent.nm l t.data.toList e/\Below w.heap.size w w':=by
 have hl:=hid h.1
 replace h:=hid h
 replace ho:=hid ho
 go_enter Tryz.func145,Tryz.ntmps145
 go_wp2_with fail
 go_loopw [9,10] (fun u v wr=>∃ i j:Nat,i<=j/\j<=n/\u=.int .i64 i/\v=.int .i64 j/\Below w.heap.size w wr/\(∀ x∈l.take i,x.nm<t.data.toList)/\∀ x∈l.drop j,¬x.nm<t.data.toList) (fun u v _=>(Go.RowKit.intOf v).toNat-(Go.RowKit.intOf u).toNat)
 case atStart=>exact⟨0,n,Nat.zero_le _,Nat.le_refl _,rfl,rfl,Below.refl _ _,by simp,by rw[List.drop_of_length_le (by rw[hl.out]; exact Nat.le_refl _)]; simp⟩
 case round=>
  obtain⟨i,j,hij,hjn,rfl,rfl,hbel,h1,h2⟩:=hrel
  replace h1:=hid h1
  replace h2:=hid h2
  by_cases hlt:i<j
  ·obtain⟨m,hm⟩:∃ m:Nat,m=(i+j) / 2:=⟨_,rfl⟩
   have hm':((i:Int)+(j:Int)) / 2=(m:Int):=by omega
   have hmi:i<=m/\m<j:=by omega
   clear hm
   have hml:m<l.length:=by rw[hl.out]; omega
   have h':=h.out.below hbel
   obtain⟨b,off,rfl⟩:∃ b off,a=some ⟨b,off,none⟩:=by
    obtain⟨b,off,e,_⟩:=h'.2.2 (by omega)
    exact⟨b,off,e⟩
   have hx:l[m]? =some (l.getD m Ent.zero):=by rw[List.getElem?_eq_getElem hml]; simp[List.getD,hml]
   have hE:=h'.ent (i:=m) (by omega)
   have c2:=hE.c2
   have c0:=hE.c0
   have c1:=hE.c1
   replace hx:=hid hx
   clear hE h'
   generalize l.getD m Ent.zero=x at *
   go_wp2_with fail
   refine(bD8 x t wr).mono ?_
   rintro e w1 ⟨rfl,b1⟩
   clear c0 c1 c2
   have hL:=tJ ho.out (t:=t.data.toList) hx.out
   have hR:=qK ho.out (t:=t.data.toList) hx.out
   rw[<-bK3] at hL hR
   generalize Lib.compareBytes x.nm t.data.toList=r at *
   replace hL:=hid hL
   replace hR:=hid hR
   replace hbel:=Below.tr hbel b1
   by_cases hr:r<0
   ·have hr':decide (r<0)=true:=by simp[hr]
    go_wp2_with fail
    go_roundw
    case rel=>exact⟨m+1,j,by omega,hjn,by go_num,rfl,hbel,hL.out hr,h2.out⟩
    case measure=>simp[Go.RowKit.intOf]; omega
   ·have hr':decide (r<0)=false:=by simp[hr]
    go_wp2_with fail
    go_roundw
    case rel=>exact⟨i,m,hmi.1,by omega,rfl,rfl,hbel,h1.out,hR.out hr⟩
    case measure=>simp[Go.RowKit.intOf]; omega
  ·obtain rfl:i=j:=by omega
   by_cases hin:i<n
   ·have hml:i<l.length:=by rw[hl.out]; omega
    have h':=h.out.below hbel
    obtain⟨b,off,rfl⟩:∃ b off,a=some ⟨b,off,none⟩:=by
     obtain⟨b,off,e,_⟩:=h'.2.2 (by omega)
     exact⟨b,off,e⟩
    have hx:l[i]? =some (l.getD i Ent.zero):=by rw[List.getElem?_eq_getElem hml]; simp[List.getD,hml]
    have hE:=h'.ent (i:=i) (by omega)
    have c2:=hE.c2
    have c0:=hE.c0
    have c1:=hE.c1
    replace hx:=hid hx
    clear hE h'
    generalize l.getD i Ent.zero=x at *
    go_wp2_with fail
    refine(bD8 x t wr).mono ?_
    rintro e w1 ⟨rfl,b1⟩
    clear c0 c1 c2
    have hq:=bK4 x.nm t.data.toList
    generalize Lib.compareBytes x.nm t.data.toList=r at *
    have J:Hid (bL7 Ent.nm l t.data.toList (.returned (.tuple #[.int .i64 i,.bool (r == 0)]))):=hid ⟨i,_,rfl,by rw[hl.out]; exact hjn,h1.out,h2.out,by
     rw[hx.out,beq_iff_eq,hq]
     constructor
     ·intro h; exact⟨x,rfl,h⟩
     ·rintro⟨y,e,h⟩; cases e; exact h⟩
    replace hbel:=Below.tr hbel b1
    clear hq
    go_wp2_with fail
    go_ret2
    exact⟨J.out,hbel⟩
   ·have J:Hid (bL7 Ent.nm l t.data.toList (.returned (.tuple #[.int .i64 i,.bool false]))):=hid ⟨i,_,rfl,by rw[hl.out]; exact hjn,h1.out,h2.out,by
     rw[List.getElem?_eq_none (by rw[hl.out]; omega)]
     simp⟩
    go_wp2_with fail
    go_ret2
    exact⟨J.out,hbel⟩
theorem iR (Q:Nat->Prop)(a:Option Addr)(n c:Nat)(l:List Ent)(t:ByteArray)(w:World)(hn:n<=1000)(h:dU Q w a n l)(ho:l.Pairwise fun a b=>a.nm<b.nm):
 Calls Tryz.prog 115 #[.slice a n c,.string t] w fun e w'=>bL7 Ent.nm l t.data.toList e/\Below w.heap.size w w':=by
 go_enter Tryz.func115,Tryz.ntmps115
 go_wp2_with fail
 refine(aS9 Q a n c l t w hn h ho).mono ?_
 rintro e w1 ⟨⟨p,b,rfl,hF⟩,b1⟩
 replace hF:=hid hF
 go_wp2_with fail
 go_ret2
 exact⟨⟨p,b,rfl,hF.out⟩,b1⟩
theorem bD7 (x:bD)(fa:Option Addr)(fn fc:Nat)(t:ByteArray)(w:World):
 Calls Tryz.prog 119 #[.agg #[.string x.name,.slice fa fn fc],.string t] w fun e w'=>e=.returned (.int .i64 (Lib.compareBytes x.nm t.data.toList))/\Below w.heap.size w w':=by
 have b0:=aA w (.cells (Value.cells (.agg #[.string x.name,.slice fa fn fc])) 113)
 go_enter Tryz.func119,Tryz.ntmps119
 go_wp2_with fail
 refine(qO x.name t _).mono ?_
 rintro e w1 ⟨rfl,rfl⟩
 go_wp2_with fail
 go_ret
 exact⟨rfl,b0⟩
theorem aS8 (Q:Nat->Prop)(a:Option Addr)(n c:Nat)(l:List bD)(t:ByteArray)(w:World)(hn:n<=1000)(h:dV Q w a n l)(ho:l.Pairwise fun a b=>a.nm<b.nm):
 Calls Tryz.prog 118 #[.slice a n c,.string t,.func (.func 119) #[] #[]] w fun e w'=>bL7 bD.nm l t.data.toList e/\Below w.heap.size w w':=by
 have hl:=hid h.1
 replace h:=hid h
 replace ho:=hid ho
 go_enter Tryz.func118,Tryz.ntmps118
 go_wp2_with fail
 go_loopw [9,10] (fun u v wr=>∃ i j:Nat,i<=j/\j<=n/\u=.int .i64 i/\v=.int .i64 j/\Below w.heap.size w wr/\(∀ x∈l.take i,x.nm<t.data.toList)/\∀ x∈l.drop j,¬x.nm<t.data.toList) (fun u v _=>(Go.RowKit.intOf v).toNat-(Go.RowKit.intOf u).toNat)
 case atStart=>exact⟨0,n,Nat.zero_le _,Nat.le_refl _,rfl,rfl,Below.refl _ _,by simp,by rw[List.drop_of_length_le (by rw[hl.out]; exact Nat.le_refl _)]; simp⟩
 case round=>
  obtain⟨i,j,hij,hjn,rfl,rfl,hbel,h1,h2⟩:=hrel
  replace h1:=hid h1
  replace h2:=hid h2
  by_cases hlt:i<j
  ·obtain⟨m,hm⟩:∃ m:Nat,m=(i+j) / 2:=⟨_,rfl⟩
   have hm':((i:Int)+(j:Int)) / 2=(m:Int):=by omega
   have hmi:i<=m/\m<j:=by omega
   clear hm
   have hml:m<l.length:=by rw[hl.out]; omega
   have h':=h.out.below hbel
   obtain⟨b,off,rfl⟩:∃ b off,a=some ⟨b,off,none⟩:=by
    obtain⟨b,off,e,_⟩:=h'.2 (by omega)
    exact⟨b,off,e⟩
   have hx:l[m]? =some (l.getD m bD.zero):=by rw[List.getElem?_eq_getElem hml]; simp[List.getD,hml]
   obtain⟨fa,fn,fc,hE⟩:=h'.snap (i:=m) (by omega)
   have c0:=hE.c0
   have c1:=hE.c1
   replace hx:=hid hx
   clear hE h'
   generalize l.getD m bD.zero=x at *
   go_wp2_with fail
   refine(bD7 x fa fn fc t wr).mono ?_
   rintro e w1 ⟨rfl,b1⟩
   clear c0 c1
   have hL:=tJ ho.out (t:=t.data.toList) hx.out
   have hR:=qK ho.out (t:=t.data.toList) hx.out
   rw[<-bK3] at hL hR
   generalize Lib.compareBytes x.nm t.data.toList=r at *
   replace hL:=hid hL
   replace hR:=hid hR
   replace hbel:=Below.tr hbel b1
   by_cases hr:r<0
   ·have hr':decide (r<0)=true:=by simp[hr]
    go_wp2_with fail
    go_roundw
    case rel=>exact⟨m+1,j,by omega,hjn,by go_num,rfl,hbel,hL.out hr,h2.out⟩
    case measure=>simp[Go.RowKit.intOf]; omega
   ·have hr':decide (r<0)=false:=by simp[hr]
    go_wp2_with fail
    go_roundw
    case rel=>exact⟨i,m,hmi.1,by omega,rfl,rfl,hbel,h1.out,hR.out hr⟩
    case measure=>simp[Go.RowKit.intOf]; omega
  ·obtain rfl:i=j:=by omega
   by_cases hin:i<n
   ·have hml:i<l.length:=by rw[hl.out]; omega
    have h':=h.out.below hbel
    obtain⟨b,off,rfl⟩:∃ b off,a=some ⟨b,off,none⟩:=by
     obtain⟨b,off,e,_⟩:=h'.2 (by omega)
     exact⟨b,off,e⟩
    have hx:l[i]? =some (l.getD i bD.zero):=by rw[List.getElem?_eq_getElem hml]; simp[List.getD,hml]
    obtain⟨fa,fn,fc,hE⟩:=h'.snap (i:=i) (by omega)
    have c0:=hE.c0
    have c1:=hE.c1
    replace hx:=hid hx
    clear hE h'
    generalize l.getD i bD.zero=x at *
    go_wp2_with fail
    refine(bD7 x fa fn fc t wr).mono ?_
    rintro e w1 ⟨rfl,b1⟩
    clear c0 c1
    have hq:=bK4 x.nm t.data.toList
    generalize Lib.compareBytes x.nm t.data.toList=r at *
    have J:Hid (bL7 bD.nm l t.data.toList (.returned (.tuple #[.int .i64 i,.bool (r == 0)]))):=hid ⟨i,_,rfl,by rw[hl.out]; exact hjn,h1.out,h2.out,by
     rw[hx.out,beq_iff_eq,hq]
     constructor
     ·intro h; exact⟨x,rfl,h⟩
     ·rintro⟨y,e,h⟩; cases e; exact h⟩
    replace hbel:=Below.tr hbel b1
    clear hq
    go_wp2_with fail
    go_ret2
    exact⟨J.out,hbel⟩
   ·have J:Hid (bL7 bD.nm l t.data.toList (.returned (.tuple #[.int .i64 i,.bool false]))):=hid ⟨i,_,rfl,by rw[hl.out]; exact hjn,h1.out,h2.out,by
     rw[List.getElem?_eq_none (by rw[hl.out]; omega)]
     simp⟩
    go_wp2_with fail
    go_ret2
    exact⟨J.out,hbel⟩
theorem yH (Q:Nat->Prop)(a:Option Addr)(n c:Nat)(l:List bD)(t:ByteArray)(w:World)(hn:n<=1000)(h:dV Q w a n l)(ho:l.Pairwise fun a b=>a.nm<b.nm):
 Calls Tryz.prog 96 #[.slice a n c,.string t] w fun e w'=>bL7 bD.nm l t.data.toList e/\Below w.heap.size w w':=by
 go_enter Tryz.func96,Tryz.ntmps96
 go_wp2_with fail
 refine(aS8 Q a n c l t w hn h ho).mono ?_
 rintro e w1 ⟨⟨p,b,rfl,hF⟩,b1⟩
 replace hF:=hid hF
 go_wp2_with fail
 go_ret2
 exact⟨⟨p,b,rfl,hF.out⟩,b1⟩
theorem fV (n:Int)(w:World)(h:0<=n/\n<=256):
 Calls Tryz.prog 77 #[.int .i64 n] w fun e w'=>e=.returned (.bool true)/\w'=w:=by
 obtain⟨h0,h1⟩:=h
 go_enter Tryz.func77,Tryz.ntmps77
 go_wp2
 go_ret
 exact⟨rfl,rfl⟩
theorem mD (n:Int)(w:World)(h:¬(0<=n/\n<=256)):
 Calls Tryz.prog 77 #[.int .i64 n] w fun e w'=>e=.returned (.bool false)/\w'=w:=by
 by_cases h0:n<0
 ·clear h
  go_enter Tryz.func77,Tryz.ntmps77
  go_wp2
  go_ret
  exact⟨rfl,rfl⟩
 ·have h1:¬n<=256:=by omega
  clear h
  go_enter Tryz.func77,Tryz.ntmps77
  go_wp2
  go_ret
  exact⟨rfl,rfl⟩
theorem aU3 (x:Int)(w:World):
 Calls Tryz.prog 136 #[.int .u8 x] w fun e w'=>e=.returned (.bool (!(x == 0)))/\w'=w:=by
 go_enter Tryz.func136,Tryz.ntmps136
 go_wp2
 go_ret
 exact⟨rfl,rfl⟩
def cU7 (e:Ending)(n:Nat)(l:List Int):Prop:=(e=.returned (.int .i64 (-1))/\∀ i,i<n->l.getD i 0=0)\/(∃ i:Nat,e=.returned (.int .i64 i)/\i<n/\l.getD i 0≠0)
theorem aN7 (a:Option Addr)(n c:Nat)(l:List Int)(Q:Nat->Prop)(w:World)(hn:n<=1000)(h:aI Q .u8 w a n l):
 Calls Tryz.prog 157 #[.slice a n c,.func (.func 136) #[] #[]] w fun e w'=>cU7 e n l/\w'=w:=by
 replace h:=hid h
 go_enter Tryz.func157,Tryz.ntmps157
 go_wp2_with fail
 go_loopw [8] (fun v wr=>∃ i:Nat,i<=n/\v=.int .i64 i/\wr=w/\∀ j,j<i->l.getD j 0=0) (fun v _=>n-(Go.RowKit.intOf v).toNat)
 case atStart=>exact⟨0,Nat.zero_le _,rfl,rfl,fun j hj=>absurd hj (by omega)⟩
 case round=>
  obtain⟨i,him,rfl,rfl,hz⟩:=hrel
  replace hz:=hid hz
  by_cases hlt:i<n
  ·obtain⟨b,off,rfl,hb,_,hc⟩:=h.out.2.2 (by omega)
   have hci:=hc i hlt
   clear hc
   generalize hx:l.getD i 0=x at *
   replace hx:=hid hx
   go_wp2_with fail
   refine(aU3 x wr).mono ?_
   rintro e w1 ⟨rfl,rfl⟩
   by_cases h0:x=0
   ·have h0':(x == 0)=true:=by simp[h0]
    go_wp2_with fail
    go_roundw
    case rel=>exact⟨i+1,by omega,by go_num,by simp,fun j hj=>by
     by_cases e:j=i
     ·rw[e,hx.out,h0]
     ·exact hz.out j (by omega)⟩
    case measure=>simp[Go.RowKit.intOf]; omega
   ·have h0':(x == 0)=false:=by simp[h0]
    go_wp2_with fail
    go_ret
    exact⟨.inr ⟨i,rfl,hlt,by rw[hx.out]; exact h0⟩,rfl⟩
  ·obtain rfl:i=n:=by omega
   go_wp2_with fail
   go_ret
   exact⟨.inl ⟨rfl,hz.out⟩,rfl⟩
theorem aG9 {l:List Int}{n:Nat}(h:l.length=n):(∀ i,i<n->l.getD i 0=0)↔∀ x∈l,x=0:=by
 subst h
 constructor
 ·intro h x hx
  obtain⟨i,hi,rfl⟩:=List.mem_iff_getElem.1 hx
  have:=h i hi
  simpa [List.getD,hi] using this
 ·intro h i hi
  have e:l.getD i 0=l[i]:=by simp[List.getD,hi]
  rw[e]; exact h _ (List.getElem_mem hi)
def cU9 (e:Ending)(l:List Int):Prop:=(e=.returned (.bool true)/\∀ x∈l,x=0)\/(e=.returned (.bool false)/\¬∀ x∈l,x=0)
theorem jQ (a:Option Addr)(n c:Nat)(l:List Int)(Q:Nat->Prop)(w:World)(hn:n<=1000)(h:aI Q .u8 w a n l):
 Calls Tryz.prog 102 #[.slice a n c] w fun e w'=>cU9 e l/\w'=w:=by
 have hl:=h.1
 have hcf:Calls Tryz.prog 135 #[.slice a n c,.func (.func 136) #[] #[]] w fun e w'=>((e=.returned (.bool false)/\∀ x∈l,x=0)\/(e=.returned (.bool true)/\¬∀ x∈l,x=0))/\w'=w:=by
  go_enter Tryz.func135,Tryz.ntmps135
  go_wp2_with fail
  refine(aN7 a n c l Q w hn h).mono ?_
  rintro e w1 ⟨⟨rfl,hz⟩ | ⟨i,rfl,hi,hx⟩,rfl⟩
  ·rw[aG9 hl] at hz
   replace hz:=hid hz
   go_wp2_with fail
   go_ret
   exact⟨.inl ⟨rfl,hz.out⟩,rfl⟩
  ·have hno:Hid (¬∀ x∈l,x=0):=hid fun f=>hx ((aG9 hl).2 f i hi)
   clear hx
   go_wp2_with fail
   go_ret
   exact⟨.inr ⟨rfl,hno.out⟩,rfl⟩
 replace hcf:=hid hcf
 clear h
 go_enter Tryz.func102,Tryz.ntmps102
 go_wp2_with fail
 refine hcf.out.mono ?_
 rintro e w1 ⟨⟨rfl,hz⟩ | ⟨rfl,hz⟩,rfl⟩
 ·replace hz:=hid hz
  go_wp2_with fail
  go_ret
  exact⟨.inl ⟨rfl,hz.out⟩,rfl⟩
 ·replace hz:=hid hz
  go_wp2_with fail
  go_ret
  exact⟨.inr ⟨rfl,hz.out⟩,rfl⟩
theorem aI.bytesAt {Q:Nat->Prop}{w:World}{a:Option Addr}{n:Nat}{l:List Int}(h:aI Q .u8 w a n l):BytesAt w a n l:=by
 refine⟨h.1,fun x hx=>by have:=bounds_u8 (h.2.1 x hx); omega,fun hn=>?_⟩
 obtain⟨b,off,h1,h2,_,h3⟩:=h.2.2 hn
 exact⟨b,off,h1,h2,h3⟩
theorem wf_u8 {x:Int}(h:0<=x/\x<256):(Lit.int .u8 x).wf=true:=by
 have h0:=h.1
 have h1:=h.2
 have e1:IntKind.u8.min=0:=rfl
 have e2:IntKind.u8.max=255:=rfl
 simp[Lit.wf]
 omega
theorem BytesAt.nums {w:World}{a:Option Addr}{n:Nat}{l:List Int}(h:BytesAt w a n l):aI (fun _=>True) .u8 w a n l:=by
 refine⟨h.1,fun x hx=>wf_u8 (h.2.1 x hx),fun hn=>?_⟩
 obtain⟨b,off,h1,h2,h3⟩:=h.2.2 hn
 exact⟨b,off,h1,h2,trivial,h3⟩
theorem aI.bytes {Q:Nat->Prop}{w:World}{a:Option Addr}{n:Nat}{l:List Int}(h:aI Q .u8 w a n l):Bytes l:=h.bytesAt.2.1
theorem aI.piece {Q:Nat->Prop}{k:IntKind}{w:World}{b off n:Nat}{l:List Int}(h:aI Q k w (some ⟨b,off,none⟩) n l){lo m:Nat}(hm:lo+m<=n):aI Q k w (some ⟨b,off+lo,none⟩) m ((l.drop lo).take m):=by
 have hl:=h.1
 refine⟨by simp[hl]; omega,fun x hx=>h.2.1 x (List.mem_of_mem_drop (List.mem_of_mem_take hx)),fun hp=>?_⟩
 obtain⟨b', off', he,hb,hq,hc⟩:=h.2.2 (by omega)
 cases he
 refine⟨b,off+lo,rfl,hb,hq,fun i hi=>?_⟩
 rw[show off+lo+i=off+(lo+i) by omega,hc (lo+i) (by omega)]
 simp[List.getD,hi]
theorem aQ0 {w:World}{B g n:Nat}{e:TypeId}{xs:List Value}(h:w.ownsRow B e 1 (.slice (some ⟨g,0,none⟩) n n) n xs):aC w g xs.toArray e:=by
 rcases h.2 with⟨h0,_⟩ | ⟨g', cap', cur,hv,_,hh,_,_,hfit,ht⟩
 ·cases h0
 ·cases hv
  unfold aC
  rw[hh,<-ht,List.take_of_length_le (by simp[hfit])]
theorem sZ {α β:Type}(f:α->β)(L:List α)(off:Nat)(cs:List α):splice (L.map f) off (cs.map f)=(splice L off cs).map f:=by
 simp[splice]
def qF (key:Int)(L:Nat->List Int)(i:Nat):List Int:=(List.range 256).map fun k=>if k<4*i then (plain key (k / 4) (L (k / 4))).getD (k%4) 0 else 0
theorem dP (key:Int)(L:Nat->List Int)(i:Nat):(qF key L i).length=256:=by simp[qF]
theorem lU (key:Int)(L:Nat->List Int)(i k:Nat)(hk:k<256):(qF key L i).getD k 0=if k<4*i then (plain key (k / 4) (L (k / 4))).getD (k%4) 0 else 0:=by simp[qF,List.getD,hk]
theorem bF8 (key:Int)(L:Nat->List Int):qF key L 0=zeros 256:=by
 apply eQ
 ·rw[dP,zeros_length]
 ·intro k hk
  rw[dP] at hk
  rw[lU _ _ _ _ hk,if_neg (by omega),lT]
theorem bO1 (key:Int)(L:Nat->List Int):qF key L 64=aR key L:=by
 unfold qF aR
 apply List.map_congr_left
 intro k hk
 rw[if_pos (by have:=List.mem_range.1 hk; omega)]
theorem bE6 (j:Nat):([0,0,0,0]:List Int).getD j 0=0:=by
 match j with
 | 0=>rfl
 | 1=>rfl
 | 2=>rfl
 | 3=>rfl
 | j+4=>rfl
theorem bF9 (key:Int)(L:Nat->List Int)(i:Nat)(h:L i=[]):qF key L (i+1)=qF key L i:=by
 apply eQ
 ·rw[dP,dP]
 ·intro k hk
  rw[dP] at hk
  rw[lU _ _ _ _ hk,lU _ _ _ _ hk]
  by_cases h1:k<4*i
  ·rw[if_pos h1,if_pos (by omega)]
  ·rw[if_neg h1]
   by_cases h2:k<4*(i+1)
   ·rw[if_pos h2,show k / 4=i by omega,h,rF,bE6]
   ·rw[if_neg h2]
theorem bG0 (key:Int)(L:Nat->List Int)(i:Nat)(hi:i<64)(h:L i≠[])(h4:(L i).length=4):splice (qF key L i) (4*i) (sU key (fB i) (L i))=qF key L (i+1):=by
 have hl:(sU key (fB i) (L i)).length=4:=by rw[iB,h4]
 apply eQ
 ·rw[length_splice _ _ _ (by rw[hl,dP]; omega),dP,dP]
 ·intro k hk
  rw[length_splice _ _ _ (by rw[hl,dP]; omega),dP] at hk
  rw[qE _ _ _ (by rw[hl,dP]; omega),hl,lU _ _ _ _ hk,lU _ _ _ _ hk]
  by_cases h1:k<4*i
  ·rw[if_neg (by omega),if_pos h1,if_pos (by omega)]
  ·by_cases h2:k<4*(i+1)
   ·rw[if_pos ⟨by omega,by omega⟩,if_pos h2,show k / 4=i by omega,show k%4=k-4*i by omega]
    simp[plain,h]
   ·rw[if_neg (by omega),if_neg h1,if_neg h2]
theorem fI {w:World}{g:Nat}{l:List Int}{t:TypeId}{Q:Nat->Prop}(hq:Q g)(hb:Bytes l)(h:aC w g (l.map (Value.int .u8)).toArray t):aI Q .u8 w (some ⟨g,0,none⟩) l.length l:=by
 refine⟨rfl,fun x hx=>wf_u8 (hb x hx),fun _=>⟨g,0,rfl,h.lt,hq,fun i hi=>?_⟩⟩
 rw[Nat.zero_add,h.cell i]
 simp[List.getD,hi]
structure OE (W wr:World)(g:Nat)(key:Int)(L:Nat->List Int)(i:Nat):Prop where
 row:aC wr g ((qF key L i).map (Value.int .u8)).toArray 5
 bel:Below W.heap.size W wr
 form:∀ j,j<i->L j=[]\/plain key j (L j)≠[0,0,0,0]
def cW5 (base:Nat)(e:Ending)(w:World)(n:Nat)(B:Nat->Blk)(key root size:Int):Prop:=
 (∃ e':Int,e=.returned (.tuple #[.slice none 0 0,.int .i64 e'])/\e'≠0/\¬bQ n B key root size)\/
 (∃ g:Nat,e=.returned (.tuple #[.slice (some ⟨g,0,none⟩) 256 256,.int .i64 0])/\bQ n B key root size/\base<=g/\aC w g ((aR key (aH B 3 root)).map (Value.int .u8)).toArray 5)
theorem bT2 {key:Int}(h:aI4 key 0=true):0<=key/\key<=1000:=by have:=lZ h; omega
theorem bB9 {key:Int}(h:aI4 key 0=false):¬(0<=key/\key<=1000):=by have:=oU h; omega
theorem uI (i:Nat):(i:Int)=fB i:=rfl
theorem pU {key:Int}(hk:0<=key/\key<=1000){i:Nat}(hi:i<64):aI4 key (i:Int)=true:=aE1 hk hi
theorem Tryz.sizeByte:(Tryz.prog.info? 5).map (·.size)=some 1:=by kernel_rfl
theorem aF0 (l:List Int):∀ v∈l.map (Value.int .u8),v.oneCell'=true:=by
 intro v hv
 obtain⟨x,_,rfl⟩:=List.mem_map.1 hv
 rfl
theorem aE0 {w:World}{b off n:Nat}{l:List Int}{Q:Nat->Prop}(h:aI Q .u8 w (some ⟨b,off,none⟩) n l)(hn:0<n):∀ j v,(l.map (Value.int .u8))[j]? =some v->w.cell? ((⟨b,off,none⟩:Addr).add j)=some v:=by
 intro j v hj
 have hjl:j<l.length:=by
  rcases Nat.lt_or_ge j l.length with h' | h'
  ·exact h'
  ·rw[List.getElem?_eq_none (by simpa using h')] at hj; cases hj
 obtain⟨b', off', he,hb,_,hc⟩:=h.2.2 hn
 cases he
 have ea:(⟨b,off,none⟩:Addr).add j=⟨b,off+j,none⟩:=by unfold Addr.add; split<;>simp_all
 rw[ea,hc j (by rw[<-h.1]; exact hjl)]
 simp[hjl] at hj
 simp[List.getD,hjl,hj]
theorem rW {w w0:World}{B g off dLen dCap sLen sCap m:Nat}{sp:Option Addr}{t:TypeId}(Y X:List Value)(hY:aC w g Y.toArray t)(hm:X.length=m)(hn:m=Nat.min sLen dLen)
 (hsrc:0<m->∃ ad,sp=some ad/\∀ j v,X[j]? =some v->w.cell? (ad.add j)=some v) (hfit:off+m<=Y.length) (h1:∀ v∈X,v.oneCell'=true) (hb:Below B w0 w) (hBg:B<=g):
 ∃ w', (∀ ty,(Builtin.copy_ #[28,28] ty #[.slice (some ⟨g,off,none⟩) dLen dCap,.slice sp sLen sCap]).run Tryz.prog w=.ok (goInt m) w')/\aC w' g (splice Y off X).toArray t/\Below B w0 w':=by
 by_cases h0:m=0
 ·obtain rfl:X=[]:=List.eq_nil_of_length_eq_zero (by omega)
  subst h0
  exact⟨w,fun ty=>run_copy_none (P:=Tryz.prog) w 28 28 ty 5 _ sp dLen dCap sLen sCap Tryz.underlying28 Tryz.sizeByte hn.symm,by simpa [splice] using hY,hb⟩
 ·obtain⟨ad,rfl,hs⟩:=hsrc (by omega)
  refine⟨w.setRow g (Y.take off++(X++Y.drop (off+X.length))).toArray,fun ty=>?_,?_,below_setRow hb hBg _⟩
  ·have:=run_copy_row (P:=Tryz.prog) w 28 28 ty 5 g off dLen dCap ad sLen sCap Y.toArray t X Tryz.underlying28 Tryz.sizeByte hY (by omega) hs (by simp; omega) h1
   rw[<-hm]
   rw[List.append_assoc] at this
   exact this
  ·exact setRow_heap w g _ _ t _ hY
theorem rR {w:World}{B g n:Nat}(h:w.ownsRow B 5 1 (.slice (some ⟨g,0,none⟩) n n) n (madeCells (Value.cells (.int .u8 0)) (n*1)).toList):aC w g ((zeros n).map (Value.int .u8)).toArray 5:=by
 rw[aB2] at h
 exact aQ0 h
theorem cA4 {w3 w4:World}{key:Int}{L:Nat->List Int}{B:Nat}(hown:w4.ownsRow B 5 1 (.slice (some ⟨w3.heap.size,0,none⟩) 256 256) 256 (madeCells (Value.cells (.int .u8 0)) (256*1)).toList)(hgr:w3.grownBy w4 none):OE w3 w4 w3.heap.size key L 0:=by
 refine⟨?_,⟨hgr.os,hgr.tape,hgr.output,hgr.size,fun k hk=>hgr.block k hk (by simp)⟩,fun j hj=>absurd hj (by omega)⟩
 rw[bF8]
 exact rR hown
def aL5 (n:Nat)(B:Nat->Blk)(key root size c:Int):Prop:=Right n B->c=3/\¬((0<=key/\key<=1000)/\0<=size/\size<=256)\/((0<=key/\key<=1000)/\0<=size/\size<=256)/\(c=5/\¬(root=0\/There n B root)\/c=4/\(root=0\/There n B root))
theorem cH2 (a:Option Addr)(n c:Nat)(B:Nat->Blk)(key root size:Int)(w:World)(h:aN w a n B):
 Calls Tryz.prog 76 #[.agg #[.slice a n c],.int .i64 key,.agg #[.int .i64 root,.int .i64 size]] w fun e w'=>(cW5 w.heap.size e w' n B key root size/\cT3 e (aL5 n B key root size))/\Below w.heap.size w w':=by
 obtain⟨i0,hi0,hz0,hz1,hz2⟩:=info_parts Tryz.infoByte
 have b0:=(aA w (.cells #[.slice a n c] 24)).alloc (by simp) (.cells #[.int .i64 root,.int .i64 size] 104)
 have ks:aC _ w.heap.size #[.slice a n c] 24:=(aB w _ _).below (aA _ (.cells #[.int .i64 root,.int .i64 size] 104))
 have kf:aC _ (w.heap.size+1) #[.int .i64 root,.int .i64 size] 104:=aF w (.cells #[.slice a n c] 24) _ _
 replace b0:=hid b0
 replace ks:=hid ks
 replace kf:=hid kf
 replace h:=hid h
 by_cases hk:aI4 key 0=true
 case neg=>
  have hk':aI4 key 0=false:=by simpa using hk
  have hno:Hid (¬bQ n B key root size):=hid fun f=>bB9 hk' f.kb
  clear hk
  go_enter Tryz.func76,Tryz.ntmps76
  go_wp2_with fail
  generalize (w.alloc (.cells #[.slice a n c] 24)).alloc (.cells #[.int .i64 root,.int .i64 size] 104)=w0 at *
  refine(aH5 key 0 w0 hk').mono ?_
  rintro e w1 ⟨rfl,rfl⟩
  go_wp2_with fail
  go_ret2
  exact⟨⟨.inl ⟨3,rfl,by omega,hno.out⟩,qN (fun _=>.inl ⟨rfl,fun f=>bB9 hk' f.1⟩)⟩,b0.out⟩
 have hkb:=bT2 hk
 go_enter Tryz.func76,Tryz.ntmps76
 go_wp2_with fail
 generalize (w.alloc (.cells #[.slice a n c] 24)).alloc (.cells #[.int .i64 root,.int .i64 size] 104)=w0 at *
 refine(rZ key 0 w0 hk).mono ?_
 rintro e w1 ⟨rfl,rfl⟩
 replace hkb:=hid hkb
 clear hk
 have s0:=ks.out.cell 0
 have f0:=kf.out.cell 0
 have f1:=kf.out.cell 1
 simp at s0 f0 f1
 by_cases hs:0<=size/\size<=256
 case neg=>
  have hno:Hid (¬bQ n B key root size):=hid fun f=>hs f.sb
  have hs3:Hid (aL5 n B key root size 3):=hid fun _=>.inl ⟨rfl,fun f=>hs f.2⟩
  go_wp2_with fail
  refine(mD size _ hs).mono ?_
  rintro e w2 ⟨rfl,rfl⟩
  clear hs
  go_wp2_with fail
  go_ret2
  exact⟨⟨.inl ⟨3,rfl,by omega,hno.out⟩,qN hs3.out⟩,b0.out⟩
 go_wp2_with fail
 refine(fV size _ hs).mono ?_
 rintro e w2 ⟨rfl,rfl⟩
 obtain⟨sz,rfl⟩:∃ sz:Nat,size=(sz:Int):=⟨size.toNat,by omega⟩
 have hsz:sz<=256:=by omega
 clear hs
 go_wp2_with fail
 refine(bM5 a n c B root 3 w2 (h.out.below b0.out)).mono ?_
 rintro e w3 ⟨⟨hA,hS⟩,b3⟩
 rcases hA with⟨e', rfl,he,hno⟩ | ⟨l,va,vc,rfl,hl,hl3,hR,hr,hW⟩
 ·have he':(e' == 0)=false:=by simp[he]
  have hno':Hid (¬bQ n B key root sz):=hid fun f=>hno f.checked
  have hs2:Hid (aL5 n B key root sz e'):=hid fun f=>.inr ⟨⟨hkb.out,by omega⟩,hS e' rfl he f rfl rfl⟩
  clear hno hS
  have bel:=Below.tr b0.out b3
  go_wp2_with fail
  go_ret2
  exact⟨⟨.inl ⟨e', rfl,he,hno'.out⟩,qN hs2.out⟩,bel⟩
 clear hS
 obtain rfl:l=3:=by omega
 have hs4:Hid (aL5 n B key root sz 4):=hid fun _=>.inr ⟨⟨hkb.out,by omega⟩,.inr ⟨rfl,Or.imp id And.left hr⟩⟩
 have f1':=(kf.out.below b3).cell 1
 simp at f1'
 replace kf:=hid (kf.out.below b3)
 have bel:=hid (Below.tr b0.out b3)
 have h04:=fun i hi=>xY hR 3 root hr i hi
 replace h04:=hid h04
 replace hR:=hid hR
 replace hr:=hid hr
 replace hW:=hid hW
 clear hl hl3 s0 f0 f1 b0 ks h
 have e64:pw 3=64:=rfl
 rw[e64]
 have hb3:=hid b3
 have hw3:w.heap.size<=w3.heap.size:=bel.out.size
 clear b3
 go_wp2_with (at_make; refine wpList_make_full _ rfl (.const (.int .i64 256)) (.const (.int .i64 256)) 28 rfl w.heap.size 5 i0 (.int .u8 0) 1 Tryz.underlying28 hi0 hz0 hz1 .i64 .i64 256 256 256 rfl rfl rfl rfl (by rw[hz2]; omega) (by unfold maxLen; omega) hw3 ?_; intro w4 hown hgr; replace hown:=hid hown; replace hgr:=hid hgr)
 have hE0:=hid (cA4 (key:=key) (L:=aH B 3 root) hown.out hgr.out)
 clear hown hgr
 go_loopw [38] (fun v wr=>∃ i:Nat,i<=64/\v=.int .i64 i/\OE w3 wr w3.heap.size key (aH B 3 root) i) (fun v _=>64-(Go.RowKit.intOf v).toNat)
 case atStart=>exact⟨0,Nat.zero_le _,rfl,hE0.out⟩
 case round=>
  clear hE0
  obtain⟨i,hi64,rfl,hE⟩:=hrel
  by_cases hlt:i<64
  ·obtain⟨rb,ro,x,ln,lc,rfl,hrb,hrc,hrN⟩:=(hW.out.below hE.bel).2 i hlt
   rw[aM9 B 3 root i hlt] at hrN
   have hlen:=hrN.1
   rcases h04.out i hlt with h0 | h4
   ·have hn0:ln=0:=by rw[<-hlen,h0]; rfl
    subst hn0
    have hE':Hid (OE w3 wr w3.heap.size key (aH B 3 root) (i+1)):=hid ⟨by rw[bF9 _ _ _ h0]; exact hE.row,hE.bel,fun j hj=>by
     by_cases e:j=i
     ·subst e; exact .inl h0
     ·exact hE.form j (by omega)⟩
    clear hE hrN hlen h0
    go_wp2_with fail
    go_roundw
    case rel=>exact⟨i+1,by omega,by go_num,hE'.out⟩
    case measure=>simp[Go.RowKit.intOf]; omega
   ·have hn4:ln=4:=by omega
    subst hn4
    clear hlen
    replace hE:=hid hE
    replace hrN:=hid hrN
    replace h4:=hid h4
    go_wp2_with fail
    refine(cK2 key _ x 4 lc _ wr (pU hkb.out hlt) (by omega) hrN.out.bytesAt).mono ?_
    rintro e w5 ⟨g5,rfl,hB5,b5⟩
    rw[uI i] at hB5
    have hne:Hid (aH B 3 root i≠[]):=hid fun f=>by have:=h4.out; rw[f] at this; simp at this
    have hpl:Hid (plain key i (aH B 3 root i)=sU key (fB i) (aH B 3 root i)):=hid (if_neg hne.out)
    have hol:Hid ((sU key (fB i) (aH B 3 root i)).length=4):=hid (by rw[iB]; exact h4.out)
    have hrow5:=hid (hE.out.row.below b5)
    have hE5:Hid (Below w3.heap.size w3 w5):=hid (hE.out.bel.trans (b5.mono hE.out.bel.size))
    have hnx:=hid (bG0 key (aH B 3 root) i hlt hne.out h4.out)
    have hN5:=hid hB5.nums
    have bel5:Hid (Below w.heap.size w w5):=hid (Below.tr bel.out hE5.out)
    clear hB5 b5
    generalize sU key (fB i) (aH B 3 root i)=op at *
    go_wp2_with fail
    refine(jQ _ 4 _ op (fun _=>True) w5 (by omega) hN5.out).mono ?_
    rintro e w6 ⟨⟨rfl,hz⟩ | ⟨rfl,hz⟩,rfl⟩
    ·have hno:Hid (¬bQ n B key root sz):=hid fun f=>by
      rcases f.form i hlt with h | h
      ·exact hne.out h
      ·exact h (by rw[hpl.out]; exact aO2 hol.out hz)
     clear hz
     go_wp2_with fail
     go_ret2
     exact⟨⟨.inl ⟨4,rfl,by omega,hno.out⟩,qN hs4.out⟩,bel5.out⟩
    ·have hE6:Hid (∀ w7,aC w7 w3.heap.size (splice ((qF key (aH B 3 root) i).map (Value.int .u8)) (4*i) (op.map (Value.int .u8))).toArray 5->Below w3.heap.size w3 w7->OE w3 w7 w3.heap.size key (aH B 3 root) (i+1)):=hid fun w7 h1 h2=>⟨by rw[<-hnx.out,<-sZ]; exact h1,h2,fun j hj=>by
      by_cases e:j=i
      ·subst e; exact .inr (by rw[hpl.out]; intro f; exact hz (by rw[f]; intro x hx; simp at hx; exact hx))
      ·exact hE.out.form j (by omega)⟩
     have hone:=hid (aF0 op)
     have hsrc:=hid (aE0 hN5.out (by omega))
     have hcl:Hid ((op.map (Value.int .u8)).length=4):=hid (by rw[List.length_map]; exact hol.out)
     have hrl:Hid (((qF key (aH B 3 root) i).map (Value.int .u8)).length=256):=hid (by rw[List.length_map,dP])
     clear hz hE hrN
     generalize op.map (Value.int .u8)=X at *
     generalize (qF key (aH B 3 root) i).map (Value.int .u8)=Y at *
     obtain⟨w7,hrun,hr7,b7⟩:=rW (off:=i*4) (dLen:=256-i*4) (dCap:=256-i*4) (sLen:=4) (sCap:=4) (sp:=some ⟨g5,0,none⟩) Y X hrow5.out hcl.out (by show 4=min 4 (256-i*4); omega) (fun _=>⟨_,rfl,hsrc.out⟩) (by rw[hrl.out]; omega) hone.out hE5.out (Nat.le_refl _)
     rw[Nat.mul_comm i 4] at hr7
     replace hr7:=hid (hE6.out w7 hr7 b7)
     clear b7 hE6 hrow5
     go_wp2_with fail
     go_roundw
     case rel=>exact⟨i+1,by omega,by go_num,hr7.out⟩
     case measure=>simp[Go.RowKit.intOf]; omega
  ·obtain rfl:i=64:=by omega
   have hrow:=hE.row
   rw[bO1] at hrow
   have hform:=hid hE.form
   have bel6:=hid (Below.tr bel.out hE.bel)
   have hN:=fI (Q:=fun _=>True) trivial (jA key (aH B 3 root)) hrow
   rw[cK] at hN
   have hpc:=hid (hN.piece (lo:=sz) (m:=256-sz) (by omega))
   have hfl:=cK key (aH B 3 root)
   have f2:=(hE.bel.cell (p:=⟨w.heap.size+1,1,none⟩) kf.out.lt).trans f1'
   have hbeh:Hid ((∀ x∈((aR key (aH B 3 root)).drop sz).take (256-sz),x=0)↔∀ k:Nat,(sz:Int)<=k->k<256->(aR key (aH B 3 root)).getD k 0=0):=hid (by
    have hl2:(((aR key (aH B 3 root)).drop sz).take (256-sz)).length=256-sz:=by simp[hfl]
    have hg:∀ j,j<256-sz->(((aR key (aH B 3 root)).drop sz).take (256-sz)).getD j 0=(aR key (aH B 3 root)).getD (sz+j) 0:=fun j hj=>by simp[List.getD,hj]
    rw[<-aG9 hl2]
    constructor
    ·intro h k h1 h2
     have:=h (k-sz) (by omega)
     rw[hg _ (by omega),show sz+(k-sz)=k by omega] at this
     exact this
    ·intro h j hj
     rw[hg j hj]
     exact h (sz+j) (by omega) (by omega))
   replace hrow:=hid hrow
   replace hfl:=hid hfl
   clear hE hN
   have hok:Hid ((∀ x∈((aR key (aH B 3 root)).drop sz).take (256-sz),x=0)↔bQ n B key root sz):=hid ⟨fun f=>⟨hkb.out,by omega,hR.out,hr.out,hform.out,hbeh.out.1 f⟩,fun f=>hbeh.out.2 f.behind⟩
   generalize ((aR key (aH B 3 root)).drop sz).take (256-sz)=tl at *
   clear hbeh hform
   rcases Nat.lt_or_ge sz 256 with hs2 | hs2
   ·rw[Nat.zero_add] at hpc
    go_wp2_with fail
    refine(jQ _ _ _ tl (fun _=>True) wr (by omega) hpc.out).mono ?_
    rintro e w6 ⟨⟨rfl,hz⟩ | ⟨rfl,hz⟩,rfl⟩
    ·rw[hok.out] at hz
     replace hz:=hid hz
     go_wp2_with fail
     go_ret2
     exact⟨⟨.inr ⟨w3.heap.size,rfl,hz.out,hw3,hrow.out⟩,aH2⟩,bel6.out⟩
    ·rw[hok.out] at hz
     replace hz:=hid hz
     go_wp2_with fail
     go_ret2
     exact⟨⟨.inl ⟨4,rfl,by omega,hz.out⟩,qN hs4.out⟩,bel6.out⟩
   ·obtain rfl:sz=256:=by omega
    have hp0:Hid (aI (fun _=>True) .u8 wr (some ⟨w3.heap.size,0,none⟩) 0 tl):=hid ⟨by have:=hpc.out.1; omega,hpc.out.2.1,fun h=>absurd h (by omega)⟩
    clear hpc
    go_wp2_with fail
    refine(jQ _ 0 _ tl (fun _=>True) wr (by omega) hp0.out).mono ?_
    rintro e w6 ⟨⟨rfl,hz⟩ | ⟨rfl,hz⟩,rfl⟩
    ·rw[hok.out] at hz
     replace hz:=hid hz
     go_wp2_with fail
     go_ret2
     exact⟨⟨.inr ⟨w3.heap.size,rfl,hz.out,hw3,hrow.out⟩,aH2⟩,bel6.out⟩
    ·rw[hok.out] at hz
     replace hz:=hid hz
     go_wp2_with fail
     go_ret2
     exact⟨⟨.inl ⟨4,rfl,by omega,hz.out⟩,qN hs4.out⟩,bel6.out⟩
theorem aE9 (a:Option Addr)(n c:Nat)(B:Nat->Blk)(key root size:Int)(w:World)(h:aN w a n B):
 Calls Tryz.prog 76 #[.agg #[.slice a n c],.int .i64 key,.agg #[.int .i64 root,.int .i64 size]] w fun e w'=>cW5 w.heap.size e w' n B key root size/\Below w.heap.size w w':=(cH2 a n c B key root size w h).mono fun _ _ f=>⟨f.1.1,f.2⟩
theorem aW (w:World)(o q:Obj):Below w.heap.size w ((w.alloc o).alloc q):=(aA w o).alloc (by simp) q
theorem aW6 (a:Option Addr)(n c:Nat)(B:Nat->Blk)(key root size:Int)(w:World)(h:aN w a n B):
 Calls Tryz.prog 106 #[.agg #[.slice a n c],.int .i64 key,.agg #[.int .i64 root,.int .i64 size]] w fun e w'=>zB e (bQ n B key root size) (aL5 n B key root size)/\Below w.heap.size w w':=by
 have b0:=hid (aW w (.cells #[.slice a n c] 24) (.cells #[.int .i64 root,.int .i64 size] 104))
 replace h:=hid h
 go_enter Tryz.func106,Tryz.ntmps106
 go_wp2_with fail
 generalize (w.alloc (.cells #[.slice a n c] 24)).alloc (.cells #[.int .i64 root,.int .i64 size] 104)=w0 at *
 refine(cH2 a n c B key root size w0 (h.out.below b0.out)).mono ?_
 rintro e w1 ⟨⟨⟨e', rfl,he,hno⟩ | ⟨g,rfl,hok,hg,hrow⟩,hS⟩,b1⟩
 ·replace hno:=hid hno
  replace hS:=hid (hS e' rfl he)
  go_wp2_with fail
  go_ret
  exact⟨aU e' he hno.out hS.out,Below.tr b0.out b1⟩
 ·clear hS
  replace hok:=hid hok
  replace hrow:=hid hrow
  go_wp2_with fail
  go_ret
  exact⟨gV hok.out,Below.tr b0.out b1⟩
def nS (O:List Int)(s at' m:Nat):List Int:=((O.take s).drop at').take m
theorem bG7 (O:List Int)(s at' m k:Nat)(h:at'+k<s)(hk:k<m):(nS O s at' m).getD k 0=O.getD (at'+k) 0:=by simp[nS,List.getD,hk,h]
theorem lG (O:List Int)(s at' m:Nat)(hO:O.length=256)(hs:s<=256):(nS O s at' m).length=min m (s-at'):=by simp[nS,hO]; omega
theorem bO5 (O:List Int)(s at' m lo ln:Nat)(hO:O.length=256)(hs:s<=256)(h:ln=min m (s-at'))(hlo:0<ln->lo=at'):(O.drop lo).take ln=nS O s at' m:=by
 by_cases h0:ln=0
 ·have h1:(nS O s at' m).length=0:=by rw[lG _ _ _ _ hO hs]; omega
  rw[List.eq_nil_of_length_eq_zero h1,h0]; simp
 ·have h2:=hlo (by omega)
  subst h2
  apply eQ
  ·rw[lG _ _ _ _ hO hs]; simp[hO]; omega
  ·intro k hk
   have hk':k<ln:=by simp[hO] at hk; omega
   rw[bG7 _ _ _ _ _ (by omega) (by omega)]
   simp[List.getD,hk']
def cR3 (base:Nat)(e:Ending)(w:World)(n:Nat)(B:Nat->Blk)(key root size at' m:Int):Prop:=
 (∃ e':Int,e=.returned (.tuple #[.slice none 0 0,.int .i64 e'])/\e'≠0/\¬(bQ n B key root size/\(0<=at'/\at'<=256)/\(0<=m/\m<=256)))\/
 (∃ (x:Option Addr) (ln lc:Nat),e=.returned (.tuple #[.slice x ln lc,.int .i64 0])/\bQ n B key root size/\ln<=lc/\aI (fun b=>base<=b) .u8 w x ln (nS (aR key (aH B 3 root)) size.toNat at'.toNat m.toNat))
def cV5 (e:Ending)(n:Nat)(B:Nat->Blk)(key root size at' m:Int):Prop:=bQ n B key root size->((0<=at'/\at'<=256)/\(0<=m/\m<=256))\/e=.returned (.tuple #[.slice none 0 0,.int .i64 3])
theorem rV (a:Option Addr)(n c:Nat)(B:Nat->Blk)(key root size at' m:Int)(w:World)(h:aN w a n B):
 Calls Tryz.prog 46 #[.agg #[.slice a n c],.int .i64 key,.agg #[.int .i64 root,.int .i64 size],.int .i64 at', .int .i64 m] w fun e w'=>(cR3 w.heap.size e w' n B key root size at' m/\cV5 e n B key root size at' m)/\Below w.heap.size w w':=by
 have b0:=hid (aW w (.cells #[.slice a n c] 24) (.cells #[.int .i64 root,.int .i64 size] 104))
 have kf:aC _ (w.heap.size+1) #[.int .i64 root,.int .i64 size] 104:=aF w (.cells #[.slice a n c] 24) _ _
 replace kf:=hid kf
 replace h:=hid h
 go_enter Tryz.func46,Tryz.ntmps46
 go_wp2_with fail
 generalize (w.alloc (.cells #[.slice a n c] 24)).alloc (.cells #[.int .i64 root,.int .i64 size] 104)=w0 at *
 refine(aE9 a n c B key root size w0 (h.out.below b0.out)).mono ?_
 rintro e w1 ⟨⟨e', rfl,he,hno⟩ | ⟨g,rfl,hok,hg,hrow⟩,b1⟩
 ·have he':(e' == 0)=false:=by simp[he]
  replace hno:=hid hno
  go_wp2_with fail
  go_ret2
  exact⟨⟨.inl ⟨e', rfl,he,fun f=>hno.out f.1⟩,fun f=>absurd f hno.out⟩,Below.tr b0.out b1⟩
 have hs:=hok.sb
 obtain⟨sz,rfl⟩:∃ sz:Nat,size=(sz:Int):=⟨size.toNat,by omega⟩
 have hN:=fI (Q:=fun b=>w.heap.size<=b) (Nat.le_trans b0.out.size hg) (jA key (aH B 3 root)) hrow
 rw[cK] at hN
 have hfl:=cK key (aH B 3 root)
 have f1:=(kf.out.below b1).cell 1
 simp at f1
 have bel:=hid (Below.tr b0.out b1)
 have hcut:=hid (fun (at' m lo ln:Nat)=>bO5 (aR key (aH B 3 root)) sz at' m lo ln hfl (by omega))
 replace hN:=hid hN
 replace hok:=hid hok
 clear hrow b1 kf hfl b0 h hg
 by_cases ha:0<=at'/\at'<=256
 case neg=>
  go_wp2_with fail
  refine(mD at' w1 ha).mono ?_
  rintro e w2 ⟨rfl,rfl⟩
  replace ha:=hid ha
  go_wp2_with fail
  go_ret2
  exact⟨⟨.inl ⟨3,rfl,by omega,fun f=>ha.out f.2.1⟩,fun _=>.inr rfl⟩,bel.out⟩
 go_wp2_with fail
 refine(fV at' w1 ha).mono ?_
 rintro e w2 ⟨rfl,rfl⟩
 obtain⟨A,rfl⟩:∃ A:Nat,at'=(A:Int):=⟨at'.toNat,by omega⟩
 have hA:A<=256:=by omega
 clear ha
 by_cases hm:0<=m/\m<=256
 case neg=>
  go_wp2_with fail
  refine(mD m w2 hm).mono ?_
  rintro e w3 ⟨rfl,rfl⟩
  replace hm:=hid hm
  go_wp2_with fail
  go_ret2
  exact⟨⟨.inl ⟨3,rfl,by omega,fun f=>hm.out f.2.2⟩,fun _=>.inr rfl⟩,bel.out⟩
 go_wp2_with fail
 refine(fV m w2 hm).mono ?_
 rintro e w3 ⟨rfl,rfl⟩
 obtain⟨M,rfl⟩:∃ M:Nat,m=(M:Int):=⟨m.toNat,by omega⟩
 have hM:M<=256:=by omega
 have hsz:sz<=256:=by omega
 clear hm hs
 have fin:Hid (∀ (x:Option Addr) (ln lc lo:Nat),ln<=lc->ln=min M (sz-A)->(0<ln->x=some ⟨g,lo,none⟩/\lo=A/\lo+ln<=256)->cR3 w.heap.size (.returned (.tuple #[.slice x ln lc,.int .i64 0])) w3 n B key root sz A M):=hid (fun x ln lc lo h1 h2 h3=>.inr ⟨x,ln,lc,rfl,hok.out,h1,by
  rw[Int.toNat_natCast,Int.toNat_natCast,Int.toNat_natCast,<-hcut.out A M lo ln h2 (fun h=>(h3 h).2.1)]
  by_cases h0:ln=0
  ·subst h0
   simp only[List.take_zero]
   exact dL _ _ _ _
  ·obtain⟨rfl,_,h4⟩:=h3 (by omega)
   have:=hN.out.piece (lo:=lo) (m:=ln) h4
   rwa [Nat.zero_add] at this⟩)
 clear hN hcut
 by_cases h1:A<sz
 ·have h1':(A:Int)<(sz:Int):=by omega
  by_cases h2:A+M<sz
  ·have h2':(A:Int)+(M:Int)<(sz:Int):=by omega
   go_wp2_with fail
   all_goals (go_ret2; exact⟨⟨fin.out _ _ _ A (by omega) (by omega) (fun _=>⟨by simp,rfl,by omega⟩),fun _=>.inl (by omega)⟩,bel.out⟩)
  ·have h2':¬(A:Int)+(M:Int)<(sz:Int):=by omega
   go_wp2_with fail
   all_goals (go_ret2; exact⟨⟨fin.out _ _ _ A (by omega) (by omega) (fun _=>⟨by simp,rfl,by omega⟩),fun _=>.inl (by omega)⟩,bel.out⟩)
 ·have h1':¬(A:Int)<(sz:Int):=by omega
  have h2':¬(A:Int)+(M:Int)<(sz:Int):=by omega
  go_wp2_with fail
  all_goals (go_ret2; exact⟨⟨fin.out _ _ _ A (by omega) (by omega) (fun f=>absurd f (by omega)),fun _=>.inl (by omega)⟩,bel.out⟩)
end Go.Proofs.YtjafgnohlkkopaaGreatDoor
