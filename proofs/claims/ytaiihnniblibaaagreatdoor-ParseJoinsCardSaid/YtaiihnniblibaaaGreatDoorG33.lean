import Derived.Test.YtaiihnniblibaaaGreatDoorG32
set_option maxHeartbeats 4000000
set_option maxRecDepth 100000
set_option linter.unusedVariables false
open Go.Proofs.Tryz Go.ChangeShapes Go.WideShapes Go.ChangeAt Go.RowKit
open _root_.ByteArray renaming append_assoc→YL,size_append→VT
open Go.Lib renaming hid→QA
open Go.RowKit.Below renaming refl→QF
open Go.Value renaming string→σ,int→ι,slice→ς,agg→ξ
open Go.IntKind renaming i64→κ
open Go.Obj renaming cells→θ
open Go.Ending renaming returned→ρ
namespace Go.Proofs.YtaiihnniblibaaaGreatDoor
namespace JI
open Tree QB KL
theorem lQ{c:Int}(h:Lex.kd c=1):(65≤c∧c≤90)∨(97≤c∧c≤122)∨c=95:=by
 unfold Lex.kd at h;repeat' split at h
 all_goals omega
theorem pd{c:Int}(h:Lex.kd c=2):48≤c∧c≤57:=by
 unfold Lex.kd at h;repeat' split at h
 all_goals omega
theorem Qva{c:Int}(h:Lex.kd c=3):c=34:=by
 unfold Lex.kd at h;repeat' split at h
 all_goals omega
theorem FA{x:ByteArray}{c:Int}{l:List Int}(h:ZA x=c::l):∃b r,x.toList=b::r∧(b.toNat:Int)=c∧l=r.map fun b=>(b.toNat:Int):=by
 unfold ZA at h
 match hx:x.toList with
 |[]=>rw[hx]at h;cases h
 |b::r=>rw[hx,List.map_cons]at h;injection h with h1 h2;exact⟨b,r,rfl,h1,h2.symm⟩
theorem kj(x:ByteArray):ZZ (ZA x):=fun c hc=>by
 obtain⟨b,_,rfl⟩:=List.mem_map.1 hc;have:=b.toNat_lt;omega
theorem dw{t r z:List Int}(h:Lex.piece (t++r)=(2,t.length))(h0:t.length≠0)(hz:Nx z):Lex.kd (t.getD 0 0)=2∧Lex.piece (t++z)=(2,t.length):=by
 cases t with
 |nil=>simp at h0
 |cons c t' =>
  rw[List.cons_append,Lex.Z9]at h⊢;by_cases k1:Lex.kd c=1
  ·rw[if_pos k1]at h;simp at h
  rw[if_neg k1]at h⊢;by_cases k2:Lex.kd c=2
  ·rw[if_pos k2]at h⊢;simp only[Prod.mk.injEq]at h⊢;refine⟨k2,h.1,?_⟩;have hn:Lex.PA ((c::t')++r)=(c::t').length:=h.2;unfold Lex.PA at hn;split at hn
   ·simp at hn
   rename_i hcond
   have ht:Lex.lead Lex.YD (c::t')=(c::t').length:=Lex.xe (fun x hx=>by
    obtain⟨i,hi,rfl⟩:=List.mem_iff_getElem.1 hx;have:=Lex.Ev Lex.YD ((c::t')++r) i (by unfold Lex.Aa at hn;omega);simp only[List.getD]at this;rw[List.getElem?_append_left hi,List.getElem?_eq_getElem hi,Option.getD_some]at this;exact this)
   have hd:Lex.Aa ((c::t')++z)=(c::t').length:=Lex.ni Lex.YD (c::t') z ht (fun c r e=>by
    have:=hz c r e;unfold Lex.Ka at this;rw[Bool.or_eq_false_iff]at this;exact this.2)
   show Lex.PA ((c::t')++z)=_;unfold Lex.PA;rw[hd,if_neg];intro⟨a,b⟩;apply hcond;rw[hn];exact⟨a,by simpa using b⟩
  rw[if_neg k2]at h;by_cases k3:Lex.kd c=3
  ·rw[if_pos k3]at h;simp at h
  rw[if_neg k3]at h;by_cases k4:Lex.kd c=4
  ·rw[if_pos k4]at h;split at h <;> simp at h
  ·rw[if_neg k4]at h;simp only[Prod.mk.injEq]at h;exact absurd h.1 k2
theorem dx{t r z:List Int}(h:Lex.piece (t++r)=(3,t.length))(h0:t.length≠0):t.getD 0 0=34∧Lex.piece (t++z)=(3,t.length):=by
 cases t with
 |nil=>simp at h0
 |cons c t' =>
  rw[List.cons_append,Lex.Z9]at h⊢;by_cases k1:Lex.kd c=1
  ·rw[if_pos k1]at h;simp at h
  rw[if_neg k1]at h⊢;by_cases k2:Lex.kd c=2
  ·rw[if_pos k2]at h;simp at h
  rw[if_neg k2]at h⊢;by_cases k3:Lex.kd c=3
  ·rw[if_pos k3]at h⊢;simp only[Prod.mk.injEq]at h⊢;refine⟨Qva k3,h.1,?_⟩;have hq:=h.2;simp only[Lex.Yt,List.length_cons]at hq⊢;split at hq
   ·omega
   rename_i hs0
   have hne:t'≠[]:=by intro e;subst e;simp only[List.nil_append,List.length_nil]at hq hs0;omega
   rw[Lex.xY z t'.length t' r (Nat.le_refl _) (by omega) hne,if_neg (by have:=List.length_pos_iff.2 hne;omega)]
  rw[if_neg k3]at h;by_cases k4:Lex.kd c=4
  ·rw[if_pos k4]at h;split at h <;> simp at h
  ·rw[if_neg k4]at h;simp only[Prod.mk.injEq]at h;exact absurd h.1 k3
theorem aS{l:List Int}(hb:ZZ l)(h0:Lex.K6 l=0){t:Lex.Tok}{r:List Lex.Tok}(hT:Lex.Uz l=t::r)(h6:t.kind≠6)(hx:strOfNums t.text=strOfNums l):Lex.Vs l∧l.length≠0∧∃q,Lex.piece (l++q)=(t.kind,l.length):=by
 obtain⟨h1,h2⟩:=Lex.nj hb h0;have ht:=Lex.Eh l;rw[h2]at ht;have hL:Lex.Uz l=Lex.fin (Lex.pieces l) 0 true:=(Lex.pg h1 ht).2.2;have hm:t∈Lex.fin (Lex.pieces l) 0 true:=by rw[←hL,hT];exact List.mem_cons_self ..
 rcases Lex.qH _ _ _ t hm with e|⟨_,_,e⟩
 ·exact absurd e.1 h6
 ·have htx:=Lex.mR _ _ hb h1 ht _ e;obtain⟨p,q,hq⟩:=Lex.mP _ _ _ ht _ e;have el:t.text=l:=Vz htx.1 hb hx;simp only[el]at p hq;exact⟨⟨hb,h1⟩,p,q,hq⟩
theorem Q0r{nm:ByteArray→Bool}{tk:ByteArray→Int→Bool}(hn:∀x,nm x=true→Lex.Xd (ZA x)=true)
  (ht:∀x k,tk x k=true→Lex.K6 (ZA x)=0∧∃t r,Lex.Uz (ZA x)=t::r∧t.kind=k∧strOfNums t.text=x):KU nm tk∧∀x,tk x 5=true→∃q,x.toList=47::47::q:=by
 have name:∀x,nm x=true→(ZA x).length≠0∧Lex.kd ((ZA x).getD 0 0)=1∧Lex.lead Lex.Ka (ZA x)=(ZA x).length∧Lex.isWord (ZA x)=false:=fun x h=>by
  have h:=hn x h;unfold Lex.Xd at h;simp only[Bool.and_eq_true,decide_eq_true_eq,beq_iff_eq,Bool.not_eq_true']at h;exact⟨by omega,h.1.1.2,h.1.2,h.2⟩
 have tok:∀x k,tk x k=true→k≠6→Lex.Vs (ZA x)∧(ZA x).length≠0∧∃q,Lex.piece (ZA x++q)=(k,(ZA x).length):=fun x k h h6=>by
  obtain⟨h0,t,r,hT,hk,hx⟩:=ht x k h;have:=aS (kj x) h0 hT (by rw[hk];exact h6) (by rw[hx,Vd]);rw[hk]at this;exact this
 have rem:∀x,tk x 5=true→∃q,x.toList=47::47::q:=fun x h=>by
  obtain⟨_,hl,q,hq⟩:=tok x 5 h (by decide);obtain⟨h2,hr⟩:=Lex.gF hq;have hlen:2≤(ZA x).length:=by
   match hm:ZA x,hl with
   |[c],_ =>
    exfalso;rw[hm]at hq h2;have hc:c=47:=by
     cases q with
     |nil=>simp at h2
     |cons d q=>simp at h2;exact h2.1
    subst hc;have h3:=Lex.dz (z:=[]) hq;exact absurd h3 (by decide)
   |a::b::u,_=>simp
  match hm:ZA x,hlen with
  |a::b::u,_ =>
   rw[hm]at h2;simp only[List.cons_append,List.take_succ_cons,List.take_zero,List.cons.injEq,and_true]at h2;obtain⟨b1,r1,e1,e2,e3⟩:=FA hm
   match hr1:r1,e3 with
   |b2::r2,e3 =>
    rw[List.map_cons]at e3;injection e3 with e3 _;refine⟨r2,?_⟩
    have h47:∀b:UInt8,(b.toNat:Int)=47→b=47:=fun b h=>by
     apply UInt8.toNat_inj.1;show b.toNat=47;omega
    rw[e1,h47 b1 (by omega),h47 b2 (by omega)]
 refine⟨?_,rem⟩;refine{ w:=fun x h=>(name x h).2.2.2,n:=fun x h=>?_,i:=fun x h=>?_,s:=fun x h=>?_,r:=fun x h=>?_,nl:=fun x h=>⟨(name x h).1,(name x h).2.1,(name x h).2.2.1⟩,il:=fun x h=>?_,sl:=fun x h=>?_,rl:=fun x h=>?_,nt:=fun x h=>?_,tt:=fun x k h=>?_ }
 ·obtain⟨a,b,_⟩:=name x h
  match hm:ZA x,a with
  |c::l,_=>rw[hm]at b;obtain⟨b1,r1,e1,e2,_⟩:=FA hm;have:=lQ (show Lex.kd c=1 from b);exact⟨b1,r1,e1,by omega⟩
 ·obtain⟨_,hl,q,hq⟩:=tok x 2 h (by decide);have:=(dw hq hl Q1e).1
  match hm:ZA x,hl with
  |c::l,_=>rw[hm]at this;obtain⟨b1,r1,e1,e2,_⟩:=FA hm;have:=pd (show Lex.kd c=2 from this);exact⟨b1,r1,e1,by omega⟩
 ·obtain⟨_,hl,q,hq⟩:=tok x 3 h (by decide);have:=(dx (z:=[]) hq hl).1
  match hm:ZA x,hl with
  |c::l,_=>rw[hm]at this;have this:c=34:=this;obtain⟨b1,r1,e1,e2,_⟩:=FA hm;refine⟨r1,?_⟩;rw[e1,show b1=34 from UInt8.toNat_inj.1 (by show b1.toNat=34;omega)]
 ·obtain⟨q,e⟩:=rem x h;exact⟨_,e⟩
 ·obtain⟨_,hl,q,hq⟩:=tok x 2 h (by decide);exact⟨hl,fun z qs e hz hT=>⟨z,rfl,(dw hq hl hz).2,hl,hT⟩⟩
 ·obtain⟨_,hl,q,hq⟩:=tok x 3 h (by decide);exact⟨hl,fun z qs e hT=>⟨z,rfl,(dx hq hl).2,hl,hT⟩⟩
 ·obtain⟨_,hl,q,hq⟩:=tok x 5 h (by decide);exact⟨hl,fun z qs e hT=>⟨10::z,rfl,Lex.dz hq,hl,gN hT⟩⟩
 ·obtain⟨_,_,c,_⟩:=name x h;have hl:=Lex.Qqr c;refine Lex.Gm fun y hy=>?_
  have:=hl y hy;unfold Lex.Ka at this;rw[Bool.or_eq_true,beq_iff_eq,beq_iff_eq]at this;rcases this with h|h
  ·have:=lQ h;omega
  ·have:=pd h;omega
 ·obtain⟨h0,_⟩:=ht x k h;exact⟨kj x,(Lex.nj (kj x) h0).1⟩
theorem rC(a b:List Int):strOfNums (a++b)=strOfNums a++strOfNums b:=by
 apply ByteArray.ext;apply Array.ext';simp[strOfNums]
def sC(E:Pc):ByteArray:=strOfNums (Lex.cat E)
theorem Z8:sC []=(⟨#[]⟩:ByteArray):=rfl
theorem Vn(a b:Pc):sC (a++b)=sC a++sC b:=by unfold sC;rw[V6,rC]
theorem Zf(p:Int×List Int)(E:Pc):sC (p::E)=strOfNums p.2++sC E:=by
 obtain⟨k,t⟩:=p;exact rC t _
theorem Za(x:ByteArray):x++(⟨#[]⟩:ByteArray)=x:=ByteArray.append_empty
theorem Fu(x:ByteArray):(⟨#[]⟩:ByteArray)++x=x:=ByteArray.empty_append
def sW(k:Int)(x:ByteArray)(c:F):ByteArray:=sC (pp k x c)
theorem Xr(k:Int)(x:ByteArray)(c:F):sC (pp k x c)=sW k x c:=rfl
theorem Iy:(⟨#[112,97,99,107,97,103,101,32]⟩:ByteArray)=strOfNums (pW [112,97,99,107,97,103,101]).2++strOfNums (pB).2:=by decide +kernel
theorem vA:(⟨#[105,109,112,111,114,116,32]⟩:ByteArray)=strOfNums (pW [105,109,112,111,114,116]).2++strOfNums (pB).2:=by decide +kernel
theorem fo:(⟨#[99,111,110,115,116,32]⟩:ByteArray)=strOfNums (pW [99,111,110,115,116]).2++strOfNums (pB).2:=by decide +kernel
theorem fk:(⟨#[118,97,114,32]⟩:ByteArray)=strOfNums (pW [118,97,114]).2++strOfNums (pB).2:=by decide +kernel
theorem yZ:(⟨#[32,61,32]⟩:ByteArray)=strOfNums (pB).2++strOfNums (pM [61]).2++strOfNums (pB).2:=by decide +kernel
theorem fh:(⟨#[116,121,112,101,32]⟩:ByteArray)=strOfNums (pW [116,121,112,101]).2++strOfNums (pB).2:=by decide +kernel
theorem Nt:(⟨#[32]⟩:ByteArray)=strOfNums (pB).2:=by decide +kernel
theorem fg:(⟨#[42]⟩:ByteArray)=strOfNums (pM [42]).2:=by decide +kernel
theorem fe:(⟨#[91,93]⟩:ByteArray)=strOfNums (pM [91]).2++strOfNums (pM [93]).2:=by decide +kernel
theorem fc:(⟨#[109,97,112,91]⟩:ByteArray)=strOfNums (pW [109,97,112]).2++strOfNums (pM [91]).2:=by decide +kernel
theorem cF:(⟨#[93]⟩:ByteArray)=strOfNums (pM [93]).2:=by decide +kernel
theorem Q3l:(⟨#[91]⟩:ByteArray)=strOfNums (pM [91]).2:=by decide +kernel
theorem Q3k:(⟨#[46]⟩:ByteArray)=strOfNums (pM [46]).2:=by decide +kernel
theorem Q3j:(⟨#[98,114,101,97,107]⟩:ByteArray)=strOfNums (pW [98,114,101,97,107]).2:=by decide +kernel
theorem Q3i:(⟨#[99,111,110,116,105,110,117,101]⟩:ByteArray)=strOfNums (pW [99,111,110,116,105,110,117,101]).2:=by decide +kernel
theorem Q3h:(⟨#[102,117,110,99,32]⟩:ByteArray)=strOfNums (pW [102,117,110,99]).2++strOfNums (pB).2:=by decide +kernel
theorem gL:(⟨#[40]⟩:ByteArray)=strOfNums (pM [40]).2:=by decide +kernel
theorem cG:(⟨#[41]⟩:ByteArray)=strOfNums (pM [41]).2:=by decide +kernel
theorem Q3g:(⟨#[41,32]⟩:ByteArray)=strOfNums (pM [41]).2++strOfNums (pB).2:=by decide +kernel
theorem Q3f:(⟨#[115,116,114,117,99,116,32]⟩:ByteArray)=strOfNums (pW [115,116,114,117,99,116]).2++strOfNums (pB).2:=by decide +kernel
theorem Q3e:(⟨#[105,102,32]⟩:ByteArray)=strOfNums (pW [105,102]).2++strOfNums (pB).2:=by decide +kernel
theorem Q3d:(⟨#[102,111,114,32]⟩:ByteArray)=strOfNums (pW [102,111,114]).2++strOfNums (pB).2:=by decide +kernel
theorem Q3c:(⟨#[32,101,108,115,101,32]⟩:ByteArray)=strOfNums (pB).2++strOfNums (pW [101,108,115,101]).2++strOfNums (pB).2:=by decide +kernel
theorem Q3b:(⟨#[114,101,116,117,114,110,32]⟩:ByteArray)=strOfNums (pW [114,101,116,117,114,110]).2++strOfNums (pB).2:=by decide +kernel
theorem Q3a:(⟨#[44,32]⟩:ByteArray)=strOfNums (pM [44]).2++strOfNums (pB).2:=by decide +kernel
theorem Q29:(⟨#[123,10]⟩:ByteArray)=strOfNums (pM [123]).2++strOfNums (pN).2:=by decide +kernel
theorem Q28:(⟨#[125]⟩:ByteArray)=strOfNums (pM [125]).2:=by decide +kernel
theorem cH:(⟨#[10]⟩:ByteArray)=strOfNums (pN).2:=by decide +kernel
def sP(b:Bool)(s:ByteArray):ByteArray:=if b=true then((⟨#[40]⟩:ByteArray)++s)++(⟨#[41]⟩:ByteArray)else s
theorem AQ(b:Bool)(E:Pc):sC (Kr b E)=sP b (sC E):=by
 cases b with
 |false=>rfl
 |true=>show sC (pM [40]::(E++[pM [41]]))=((⟨#[40]⟩:ByteArray)++sC E)++(⟨#[41]⟩:ByteArray);simp only[gL,cG,Zf,Vn,Z8,Za,YL]
theorem Q21(x:ByteArray):sW 2 x (.nil)=((⟨#[112,97,99,107,97,103,101,32]⟩:ByteArray)++x):=by
 have e:pp 2 x (.nil)=[pW [112,97,99,107,97,103,101],pB]++([(1,ZA x)]):=rfl;unfold sW;simp only[e,Iy,Vn,Zf,Z8,Vd,Za,YL]
theorem Q20(x:ByteArray):sW 3 x (.nil)=((⟨#[105,109,112,111,114,116,32]⟩:ByteArray)++x):=by
 have e:pp 3 x (.nil)=[pW [105,109,112,111,114,116],pB]++([(3,ZA x)]):=rfl;unfold sW;simp only[e,vA,Vn,Zf,Z8,Vd,Za,YL]
theorem cO(x:ByteArray)(k0:Int)(x0 y0:ByteArray)(c0:F):sW 4 x (.cons k0 x0 y0 c0 (.nil))=((((⟨#[99,111,110,115,116,32]⟩:ByteArray)++x)++(⟨#[32,61,32]⟩:ByteArray))++sW k0 x0 c0):=by
 have e:pp 4 x (.cons k0 x0 y0 c0 (.nil))=[pW [99,111,110,115,116],pB]++([(1,ZA x)]++([pB,pM [61],pB]++(pp k0 x0 c0))):=rfl;unfold sW;simp only[e,fo,yZ,Vn,Zf,Z8,Vd,Xr,Za,YL]
theorem cQ(x:ByteArray)(k0:Int)(x0 y0:ByteArray)(c0:F):sW 6 x (.cons k0 x0 y0 c0 (.nil))=((((⟨#[116,121,112,101,32]⟩:ByteArray)++x)++(⟨#[32]⟩:ByteArray))++sW k0 x0 c0):=by
 have e:pp 6 x (.cons k0 x0 y0 c0 (.nil))=[pW [116,121,112,101],pB]++([(1,ZA x)]++([pB]++(pp k0 x0 c0))):=rfl;unfold sW;simp only[e,fh,Nt,Vn,Zf,Z8,Vd,Xr,Za,YL]
theorem Q2z(x:ByteArray):sW 8 x (.nil)=x:=by
 have e:pp 8 x (.nil)=[(5,ZA x)]:=rfl;unfold sW;simp only[e,Zf,Z8,Vd,Za]
theorem Q2y(x:ByteArray):sW 9 x (.nil)=x:=by
 have e:pp 9 x (.nil)=[(1,ZA x)]:=rfl;unfold sW;simp only[e,Zf,Z8,Vd,Za]
theorem dA(x:ByteArray)(k0:Int)(x0 y0:ByteArray)(c0:F):sW 10 x (.cons k0 x0 y0 c0 (.nil))=((⟨#[42]⟩:ByteArray)++sW k0 x0 c0):=by
 have e:pp 10 x (.cons k0 x0 y0 c0 (.nil))=[pM [42]]++(pp k0 x0 c0):=rfl;unfold sW;simp only[e,fg,Vn,Zf,Z8,Xr,Za]
theorem lg(x:ByteArray)(k0:Int)(x0 y0:ByteArray)(c0:F):sW 11 x (.cons k0 x0 y0 c0 (.nil))=((⟨#[91,93]⟩:ByteArray)++sW k0 x0 c0):=by
 have e:pp 11 x (.cons k0 x0 y0 c0 (.nil))=[pM [91],pM [93]]++(pp k0 x0 c0):=rfl;unfold sW;simp only[e,fe,Vn,Zf,Z8,Xr,Za,YL]
theorem lh(x:ByteArray)(k0 k1:Int)(x0 y0 x1 y1:ByteArray)(c0 c1:F):sW 12 x (.cons k0 x0 y0 c0 (.cons k1 x1 y1 c1 (.nil)))=((((⟨#[109,97,112,91]⟩:ByteArray)++sW k0 x0 c0)++(⟨#[93]⟩:ByteArray))++sW k1 x1 c1):=by
 have e:pp 12 x (.cons k0 x0 y0 c0 (.cons k1 x1 y1 c1 (.nil)))=[pW [109,97,112],pM [91]]++(pp k0 x0 c0++([pM [93]]++(pp k1 x1 c1))):=rfl;unfold sW;simp only[e,cF,fc,Vn,Zf,Z8,Xr,Za,YL]
theorem ll(x:ByteArray)(k0:Int)(x0 y0:ByteArray)(c0:F):sW 14 x (.cons k0 x0 y0 c0 (.nil))=((x++(⟨#[32]⟩:ByteArray))++sW k0 x0 c0):=by
 have e:pp 14 x (.cons k0 x0 y0 c0 (.nil))=[(1,ZA x)]++([pB]++(pp k0 x0 c0)):=rfl;unfold sW;simp only[e,Nt,Vn,Zf,Z8,Vd,Xr,Za,YL]
theorem lq(x:ByteArray)(k0:Int)(x0 y0:ByteArray)(c0:F):sW 16 x (.cons k0 x0 y0 c0 (.nil))=((x++(⟨#[32]⟩:ByteArray))++sW k0 x0 c0):=by
 have e:pp 16 x (.cons k0 x0 y0 c0 (.nil))=[(1,ZA x)]++([pB]++(pp k0 x0 c0)):=rfl;unfold sW;simp only[e,Nt,Vn,Zf,Z8,Vd,Xr,Za,YL]
theorem lC(x:ByteArray)(k0 k1:Int)(x0 y0 x1 y1:ByteArray)(c0 c1:F):sW 21 x (.cons k0 x0 y0 c0 (.cons k1 x1 y1 c1 (.nil)))=((((sW k0 x0 c0++(⟨#[32]⟩:ByteArray))++x)++(⟨#[32]⟩:ByteArray))++sW k1 x1 c1):=by
 have e:pp 21 x (.cons k0 x0 y0 c0 (.cons k1 x1 y1 c1 (.nil)))=pp k0 x0 c0++([pB]++([(4,ZA x)]++([pB]++(pp k1 x1 c1)))):=rfl;unfold sW;simp only[e,Nt,Vn,Zf,Z8,Vd,Xr,Za,YL]
theorem eU(x:ByteArray)(k0:Int)(x0 y0:ByteArray)(c0:F):sW 22 x (.cons k0 x0 y0 c0 (.nil))=(sW k0 x0 c0++x):=by
 have e:pp 22 x (.cons k0 x0 y0 c0 (.nil))=pp k0 x0 c0++([(4,ZA x)]):=rfl;unfold sW;simp only[e,Vn,Zf,Z8,Vd,Xr,Za]
theorem eV(x:ByteArray)(k0:Int)(x0 y0:ByteArray)(c0:F):sW 23 x (.cons k0 x0 y0 c0 (.nil))=sW k0 x0 c0:=by
 have e:pp 23 x (.cons k0 x0 y0 c0 (.nil))=pp k0 x0 c0:=rfl;unfold sW;simp only[e,Xr]
theorem Q19(x:ByteArray):sW 24 x (.nil)=(⟨#[98,114,101,97,107]⟩:ByteArray):=by
 have e:pp 24 x (.nil)=[pW [98,114,101,97,107]]:=rfl;unfold sW;simp only[e,Q3j,Zf,Z8,Za]
theorem Q18(x:ByteArray):sW 25 x (.nil)=(⟨#[99,111,110,116,105,110,117,101]⟩:ByteArray):=by
 have e:pp 25 x (.nil)=[pW [99,111,110,116,105,110,117,101]]:=rfl;unfold sW;simp only[e,Q3i,Zf,Z8,Za]
theorem Q17(x:ByteArray):sW 26 x (.nil)=x:=by
 have e:pp 26 x (.nil)=[(2,ZA x)]:=rfl;unfold sW;simp only[e,Zf,Z8,Vd,Za]
theorem Q16(x:ByteArray):sW 27 x (.nil)=x:=by
 have e:pp 27 x (.nil)=[(3,ZA x)]:=rfl;unfold sW;simp only[e,Zf,Z8,Vd,Za]
theorem eW(x:ByteArray)(k0:Int)(x0 y0:ByteArray)(c0:F):sW 28 x (.cons k0 x0 y0 c0 (.nil))=(x++sP (Qi 28 x 0 k0 x0) (sW k0 x0 c0)):=by
 have e:pp 28 x (.cons k0 x0 y0 c0 (.nil))=[(4,ZA x)]++(Kr (Qi 28 x 0 k0 x0) (pp k0 x0 c0)):=rfl;unfold sW;simp only[e,Vn,Zf,Z8,Vd,AQ,Xr,Za]
theorem eX(x:ByteArray)(k0 k1:Int)(x0 y0 x1 y1:ByteArray)(c0 c1:F):sW 29 x (.cons k0 x0 y0 c0 (.cons k1 x1 y1 c1 (.nil)))=((((sP (Qi 29 x 0 k0 x0) (sW k0 x0 c0)++(⟨#[32]⟩:ByteArray))++x)++(⟨#[32]⟩:ByteArray))++sP (Qi 29 x 1 k1 x1) (sW k1 x1 c1)):=by
 have e:pp 29 x (.cons k0 x0 y0 c0 (.cons k1 x1 y1 c1 (.nil)))=Kr (Qi 29 x 0 k0 x0) (pp k0 x0 c0)++([pB]++([(4,ZA x)]++([pB]++(Kr (Qi 29 x 1 k1 x1) (pp k1 x1 c1))))):=rfl;unfold sW;simp only[e,Nt,Vn,Zf,Z8,Vd,AQ,Xr,Za,YL]
theorem eZ(x:ByteArray)(k0 k1:Int)(x0 y0 x1 y1:ByteArray)(c0 c1:F):sW 31 x (.cons k0 x0 y0 c0 (.cons k1 x1 y1 c1 (.nil)))=(((sP (Qi 31 x 0 k0 x0) (sW k0 x0 c0)++(⟨#[91]⟩:ByteArray))++sW k1 x1 c1)++(⟨#[93]⟩:ByteArray)):=by
 have e:pp 31 x (.cons k0 x0 y0 c0 (.cons k1 x1 y1 c1 (.nil)))=Kr (Qi 31 x 0 k0 x0) (pp k0 x0 c0)++([pM [91]]++(pp k1 x1 c1++([pM [93]]))):=rfl;unfold sW;simp only[e,cF,Q3l,Vn,Zf,Z8,AQ,Xr,Za,YL]
theorem ld(x:ByteArray)(k0:Int)(x0 y0:ByteArray)(c0:F):sW 32 x (.cons k0 x0 y0 c0 (.nil))=((sP (Qi 32 x 0 k0 x0) (sW k0 x0 c0)++(⟨#[46]⟩:ByteArray))++x):=by
 have e:pp 32 x (.cons k0 x0 y0 c0 (.nil))=Kr (Qi 32 x 0 k0 x0) (pp k0 x0 c0)++([pM [46]]++([(1,ZA x)])):=rfl;unfold sW;simp only[e,Q3k,Vn,Zf,Z8,Vd,AQ,Xr,Za,YL]
def sM(c:F):ByteArray:=sC (V5 (Ja c))
def sT(c:F):ByteArray:=sC (K3 c (Ja c))
def sB(c:F):ByteArray:=((⟨#[123,10]⟩:ByteArray)++sT c)++(⟨#[125]⟩:ByteArray)
theorem jS(c:F):sC (V5 (Ja c))=sM c:=rfl
theorem Q2a(c:F):sB c=((⟨#[123,10]⟩:ByteArray)++sT c)++(⟨#[125]⟩:ByteArray):=rfl
theorem dv(c:F):sC (Fq c (Ja c))=sB c:=by
 show sC (pM [123]::pN::(K3 c (Ja c)++[pM [125]]))=((⟨#[123,10]⟩:ByteArray)++sC (K3 c (Ja c)))++(⟨#[125]⟩:ByteArray);simp only[Q29,Q28,Vn,Zf,Z8,Za,YL]
theorem lj(x:ByteArray)(c:F):sW 13 x c=(⟨#[115,116,114,117,99,116,32]⟩:ByteArray)++sB c:=by
 have e:pp 13 x c=pW [115,116,114,117,99,116]::pB::Fq c (Ja c):=rfl;unfold sW;simp only[e,Q3f,Zf,dv,YL]
theorem lu(x:ByteArray)(c:F):sW 17 x c=sB c:=dv c
theorem cP(x:ByteArray)(k0 k1:Int)(x0 y0 x1 y1:ByteArray)(c0 c1:F)(s:ByteArray)(hs:s=if k0=33 then(⟨#[118,97,114,32]⟩:ByteArray)++x else(((⟨#[118,97,114,32]⟩:ByteArray)++x)++(⟨#[32]⟩:ByteArray))++sW k0 x0 c0):sW 5 x (.cons k0 x0 y0 c0 (.cons k1 x1 y1 c1 (.nil)))=if k1=33 then s else(s++(⟨#[32,61,32]⟩:ByteArray))++sW k1 x1 c1:=by
 have e:pp 5 x (.cons k0 x0 y0 c0 (.cons k1 x1 y1 c1 (.nil)))=pW [118,97,114]::pB::([(1,ZA x)]++((if k0=33 then[]else pB::pp k0 x0 c0)++(if k1=33 then[]else pB::pM [61]::pB::pp k1 x1 c1))):=rfl;subst hs;unfold sW;rw[e];by_cases h0:k0=33 <;> by_cases h1:k1=33 <;> simp only[h0,h1,if_true,if_false,fk,Nt,yZ,Vn,Zf,Z8,Vd,Za,Fu,YL]
theorem cR(x:ByteArray)(k0 k2 k3:Int)(x0 y0 x1 y1 x2 y2 x3 y3:ByteArray)(c0 c1 c2 c3:F)(s t:ByteArray)(hs:s=if k0=33 then(⟨#[102,117,110,99,32]⟩:ByteArray)else(((⟨#[102,117,110,99,32]⟩:ByteArray)++(⟨#[40]⟩:ByteArray))++sW k0 x0 c0)++(⟨#[41,32]⟩:ByteArray))(ht:t=(((s++x)++(⟨#[40]⟩:ByteArray))++sM c1)++(⟨#[41,32]⟩:ByteArray)) :
  sW 7 x (.cons k0 x0 y0 c0 (.cons 15 x1 y1 c1 (.cons k2 x2 y2 c2 (.cons k3 x3 y3 c3 .nil))))=(if k2=33 then t else(t++sW k2 x2 c2)++(⟨#[32]⟩:ByteArray))++sW k3 x3 c3:=by
 have e:pp 7 x (.cons k0 x0 y0 c0 (.cons 15 x1 y1 c1 (.cons k2 x2 y2 c2 (.cons k3 x3 y3 c3 .nil))))=pW [102,117,110,99]::pB::((if k0=33 then[]else pM [40]::(pp k0 x0 c0++[pM [41],pB]))++(1,ZA x)::pM [40]::(V5 (Ja c1)++pM [41]::pB::((if k2=33 then[]else pp k2 x2 c2++[pB])++pp k3 x3 c3))):=rfl;subst hs ht;unfold sW;rw[e];by_cases h0:k0=33 <;> by_cases h1:k2=33 <;> simp only[h0,h1,if_true,if_false,Q3h,gL,Q3g,Nt,jS,Vn,Zf,Z8,Vd,Za,Fu,YL]
theorem ly(x:ByteArray)(k0 k1 k2:Int)(x0 y0 x1 y1 x2 y2:ByteArray)(c0 c1 c2:F)(s:ByteArray)(hs:s=(((⟨#[105,102,32]⟩:ByteArray)++sW k0 x0 c0)++(⟨#[32]⟩:ByteArray))++sW k1 x1 c1):sW 18 x (.cons k0 x0 y0 c0 (.cons k1 x1 y1 c1 (.cons k2 x2 y2 c2 (.nil))))=if k2=33 then s else(s++(⟨#[32,101,108,115,101,32]⟩:ByteArray))++sW k2 x2 c2:=by
 have e:pp 18 x (.cons k0 x0 y0 c0 (.cons k1 x1 y1 c1 (.cons k2 x2 y2 c2 (.nil))))=pW [105,102]::pB::(pp k0 x0 c0++pB::(pp k1 x1 c1++(if k2=33 then[]else pB::pW [101,108,115,101]::pB::pp k2 x2 c2))):=rfl;subst hs;unfold sW;rw[e];by_cases h0:k2=33 <;> simp only[h0,if_true,if_false,Q3e,Nt,Q3c,Vn,Zf,Z8,Za,YL]
theorem lA(x:ByteArray)(k0 k1:Int)(x0 y0 x1 y1:ByteArray)(c0 c1:F):sW 19 x (.cons k0 x0 y0 c0 (.cons k1 x1 y1 c1 (.nil)))=if k0=33 then(⟨#[102,111,114,32]⟩:ByteArray)++sW k1 x1 c1 else(((⟨#[102,111,114,32]⟩:ByteArray)++sW k0 x0 c0)++(⟨#[32]⟩:ByteArray))++sW k1 x1 c1:=by
 have e:pp 19 x (.cons k0 x0 y0 c0 (.cons k1 x1 y1 c1 (.nil)))=pW [102,111,114]::pB::((if k0=33 then[]else pp k0 x0 c0++[pB])++pp k1 x1 c1):=rfl;unfold sW;rw[e];by_cases h0:k0=33 <;> simp only[h0,if_true,if_false,Q3d,Nt,Vn,Zf,Z8,Za,Fu,YL]
theorem Q0y(x:ByteArray):sW 20 x .nil=(⟨#[114,101,116,117,114,110]⟩:ByteArray):=by
 show sC [pW [114,101,116,117,114,110]]=_;decide +kernel
theorem lB(x:ByteArray)(k0:Int)(x0 y0:ByteArray)(c0 r:F):sW 20 x (.cons k0 x0 y0 c0 r)=(⟨#[114,101,116,117,114,110,32]⟩:ByteArray)++sM (.cons k0 x0 y0 c0 r):=by
 have e:pp 20 x (.cons k0 x0 y0 c0 r)=pW [114,101,116,117,114,110]::pB::V5 (Ja (.cons k0 x0 y0 c0 r)):=rfl;unfold sW;simp only[e,Q3b,jS,Zf,YL]
theorem eY(x:ByteArray)(k0:Int)(x0 y0:ByteArray)(c0 r:F):sW 30 x (.cons k0 x0 y0 c0 r)=((sP (Qi 30 x 0 k0 x0) (sW k0 x0 c0)++(⟨#[40]⟩:ByteArray))++sM r)++(⟨#[41]⟩:ByteArray):=by
 have e:pp 30 x (.cons k0 x0 y0 c0 r)=Kr (Qi 30 x 0 k0 x0) (pp k0 x0 c0)++pM [40]::(V5 (Ja r)++[pM [41]]):=rfl;unfold sW;simp only[e,gL,cG,jS,AQ,Xr,Vn,Zf,Z8,Za,YL]
def sI(k:Int)(x y:ByteArray)(c:F):ByteArray:=(if y.toList=[]then sW k x c else(sW k x c++(⟨#[32]⟩:ByteArray))++y)++(⟨#[10]⟩:ByteArray)
theorem pq:sT .nil=(⟨#[]⟩:ByteArray):=rfl
theorem FH(k:Int)(x y:ByteArray)(c r:F)(h:k=8→y.toList=[]):sT (.cons k x y c r)=sI k x y c++sT r:=by
 show sC (Cx k x y (pp k x c)++K3 r (Ja r))=_;rw[Vn];unfold sI Cx;by_cases h8:k=8
 ·subst h8;rw[if_pos rfl,if_pos (h rfl)];show sC ([(5,ZA x)]++[pN])++sT r=_;rw[Vn,cH];show(sW 8 x c++sC [pN])++sT r=_;rw[Zf,Z8,Za]
 ·rw[if_neg h8];by_cases hy:y.toList=[] <;> simp only[hy,if_true,if_false,Nt,cH,Xr,Vn,Zf,Z8,Vd,Za,Fu,YL] <;> rfl
theorem po:sM .nil=(⟨#[]⟩:ByteArray):=rfl
def sN:F→ByteArray
 | .nil=>⟨#[]⟩
 | .cons k x y c r=>(⟨#[44,32]⟩:ByteArray)++sM (.cons k x y c r)
theorem Q01:sN .nil=(⟨#[]⟩:ByteArray):=rfl
theorem pX(k:Int)(x y:ByteArray)(c r:F):sN (.cons k x y c r)=(⟨#[44,32]⟩:ByteArray)++sM (.cons k x y c r):=rfl
theorem AR(k:Int)(x y:ByteArray)(c r:F):sM (.cons k x y c r)=sW k x c++sN r:=by
 cases r with
 |nil=>show sC (pp k x c++[])=_;rw[Vn,Z8];rfl
 |cons k2 x2 y2 c2 r2=>show sC (pp k x c++(pM [44]::pB::V5 (Ja (.cons k2 x2 y2 c2 r2))))=sW k x c++((⟨#[44,32]⟩:ByteArray)++sC (V5 (Ja (.cons k2 x2 y2 c2 r2))));simp only[Q3a,Vn,Zf,Xr,YL]
end JI
namespace JI
open Tree Mem
def RG(c:F)(j:Nat)(p:ByteArray):Prop:=p++(if j=0 then sM c else sN (c.drop j))=sM c
theorem Qsv(c:F):RG c 0 ⟨#[]⟩:=by unfold RG;rw[if_pos rfl,Fu]
theorem Qpp{c:F}{p:ByteArray}{k:Int}{x y:ByteArray}{kc r:F}(h:RG c 0 p)(hd:c.drop 0=.cons k x y kc r):RG c 1 (p++sW k x kc):=by
 unfold RG at h⊢;rw[if_pos rfl]at h;have e:c=.cons k x y kc r:=hd;rw[if_neg (by decide)];subst e;rw[AR]at h;show(p++sW k x kc)++sN r=sM (.cons k x y kc r);rw[AR,YL];exact h
theorem Qsw{c:F}{j:Nat}{p:ByteArray}{k:Int}{x y:ByteArray}{kc r:F}(h:RG c j p)(h0:j≠0)(hd:c.drop j=.cons k x y kc r)(hd2:c.drop (j+1)=r):RG c (j+1) ((p++(⟨#[44,32]⟩:ByteArray))++sW k x kc):=by
 unfold RG at h⊢;rw[if_neg h0,hd]at h;rw[if_neg (by omega),hd2];rw[pX,AR]at h;rw[YL,YL];exact h
theorem wW{c:F}{j:Nat}{p:ByteArray}(h:RG c j p)(hj:j=c.len):p=sM c:=by
 unfold RG at h;cases c with
 |nil=>rw[if_pos (show j=0 from hj),po,Za]at h;rw[h,po]
 |cons k x y kc r=>rw[if_neg (by rw[hj];simp[F.len]),F.JH j _ (by omega),Q01,Za]at h;exact h
theorem tO{c:F}{j:Nat}{p:ByteArray}(h:RG c j p):p.size≤(sM c).size:=by
 unfold RG at h;rw[←h,VT];omega
theorem Ug{W:World}{g:Nat}{a b c d:Value}{T:TypeId}(h:W.heap[g]?=some (θ #[a,b,c,d] T (0,0))):W.cell? ⟨g,0,none⟩=some a∧W.cell? ⟨g,1,none⟩=some b∧W.cell? ⟨g,2,none⟩=some c∧W.cell? ⟨g,3,none⟩=some d:=by
 refine⟨?_,?_,?_,?_⟩ <;> simp[World.cell?,h]
def Q0(k:Int)(x y:ByteArray)(c:F):Prop:=∀(A:Option Addr)(n C:Nat)(W:World),Fs W (Lo W.heap.size) (ς A n C) c→Calls prog 29 #[ξ #[ι κ k,σ x,σ y,ς A n C]] W fun e w'=>e=ρ (σ (sW k x c))∧Below W.heap.size W w'
theorem gw(A:Option Addr)(n C:Nat)(c:F)(w:World)(hf:Fs w (Lo w.heap.size) (ς A n C) c)(hw:∀j k x y kc r,c.drop j=.cons k x y kc r→Q0 k x y kc)(hsz:(sM c).size≤1000000) :
  Calls prog 53 #[ς A n C] w fun e w'=>e=ρ (σ (sM c))∧Below w.heap.size w w':=by
 obtain⟨A0,C0,e,YR,UN⟩:=hf.slice;injection e with e1 e2 e3;subst e1;subst e3;have EF:Hid (c.len=n):=e2.symm;have HF:=QA hf;have HW:=QA hw;have Te:=QA hsz;rw[←e2]at YR;clear hf hw hsz e2;go_enter func53,ntmps53;go_wp2
 go_loopw [3,4] (fun s i wr=>∃(j:Nat)(p:ByteArray),j≤n∧i=ι κ (j:Int)∧s=σ p∧Hid (RG c j p)∧Hid (Below w.heap.size w wr)) (fun _ i _=>n-(intOf i).toNat)
 case atStart=>exact⟨0,⟨#[]⟩,Nat.zero_le _,rfl,rfl,Qsv c,QF _ _⟩
 case round =>
  obtain⟨j,p,hj,rfl,rfl,Hf,ZW⟩:=hrel;by_cases hlt:j<n
  ·obtain⟨kk,kx,ky,kc,kr,hdr,JG⟩:=F.drop_cons (n:=j) (f:=c) (by rw[EF.out];exact hlt);obtain⟨b,off,s2,rfl,XP,_,hat⟩:=HF.out.at_ hdr;obtain⟨Ak,Ck,rfl,_,_⟩:=hat.kids.slice;have hlt':(j:Int)<(n:Int):=by omega
   have Mk:(0:Int)≤(j:Int):=by omega
   have H4:Hid (∀W,Below wr.heap.size wr W→(W.cell? ⟨b,off+j*4,none⟩=some (ι κ kk)∧W.cell? ⟨b,off+j*4+1,none⟩=some (σ kx)∧W.cell? ⟨b,off+j*4+2,none⟩=some (σ ky)∧W.cell? ⟨b,off+j*4+3,none⟩=some (ς Ak kc.len Ck))):=fun W hW=>by
    have UJ:=ZW.out.trans (hW.mono ZW.out.size);exact⟨(UJ.cell (p:=⟨b,off+j*4,none⟩) XP).trans hat.c0,(UJ.cell (p:=⟨b,off+j*4+1,none⟩) XP).trans hat.c1,(UJ.cell (p:=⟨b,off+j*4+2,none⟩) XP).trans hat.c2,(UJ.cell (p:=⟨b,off+j*4+3,none⟩) XP).trans hat.c3⟩
   have MD:Hid (∀W,Below wr.heap.size wr W→Calls prog 29 #[ξ #[ι κ kk,σ kx,σ ky,ς Ak kc.len Ck]] W fun e w'=>e = ρ (σ (sW kk kx kc))∧Below W.heap.size W w'):=fun W hW=>by
    have UJ:=ZW.out.trans (hW.mono ZW.out.size);exact HW.out j kk kx ky kc kr hdr Ak kc.len Ck W (hat.kids.later UJ)
   by_cases h0:j=0
   ·have UG:Hid (RG c (j+1) (p++sW kk kx kc)):=by subst h0;exact Qpp Hf.out hdr
    have hp1:=Nat.le_trans (tO UG.out) Te.out;rw[VT]at hp1;generalize sW kk kx kc=sk at *;have hp2:p.size≤1000000:=by omega
    have Mg:sk.size≤1000000:=by omega
    clear hp1;have uF:¬(0:Int)<(j:Int):=by omega
    obtain⟨q0,q1,q2,q3⟩:=H4.out wr (QF _ _);clear Hf hdr JG hat XP h0;go_wp2_with fail;refine c₁ (MD.out wr (QF _ _)) fun w2 hb=>?_;have HB:=QN ZW hb;clear hb ZW q0 q1 q2 q3;go_wp2
    go_roundw
    case rel=>exact⟨j+1,p++sk,by omega,by go_num,rfl,UG.out,HB.out⟩
    case measure=>simp[intOf];omega
   ·have UG:=QA (Qsw Hf.out h0 hdr JG);have hp1:=Nat.le_trans (tO UG.out) Te.out;rw[VT,VT]at hp1;generalize sW kk kx kc=sk at *;have hp2:p.size≤1000000:=by omega
    have Mg:sk.size≤1000000:=by omega
    clear hp1;have uF:(0:Int)<(j:Int):=by omega
    obtain⟨q0,q1,q2,q3⟩:=H4.out wr (QF _ _);clear Hf hdr JG hat XP h0;go_wp2_with fail;refine c₁ (MD.out wr (QF _ _)) fun w2 hb=>?_;have HB:=QN ZW hb;clear hb ZW q0 q1 q2 q3;go_wp2
    go_roundw
    case rel=>exact⟨j+1,_,by omega,by go_num,rfl,UG.out,HB.out⟩
    case measure=>simp[intOf];omega
  ·have hjn:j=n:=by omega
   subst hjn;have hp:=wW Hf.out EF.out.symm;subst hp;have HB:=QA ZW.out;clear Hf ZW;go_wp2;go_ret;exact⟨rfl,HB.out⟩
theorem Y9(k:Int)(x y:ByteArray)(A:Option Addr)(n C:Nat)(c:F)(w:World)(hf:Fs w (Lo w.heap.size) (ς A n C) c)(hw:Q0 k x y c)(hsz:(sI k x y c).size≤1000000) :
  Calls prog 19 #[ξ #[ι κ k,σ x,σ y,ς A n C]] w fun e w'=>e=ρ (σ (sI k x y c))∧Below w.heap.size w w':=by
 have b1:=(QF w.heap.size w).alloc (Nat.le_refl _) (θ #[ι κ k,σ x,σ y,ς A n C] 24)
 have MD:Hid (∀W,Below (w.alloc (θ #[ι κ k,σ x,σ y,ς A n C] 24)).heap.size (w.alloc (θ #[ι κ k,σ x,σ y,ς A n C] 24)) W→Calls prog 29 #[ξ #[ι κ k,σ x,σ y,ς A n C]] W fun e w'=>e = ρ (σ (sW k x c))∧Below W.heap.size W w'):=fun W hW =>
  hw A n C W ((hf.later b1).later hW)
 have BG:Hid (∀W,Below (w.alloc (θ #[ι κ k,σ x,σ y,ς A n C] 24)).heap.size (w.alloc (θ #[ι κ k,σ x,σ y,ς A n C] 24)) W→W.cell? ⟨w.heap.size,0,none⟩=some (ι κ k)∧W.cell? ⟨w.heap.size,1,none⟩=some (σ x)∧W.cell? ⟨w.heap.size,2,none⟩=some (σ y)∧W.cell? ⟨w.heap.size,3,none⟩=some (ς A n C)):=fun W hW=>Ug ((hW.block w.heap.size (by simp)).trans (heap_alloc_new w _))
 have QJ:=QA b1;have HV:Hid (sI k x y c=(if y.toList=[]then sW k x c else(sW k x c++(⟨#[32]⟩:ByteArray))++y)++(⟨#[10]⟩:ByteArray)):=rfl;generalize sI k x y c=si at *;generalize sW k x c=sk at *;obtain⟨q0,q1,q2,q3⟩:=BG.out _ (QF _ _);by_cases hy:y.toList=[]
 ·have SF:Hid (si=sk++(⟨#[10]⟩:ByteArray)):=by show _=_;rw[HV.out,if_pos hy]
  have hs1:sk.size≤1000000:=by rw[SF.out,VT]at hsz;omega
  clear hf hw b1 hsz HV;go_enter func19,ntmps19;go_wp2_with fail;refine c₁ (MD.out _ (QF _ _)) fun w2 hb=>?_;obtain⟨q0,q1,q2,q3⟩:=BG.out w2 hb;have HB:=QN QJ hb;clear hb;go_wp2;go_ret;exact⟨by rw[SF.out];rfl,HB.out⟩
 ·have hye:y.toList.isEmpty=false:=by simpa using hy
  have SF:Hid (si=((sk++(⟨#[32]⟩:ByteArray))++y)++(⟨#[10]⟩:ByteArray)):=by show _=_;rw[HV.out,if_neg hy]
  have hs1:sk.size≤1000000:=by rw[SF.out,VT,VT,VT]at hsz;omega
  have hs2:y.size≤1000000:=by rw[SF.out,VT,VT,VT]at hsz;omega
  clear hf hw b1 hsz HV;go_enter func19,ntmps19;go_wp2_with fail;refine c₁ (MD.out _ (QF _ _)) fun w2 hb=>?_;obtain⟨q0,q1,q2,q3⟩:=BG.out w2 hb;have HB:=QN QJ hb;clear hb;go_wp2;go_ret;exact⟨by rw[SF.out];rfl,HB.out⟩
def DU(c:F)(j:Nat)(p:ByteArray):Prop:=p++sT (c.drop j)=(⟨#[123,10]⟩:ByteArray)++sT c
theorem Qsu{c:F}{j:Nat}{p:ByteArray}{k:Int}{x y:ByteArray}{kc r:F}(h:DU c j p)(hd:c.drop j=.cons k x y kc r)(hd2:c.drop (j+1)=r)(h8:k=8→y.toList=[]):DU c (j+1) (p++sI k x y kc):=by
 unfold DU at h⊢;rw[hd,FH _ _ _ _ _ h8]at h;rw[hd2,YL];exact h
theorem tP{c:F}{j:Nat}{p:ByteArray}(h:DU c j p):p.size≤(sT c).size+2:=by
 unfold DU at h;have:=congrArg ByteArray.size h;rw[VT,VT]at this;have e:(⟨#[123,10]⟩:ByteArray).size=2:=rfl;omega
def lF(k:Int)(x y:ByteArray)(c:F):Prop:=∀(A:Option Addr)(n C:Nat)(W:World),Fs W (Lo W.heap.size) (ς A n C) c→Calls prog 19 #[ξ #[ι κ k,σ x,σ y,ς A n C]] W fun e w'=>e=ρ (σ (sI k x y c))∧Below W.heap.size W w'
theorem U4(A:Option Addr)(n C:Nat)(c:F)(w:World)(hf:Fs w (Lo w.heap.size) (ς A n C) c)(hw:∀j k x y kc r,c.drop j=.cons k x y kc r→(k=8→y.toList=[])∧lF k x y kc)(hsz:(sT c).size≤1000000) :
  Calls prog 54 #[ς A n C] w fun e w'=>e=ρ (σ (sB c))∧Below w.heap.size w w':=by
 obtain⟨A0,C0,e,YR,UN⟩:=hf.slice;injection e with e1 e2 e3;subst e1;subst e3;have EF:Hid (c.len=n):=e2.symm;have HF:=QA hf;have HW:=QA hw;have Te:=QA hsz;have Br:Hid (sB c=((⟨#[123,10]⟩:ByteArray)++sT c)++(⟨#[125]⟩:ByteArray)):=Q2a c;rw[←e2]at YR;clear hf hw hsz e2;go_enter func54,ntmps54;go_wp2
 go_loopw [3,4] (fun s i wr=>∃(j:Nat)(p:ByteArray),j≤n∧i=ι κ (j:Int)∧s=σ p∧Hid (DU c j p)∧Hid (Below w.heap.size w wr)) (fun _ i _=>n-(intOf i).toNat)
 case atStart=>exact⟨0,⟨#[123,10]⟩,Nat.zero_le _,rfl,rfl,rfl,QF _ _⟩
 case round =>
  obtain⟨j,p,hj,rfl,rfl,Hf,ZW⟩:=hrel;by_cases hlt:j<n
  ·obtain⟨kk,kx,ky,kc,kr,hdr,JG⟩:=F.drop_cons (n:=j) (f:=c) (by rw[EF.out];exact hlt);obtain⟨b,off,s2,rfl,XP,_,hat⟩:=HF.out.at_ hdr;obtain⟨Ak,Ck,rfl,_,_⟩:=hat.kids.slice;have hlt':(j:Int)<(n:Int):=by omega
   have Mk:(0:Int)≤(j:Int):=by omega
   have H4:Hid (∀W,Below wr.heap.size wr W→(W.cell? ⟨b,off+j*4,none⟩=some (ι κ kk)∧W.cell? ⟨b,off+j*4+1,none⟩=some (σ kx)∧W.cell? ⟨b,off+j*4+2,none⟩=some (σ ky)∧W.cell? ⟨b,off+j*4+3,none⟩=some (ς Ak kc.len Ck))):=fun W hW=>by
    have UJ:=ZW.out.trans (hW.mono ZW.out.size);exact⟨(UJ.cell (p:=⟨b,off+j*4,none⟩) XP).trans hat.c0,(UJ.cell (p:=⟨b,off+j*4+1,none⟩) XP).trans hat.c1,(UJ.cell (p:=⟨b,off+j*4+2,none⟩) XP).trans hat.c2,(UJ.cell (p:=⟨b,off+j*4+3,none⟩) XP).trans hat.c3⟩
   obtain⟨h8,hit⟩:=HW.out j kk kx ky kc kr hdr
   have MD:Hid (∀W,Below wr.heap.size wr W→Calls prog 19 #[ξ #[ι κ kk,σ kx,σ ky,ς Ak kc.len Ck]] W fun e w'=>e = ρ (σ (sI kk kx ky kc))∧Below W.heap.size W w'):=fun W hW=>by
    have UJ:=ZW.out.trans (hW.mono ZW.out.size);exact hit Ak kc.len Ck W (hat.kids.later UJ)
   have UG:=QA (Qsu Hf.out hdr JG h8);have hp1:=tP UG.out;rw[VT]at hp1;have vP:=Te.out;generalize sI kk kx ky kc=sk at *;have hp2:p.size≤1000002:=by omega
   have Mg:sk.size≤1000002:=by omega
   obtain⟨q0,q1,q2,q3⟩:=H4.out wr (QF _ _);clear Hf hdr JG hat XP h8 hit hp1 vP;go_wp2_with fail;refine c₁ (MD.out wr (QF _ _)) fun w2 hb=>?_;have HB:=QN ZW hb;clear hb ZW q0 q1 q2 q3;go_wp2
   go_roundw
   case rel=>exact⟨j+1,p++sk,by omega,by go_num,rfl,UG.out,HB.out⟩
   case measure=>simp[intOf];omega
  ·have hjn:j=n:=by omega
   have hp:p=(⟨#[123,10]⟩:ByteArray)++sT c:=by have h:=Hf.out;unfold DU at h;rw[F.JH j _ (by rw[EF.out];omega),pq,Za]at h;exact h
   have hps:=tP Hf.out;have vP:=Te.out;have hp2:p.size≤1000002:=by omega
   subst hjn;have HP:=QA hp;have HB:=QA ZW.out;clear Hf ZW hp hps vP;go_wp2;go_ret;exact⟨by rw[Br.out,HP.out];rfl,HB.out⟩
