import Derived.Test.YtaiihnniblibaaaGreatDoorG29
import Derived.Test.YtaiihnniblibaaaGreatDoorG30
set_option linter.unusedVariables false
open _root_.Nat renaming lt_succ_self→JW
open _root_.List renaming append_assoc→KA
namespace Go.Proofs.YtaiihnniblibaaaGreatDoor
namespace JI
open Tree QB
section
variable {nm:ByteArray→Bool}{tk:ByteArray→Int→Bool}
theorem Jx{k:Int}{x:ByteArray}(h:Jl k x=true):k=4∨k=5∨k=6∨k=7∨k=8:=by
 unfold Jl at h;simp only[Bool.or_eq_true,beq_iff_eq]at h;omega
theorem G3{p:Int→ByteArray→Bool}(hp:∀k x,p k x=true→k=8∨X1 k):∀{f:F},K7 p f→Gd f
 | .nil,_=>trivial
 | .cons k x y c r,⟨h,hr⟩=>⟨hp k x h,G3 hp hr⟩
theorem zn{p:Int→ByteArray→Bool}{ws:List (List UInt8)}(hp:∀k x,p k x=true→k=8∨(X1 k∧Yr k∈ws)):∀{f:F},K7 p f→km ws f
 | .nil,_=>trivial
 | .cons k x y c r,⟨h,hr⟩=>⟨hp k x h,zn hp hr⟩
theorem xS{k:Int}{x y:ByteArray}{c:F}(hk:X1 k)(rest:List Tk):∃w,Jh k x y (sp k x c)++rest=JP (Yr k)::w:=by
 obtain⟨w,e⟩:=zo (x:=x) (c:=c) hk;have h8:k≠8:=by rcases hk with rfl|rfl|rfl|rfl|rfl|rfl <;> decide
 unfold Jh;rw[if_neg h8,e,List.append_assoc,List.cons_append];exact⟨_,rfl⟩
theorem nO{z:Nat}{ws:List (List UInt8)}{u:List UInt8}{w:List Tk}(h:u ∉ ws):¬Re z ws (JP u::w):=by
 rintro(q|q)
 ·cases q
 ·simp only[List.any_eq_true]at q;obtain⟨v,hv,q⟩:=q;rw[Qq,V0,beq_iff_eq]at q;subst q;exact h hv
theorem mh(T:TxtOk nm tk){z:Nat}{px:ByteArray}{f:F}{i:Nat}(ha:K7 Jl f)(hk:Z4 nm tk 1 px true 0 i f=true):jF z (Qs f (Qw f)) f:=by
 have hir:Gd f:=G3 (fun k x h=>by rcases Jx h with rfl|rfl|rfl|rfl|rfl <;> simp[X1]) ha;intro g hg;have h:=zB (z:=z) (ws:=U8) f (fun B=>Ew T f i hir hk) hir (zn (fun k x h=>by rcases Jx h with rfl|rfl|rfl|rfl|rfl <;> simp[X1,Yr,U8]) ha) [] g (fun q=>by cases q.1) (Gp Ed) (by rw[List.append_nil];exact hg);rw[List.append_nil]at h;exact h
theorem nV(T:TxtOk nm tk){z:Nat}{x y:ByteArray}{c:F}(hr:Jt nm tk 1 x y c=true):G5 z (Qs c (Qw c))=.ok c []:=by
 unfold Jt at hr;rw[show((1:Int)==1)=true from rfl,Bool.true_and]at hr;obtain⟨hd,htx,htr,ZE,hks⟩:=Qd hr;have ZE:Qe [.one [Qk [2]],.many (Qk [3,8]),.many Jl] (Kv (Qk [8]) c)=true:=ZE;obtain⟨a1,e1,ha1⟩:=Gn (Qk [8]) c;obtain⟨k,xp,yp,cp,r,e2,hp,hr2⟩:=Zi ZE;obtain rfl:=Vl (Z0 hp);have hr2:Qe [.many Jl] (Kv (Qk [3,8]) r)=true:=hr2;have DN:=Eb hr2;obtain⟨a2,e3,ha2⟩:=Gn (Qk [3,8]) r
 have ie:∀{k x y c r'},Kv (Qk [3,8]) r = .cons k x y c r'→k≠8∧k≠3:=fun h=>by
  have:=mJ h;unfold Qk at this;simp at this;omega
 generalize Kv (Qk [3,8]) r=a3 at *;rw[e2]at e1;subst e3;have hc:c=Vi a1 (Qo ⟨2,xp,yp,cp⟩ (Vi a2 a3)):=e1;obtain⟨_,hk1,hk2⟩:=xU (tk:=tk) (nm:=nm) (pk:=1) (px:=x) (it:=true) (d:=0) a1 _ 0 (by rw[←e1];exact hks);obtain⟨fL,hk3⟩:=Qp hk2;obtain⟨_,hk4,UW⟩:=xU a2 a3 _ hk3;have hi1:Gd a1:=G3 (fun k x h=>.inl (Vl h)) ha1;have hi2:Gd a2:=G3 (fun k x h=>by rcases Bb h with rfl|rfl <;> simp[X1]) ha2;have hi3:Gd a3:=G3 (fun k x h=>by rcases Jx h with rfl|rfl|rfl|rfl|rfl <;> simp[X1]) DN;have uG:Gd (.cons 2 xp yp cp .nil):=⟨.inr (.inl rfl),trivial⟩;have hw3:∀ws,([105,109,112,111,114,116]:List UInt8)∈ws→ws=Mv→¬Re z ws (Qs a3 (Qw a3))∧N5 (QB.hd z (Qs a3 (Qw a3))):=by
  intro ws _ hws;subst hws;cases a3 with
  |nil=>exact⟨Gp kT,fun q=>by cases q.1⟩
  |cons k3 x3 y3 c3 r3 =>
   obtain⟨h8,h3⟩:=ie rfl;have vZ:k3=4∨k3=5∨k3=6∨k3=7:=by rcases Jx DN.1 with h|h|h|h|h <;> omega
   have ir:X1 k3:=by unfold X1;omega
   obtain⟨w,ew⟩:=xS (x:=x3) (y:=y3) (c:=c3) ir (Qs r3 (Qw r3));have e:Qs (.cons k3 x3 y3 c3 r3) (Qw (.cons k3 x3 y3 c3 r3))=JP (Yr k3)::w:=ew;rw[e];refine⟨nO ?_,fun q=>by cases q.1⟩;rcases vZ with rfl|rfl|rfl|rfl <;> decide
 obtain⟨hno,uy⟩:=hw3 Mv (by decide) rfl;have hsp:Qs c (Qw c)=Qs a1 (Qw a1)++(Jh 2 xp yp (sp 2 xp cp)++(Qs a2 (Qw a2)++Qs a3 (Qw a3))):=by rw[hc,El];show _++(Jh 2 xp yp (sp 2 xp cp)++Qs (Vi a2 a3) (Qw (Vi a2 a3)))=_;rw[El]
 rw[hsp];unfold G5;obtain⟨w,ew⟩:=xS (x:=xp) (y:=yp) (c:=cp) (.inl rfl) (Qs a2 (Qw a2)++Qs a3 (Qw a3));have hpw:Yr 2=[112,97,99,107,97,103,101]:=rfl;rw[hpw]at ew
 have iK:=zB (z:=z) (ws:=[]) a1 (fun B=>Ew T a1 0 hi1 hk1) hi1 (zn (fun k x h => .inl (Vl h)) ha1) (Jh 2 xp yp (sp 2 xp cp)++(Qs a2 (Qw a2)++Qs a3 (Qw a3))) _
  (by rw[ew];exact fun q=>by cases q.1) (by rw[ew];exact nO (by decide)) (JW _)
 rw[iK,Rd.bind_ok];rw[Z3 (show QQ (QB.hd z (Jh 2 xp yp (sp 2 xp cp)++(Qs a2 (Qw a2)++Qs a3 (Qw a3)))) [112,97,99,107,97,103,101]=true by rw[ew,Qq,V0];rfl),Rd.bind_ok];have hpi:=Ew T (z:=z) (B:=(Jh 2 xp yp (sp 2 xp cp)++(Qs a2 (Qw a2)++Qs a3 (Qw a3))).length+1) (.cons 2 xp yp cp .nil) _ uG (show Z4 nm tk 1 x true 0 _ (.cons 2 xp yp cp .nil)=true by rw[G0,fL];rfl);obtain⟨_,hh1,ig,_⟩:=hpi;have OE:=fun B=>Ew T (z:=z) (B:=B) a2 _ hi2 hk4
 rw[xR (Nat.zero_le _) (fun q=>by cases q) ig _ (gz (OE 0) _ uy) (JW _),Rd.bind_ok];rw[zB (z:=z) (ws:=Mv) a2 OE hi2 (zn (fun k x h=>by rcases Bb h with rfl|rfl <;> simp[X1,Yr,Mv]) ha2) _ _ uy hno (JW _),Rd.bind_ok];rw[mh T DN UW _ (JW _),Rd.bind_ok];show Rd.ok _ _=_;rw[hc]
theorem oz{l l':List Tk}(h:Ap [] l l')(s:List Tk):Ap s l (l++s):=by
 induction h with
 |nil=>exact .nil
 |cons ht _ ih=>exact .cons ⟨rfl,fun _=>rfl,fun _=>rfl,fun e=>⟨(ht.e e).1,(ht.e e).1⟩⟩ ih
theorem Qm1{u:List UInt8}{w:List Tk}(hu:u∈U8):NL (JP u::w):=fun z z'=>by
 have h1:∀u∈U8,∀v∈DX,(u==v)=false:=by decide
 have h2:∀u∈U8,Lex.isWord (u.map fun b=>(b.toNat:Int))=true∧Ql (ba u)=0:=by decide +kernel
 refine⟨fun v hv=>?_,?_,?_,?_,?_,?_,?_⟩
 ·rw[Qq,V0,h1 u hu v hv];cases hq:QQ (QB.hd z []) v
  ·rfl
  ·exact absurd rfl (Zh (AG v hv).1 hq)
 ·show false=Je (JP u);unfold Je ZA;rw[show(JP u).x.toList=u from Yp u,(h2 u hu).1];rfl
 ·show Ql e0=Ql (ba u);rw[(h2 u hu).2];exact Km (.inl Xn)
 ·show(0:Int)=2↔(1:Int)=2;decide
 ·show(0:Int)=3↔(1:Int)=3;decide
 ·show(0:Int)=6↔(1:Int)=6;decide
 ·show((0:Int)=5∧false=false)↔((1:Int)=5∧false=false);decide
theorem Qp3{x:ByteArray}{w:List Tk}{q:List UInt8}(hx:x.toList=47::47::q):NL (Pq x true::w):=fun z z'=>by
 have h:=Qm2 (t:=Pq x true) rfl rfl (fun v hv=>by
  have h1:∀v∈DX,v.take 2≠[47,47]:=by decide
  unfold QQ;rw[show(Pq x true).x.toList=47::47::q from hx];refine beq_eq_false_iff_ne.2 fun e=>h1 v hv ?_
  rw[←e];rfl) (by
  show Ql x=0
  have h2:∀a u,(a::u:List UInt8)≠47::47::q→(x.toList==a::u)=false:=fun a u h=>by
   rw[hx];exact beq_eq_false_iff_ne.2 fun e=>h e.symm
  unfold Ql
  rw[h2 124 [124] (by simp),h2 38 [38] (by simp),h2 61 [61] (by simp),h2 33 [61] (by simp),h2 60 [] (by simp),h2 60 [61] (by simp),h2 62 [] (by simp),h2 62 [61] (by simp),h2 43 [] (by simp),h2 45 [] (by simp),h2 124 [] (by simp),h2 94 [] (by simp),
   h2 42 [] (by simp),h2 47 [] (by simp),h2 37 [] (by simp),h2 60 [60] (by simp),h2 62 [62] (by simp),h2 38 [] (by simp),h2 38 [94] (by simp)]
  rfl)
 exact h z z'
end
open KL
abbrev Pc:=List (Int×List Int)
def LD(b:Bool):Pc→Bool
 |[]=>b
 |(k,_)::ps=>if k=7 then LD b ps else decide (k=8∨k=5)
def EA(b:Bool):Pc→Bool→List Tk
 |[],_=>[]
 |(k,t)::ps,f =>
  if k=8 then EA b ps true
  else if k=7 then EA b ps f
  else⟨k,strOfNums t,0,decide (k=5)&&f⟩::((if(Lex.closes k t&&LD b ps)=true then[VR]else[])++EA b ps false)
def Hy:Pc→Bool→Bool
 |[],f=>f
 |(k,_)::ps,f=>if k=8 then Hy ps true else if k=7 then Hy ps f else Hy ps false
theorem kW(b:Bool):∀ps qs,LD b (ps++qs)=LD (LD b qs) ps
 |[],_=>rfl
 |(k,t)::ps,qs=>by simp only[List.cons_append,LD,kW b ps qs]
theorem Yl:∀(ps qs:Pc)(f:Bool),Hy (ps++qs) f=Hy qs (Hy ps f)
 |[],_,_=>rfl
 |(k,t)::ps,qs,f=>by
  simp only[List.cons_append,Hy];split
  ·exact Yl ps qs _
  ·split <;> exact Yl ps qs _
theorem Fv(b:Bool):∀(ps qs:Pc)(f:Bool),EA b (ps++qs) f=EA (LD b qs) ps f++EA b qs (Hy ps f)
 |[],_,_=>rfl
 |(k,t)::ps,qs,f=>by
  simp only[List.cons_append,EA,Hy];split
  ·exact Fv b ps qs _
  ·split
   ·exact Fv b ps qs _
   ·rw[Fv b ps qs,kW];simp only[List.cons_append,List.append_assoc]
theorem pK:∀ps:Pc,Lex.over ps=LD true ps
 |[]=>rfl
 |(k,t)::ps=>by simp only[Lex.over,LD,pK ps]
theorem lJ:∀(ps:Pc)(n:Nat)(f:Bool),(∀p∈ps,p.1=6→p.2=[59])→Ap [] (EA true ps f) ((Lex.fin ps n f).map Mu)
 |[],_,_,_=>.nil
 |(k,t)::ps,n,f,h=>by
  have ih:=fun a g=>lJ ps a g (fun p hp=>h p (by simp[hp]))
  by_cases h8:k=8
  ·simp only[EA,Lex.fin,if_pos h8];exact ih _ _
  by_cases h7:k=7
  ·simp only[EA,Lex.fin,if_neg h8,if_pos h7];exact ih _ _
  simp only[EA,Lex.fin,if_neg h8,if_neg h7,List.map_cons,List.map_append,pK];refine .cons ⟨rfl,fun _=>rfl,fun e=>?_,fun e=>?_⟩ ?_
  ·have e:k=5:=e;show(decide (k=5)&&f)=f;rw[decide_eq_true e];rfl
  ·have:t=[59]:=h (k,t) (by simp) e;subst this;exact⟨.inr (by decide +kernel:(strOfNums [59]).toList=[59]),.inr (by decide +kernel:(strOfNums [59]).toList=[59])⟩
  ·by_cases hc:(Lex.closes k t&&LD true ps)=true
   ·rw[if_pos hc,if_pos hc];exact .cons ⟨rfl,fun e=>absurd rfl e,fun _=>rfl,fun _=>⟨.inl Xn,.inl (by decide +kernel:(strOfNums []).toList=[])⟩⟩ (ih _ _)
   ·rw[if_neg hc,if_neg hc];exact ih _ _
theorem V6:∀a b:Pc,Lex.cat (a++b)=Lex.cat a++Lex.cat b
 |[],_=>rfl
 |(k,t)::a,b=>by simp only[List.cons_append,Lex.cat,V6 a b,List.append_assoc]
def bl(u:List UInt8):List Int:=u.map fun b=>(b.toNat:Int)
theorem Uq(u:List UInt8):strOfNums (bl u)=ba u:=by
 unfold strOfNums bl ba;rw[List.map_map,show((fun n:Int=>UInt8.ofNat n.toNat) ∘ fun b:UInt8=>(b.toNat:Int))=id from funext fun b=>by simp,List.map_id]
theorem Vd(x:ByteArray):strOfNums (ZA x)=x:=by
 show strOfNums (bl x.toList)=x;rw[Uq];exact Jp (Yp _)
def pW(u:List UInt8):Int×List Int:=(1,bl u)
def pM(u:List UInt8):Int×List Int:=(4,bl u)
def pB:Int×List Int:=(7,[32])
def pN:Int×List Int:=(8,[10])
def Nx(z:List Int):Prop:=∀c r,z=c::r→Lex.Ka c=false
theorem Uw{c:Int}{r:List Int}(h:Lex.Ka c=false):Nx (c::r):=fun c' r' e=>by injection e with e _;rw[←e];exact h
theorem Q1e:Nx []:=fun c r e=>by cases e
def S2(c:Int):Prop:=c=60∨c=62∨c=94∨c=38∨c=124∨c=61∨c=43∨c=45∨c=47
theorem gD:∀m∈Lex.Vw,m.length=2∧S2 (m.getD 1 0):=by unfold S2;decide
section
variable {z:List Int}{qs:Pc}{e:List Int}
theorem Yh(h:Lex.Zk z qs e):Lex.Zk (32::z) (pB::qs) e:=⟨z,rfl,rfl,by simp,h⟩
theorem gN(h:Lex.Zk z qs e):Lex.Zk (10::z) (pN::qs) e:=⟨z,rfl,rfl,by simp,h⟩
theorem Fi{t:List Int}(h0:t.length≠0)(hk:Lex.kd (t.getD 0 0)=1)(ht:Lex.lead Lex.Ka t=t.length)(hz:Nx z)(h:Lex.Zk z qs e):Lex.Zk (t++z) ((1,t)::qs) e:=by
 refine⟨z,rfl,?_,h0,h⟩;cases t with
 |nil=>exact absurd rfl h0
 |cons c r=>rw[List.cons_append,Lex.Z9,if_pos (by simpa using hk)];have:=Lex.ni Lex.Ka (c::r) z ht hz;rw[show Lex.K8 (c::(r++z))=(c::r).length from this]
theorem kQ{c:Int}(h1:[c]∈Lex.V2)(hk:Lex.kd c=4)(hz:∀d r,z=d::r→¬S2 d)(h:Lex.Zk z qs e):Lex.Zk (c::z) ((4,[c])::qs) e:=by
 refine⟨z,rfl,?_,by simp,h⟩;have h2:(c::z).take 2 ∉ Lex.Vw:=by
  intro hm;obtain⟨hl,hs⟩:=gD _ hm;cases z with
  |nil=>simp at hl
  |cons d r=>exact hz d r rfl (by simpa using hs)
 have h47:(c::z).take 2≠[47,47]:=by
  intro q;cases z with
  |nil=>simp at q
  |cons d r =>
   have:d=47:=by simp at q;exact q.2
   exact hz d r rfl (by unfold S2;omega)
 rw[Lex.Z9,if_neg (by omega),if_neg (by omega),if_neg (by omega),if_pos hk,if_neg h47];unfold Lex.Ks;rw[if_neg h2,if_pos (show(c::z).take 1∈Lex.V2 from h1)];rfl
theorem qT{c:Int}(hc:c=40∨c=41∨c=91∨c=93∨c=123∨c=125∨c=44∨c=46)(h:Lex.Zk z qs e):Lex.Zk (c::z) ((4,[c])::qs) e:=by
 have h1:[c]∈Lex.V2:=by rcases hc with rfl|rfl|rfl|rfl|rfl|rfl|rfl|rfl <;> decide
 have hk:Lex.kd c=4:=by rcases hc with rfl|rfl|rfl|rfl|rfl|rfl|rfl|rfl <;> rfl
 have hn:∀m∈Lex.Vw,m.getD 0 0≠40∧m.getD 0 0≠41∧m.getD 0 0≠91∧m.getD 0 0≠93∧m.getD 0 0≠123∧m.getD 0 0≠125∧m.getD 0 0≠44∧m.getD 0 0≠46:=by decide
 refine⟨z,rfl,?_,by simp,h⟩;have h2:(c::z).take 2 ∉ Lex.Vw:=by intro hm;have:=hn _ hm;simp at this;omega
 have h47:(c::z).take 2≠[47,47]:=by
  intro q;have:c=47:=by
   cases z with
   |nil=>simp at q
   |cons d r=>simp at q;exact q.1
  omega
 rw[Lex.Z9,if_neg (by omega),if_neg (by omega),if_neg (by omega),if_pos hk,if_neg h47];unfold Lex.Ks;rw[if_neg h2,if_pos (show(c::z).take 1∈Lex.V2 from h1)];rfl
theorem rD{a b:Int}(h1:[a,b]∈Lex.Vw)(h:Lex.Zk z qs e):Lex.Zk (a::b::z) ((4,[a,b])::qs) e:=by
 refine⟨z,rfl,?_,by simp,h⟩;have hk:∀m∈Lex.Vw,Lex.kd (m.getD 0 0)=4∧m≠[47,47]:=by decide
 obtain⟨hk,h47⟩:=hk _ h1;have hk:Lex.kd a=4:=hk;rw[Lex.Z9,if_neg (by omega),if_neg (by omega),if_neg (by omega),if_pos hk,if_neg (show ¬(a::b::z).take 2=[47,47]from h47)];unfold Lex.Ks;rw[if_pos (show(a::b::z).take 2∈Lex.Vw from h1)];rfl
theorem Q2x{x:ByteArray}(hx:ZA x∈Lex.Vw∨(∃c,ZA x=[c]∧[c]∈Lex.V2∧Lex.kd c=4))(h:Lex.Zk z qs e):Lex.Zk (ZA x++32::z) ((4,ZA x)::pB::qs) e:=by
 rcases hx with hx|⟨c,hx,h1,hk⟩
 ·have hl:=(gD _ hx).1
  match hm:ZA x,hl with
  |[a,b],_=>rw[hm]at hx;exact rD hx (Yh h)
 ·rw[hx];exact kQ h1 hk (fun d r e=>by injection e with e _;subst e;unfold S2;omega) (Yh h)
end
structure Ph(E:Pc)(w:List Tk):Prop where
 fn:∀b f,EA b E f=w++(if b=true then[VR]else[])
 ov:∀b,LD b E=false
 af:∀f,Hy E f=false
 ti:∀z qs e,Nx z→Lex.Zk z qs e→Lex.Zk (Lex.cat E++z) (E++qs) e
 tx:Lex.Vs (Lex.cat E)
structure KU(nm:ByteArray→Bool)(tk:ByteArray→Int→Bool):Prop extends TxtOk nm tk where
 nl:∀x,nm x=true→(ZA x).length≠0∧Lex.kd ((ZA x).getD 0 0)=1∧Lex.lead Lex.Ka (ZA x)=(ZA x).length
 il:∀x,tk x 2=true→(ZA x).length≠0∧∀z qs e,Nx z→Lex.Zk z qs e→Lex.Zk (ZA x++z) ((2,ZA x)::qs) e
 sl:∀x,tk x 3=true→(ZA x).length≠0∧∀z qs e,Lex.Zk z qs e→Lex.Zk (ZA x++z) ((3,ZA x)::qs) e
 rl:∀x,tk x 5=true→(ZA x).length≠0∧∀z qs e,Lex.Zk z qs e→Lex.Zk (ZA x++10::z) ((5,ZA x)::pN::qs) e
 nt:∀x,nm x=true→Lex.Vs (ZA x)
 tt:∀x k,tk x k=true→Lex.Vs (ZA x)
theorem mB{k:Int}{t:List Int}{z:List Int}{qs:Pc}{e:List Int}(h:Lex.Zk (t++z) ((k,t)::qs) e):Lex.Zk (Lex.cat [(k,t)]++z) ([(k,t)]++qs) e:=by
 show Lex.Zk ((t++[])++z) ((k,t)::qs) e;rw[List.append_nil];exact h
theorem Fl{k:Int}{t:List Int}(hk:k=1∨k=2∨k=3∨k=4)(hc:Lex.closes k t=true)(ht:∀z qs e,Nx z→Lex.Zk z qs e→Lex.Zk (t++z) ((k,t)::qs) e)(hx:Lex.Vs t):Ph [(k,t)] [⟨k,strOfNums t,0,false⟩] where
 fn:=fun b f=>by
  have h8:¬k=8:=by omega
  have h7:¬k=7:=by omega
  have h5:¬k=5:=by omega
  simp only[EA,if_neg h8,if_neg h7,hc,Bool.true_and,decide_eq_false h5,Bool.false_and,List.append_nil,LD];cases b <;> rfl
 ov:=fun b=>by
  have h8:¬k=8:=by omega
  have h7:¬k=7:=by omega
  have h5:¬k=5:=by omega
  simp only[LD,if_neg h7];simp[h8,h5]
 af:=fun f=>by
  have h8:¬k=8:=by omega
  have h7:¬k=7:=by omega
  simp only[Hy,if_neg h8,if_neg h7]
 ti:=fun z qs e hz h=>mB (ht z qs e hz h)
 tx:=by show Lex.Vs (t++[]);rw[List.append_nil];exact hx
theorem U5{u:List UInt8}(h:∀b∈u,b.toNat<128):Lex.Vs (bl u):=Lex.Gm fun x hx=>by
 obtain⟨b,hb,rfl⟩:=List.mem_map.1 hx;have:=h b hb;omega
theorem jV{l:List Int}(h:Lex.Vs l):Lex.Vs (32::l):=Lex.Vu (a:=[32]) (Lex.Gm fun x hx=>by simp at hx;omega) h
theorem jU{l:List Int}(h:Lex.Vs l):Lex.Vs (10::l):=Lex.Vu (a:=[10]) (Lex.Gm fun x hx=>by simp at hx;omega) h
section
variable {E E2:Pc}{w w2:List Tk}{k:Int}{t:List Int}
theorem Ph.LN(h:Ph E w)(b:Bool)(qs:Pc)(f:Bool):EA b (E++qs) f=w++((if LD b qs=true then[VR]else[])++EA b qs false):=by
 rw[Fv,h.fn,h.af,KA]
theorem Ph.TU(h:Ph E w)(b:Bool)(qs:Pc):LD b (E++qs)=false:=by rw[kW,h.ov]
theorem qP(hk:k=1∨k=2∨k=3∨k=4)(ht:∀z qs e,Lex.Zk (Lex.cat E++z) (E++qs) e→Lex.Zk (t++(Lex.cat E++z)) ((k,t)::(E++qs)) e)(hx:Lex.Vs t)(h:Ph E w):Ph ((k,t)::E) (⟨k,strOfNums t,0,false⟩::w):=by
 have h8:¬k=8:=by omega
 have h7:¬k=7:=by omega
 have h5:¬k=5:=by omega
 refine⟨fun b f=>?_,fun b=>?_,fun f=>?_,fun z qs e hz hq=>?_,?_⟩
 ·simp only[EA,if_neg h8,if_neg h7,h.ov,Bool.and_false,decide_eq_false h5,Bool.false_and,h.fn];rfl
 ·simp only[LD,if_neg h7];simp[h8,h5]
 ·simp only[Hy,if_neg h8,if_neg h7,h.af]
 ·show Lex.Zk ((t++Lex.cat E)++z) ((k,t)::(E++qs)) e;rw[KA];exact ht z qs e (h.ti z qs e hz hq)
 ·exact Lex.Vu hx h.tx
theorem Eo(hk:k=1∨k=2∨k=3∨k=4)(ht:∀z qs e,Lex.Zk z qs e→Lex.Zk (t++32::z) ((k,t)::pB::qs) e)(hx:Lex.Vs t)(h:Ph E w):Ph ((k,t)::pB::E) (⟨k,strOfNums t,0,false⟩::w):=by
 have h8:¬k=8:=by omega
 have h7:¬k=7:=by omega
 have h5:¬k=5:=by omega
 have hov:∀b,LD b (pB::E)=false:=fun b=>h.ov b
 have hfn:∀b,EA b (pB::E) false=EA b E false:=fun b=>rfl
 have iC:Hy (pB::E) false=Hy E false:=rfl;refine⟨fun b f=>?_,fun b=>?_,fun f=>?_,fun z qs e hz hq=>?_,?_⟩
 ·rw[EA,if_neg h8,if_neg h7,hov,hfn,h.fn,Bool.and_false,decide_eq_false h5];rfl
 ·rw[LD,if_neg h7];simp[h8,h5]
 ·rw[Hy,if_neg h8,if_neg h7,iC,h.af]
 ·show Lex.Zk ((t++(32::Lex.cat E))++z) ((k,t)::pB::(E++qs)) e;rw[KA];exact ht _ _ e (h.ti z qs e hz hq)
 ·exact Lex.Vu hx (jV h.tx)
theorem Gu(h:Ph E w)(hn:∀z,Nx (Lex.cat E2++z))(h2:Ph E2 w2):Ph (E++E2) (w++w2):=by
 refine⟨fun b f=>?_,fun b=>h.TU b E2,fun f=>?_,fun z qs e hz hq=>?_,?_⟩
 ·rw[h.LN,h2.ov,h2.fn];simp
 ·rw[Yl,h.af,h2.af]
 ·rw[V6,KA,KA];exact h.ti _ _ e (hn z) (h2.ti z qs e hz hq)
 ·rw[V6];exact Lex.Vu h.tx h2.tx
theorem Gb(h:Ph E w)(h2:Ph E2 w2):Ph (E++pB::E2) (w++w2):=by
 have hov:∀b,LD b (pB::E2)=false:=fun b=>h2.ov b
 refine⟨fun b f=>?_,fun b=>h.TU b _,fun f=>?_,fun z qs e hz hq=>?_,?_⟩
 ·rw[h.LN,hov];show w++([]++EA b E2 false)=_;rw[h2.fn];simp
 ·rw[Yl,h.af];exact h2.af false
 ·rw[V6,KA,KA];exact h.ti _ _ e (Uw (c:=32) rfl) (Yh (h2.ti z qs e hz hq))
 ·rw[V6];exact Lex.Vu h.tx (jV h2.tx)
end
theorem jY(a:UInt8):bl [a]=[(a.toNat:Int)]:=rfl
section
variable {E:Pc}{w:List Tk}
theorem NI{a:UInt8}(ha:a∈([40,41,91,93,123,125,44,46]:List UInt8))(h:Ph E w):Ph (pM [a]::E) (ZG [a]::w):=by
 have hc:∀a∈([40,41,91,93,123,125,44,46]:List UInt8),(a.toNat:Int)=40∨(a.toNat:Int)=41∨(a.toNat:Int)=91∨(a.toNat:Int)=93∨(a.toNat:Int)=123∨(a.toNat:Int)=125∨(a.toNat:Int)=44∨(a.toNat:Int)=46:=by decide
 have:=qP (k:=4) (t:=bl [a]) (.inr (.inr (.inr rfl))) (fun z qs e hq=>by rw[jY];exact qT (hc a ha) hq) (U5 fun b hb=>by
  have hb:b=a:=by simpa using hb
  subst hb;have:∀a∈([40,41,91,93,123,125,44,46]:List UInt8),a.toNat<128:=by decide
  exact this _ ha) h
 rw[Uq]at this;exact this
theorem jP{a:UInt8}(ha:a∈([41,44]:List UInt8))(h:Ph E w):Ph (pM [a]::pB::E) (ZG [a]::w):=by
 have hc:∀a∈([41,44]:List UInt8),(a.toNat:Int)=40∨(a.toNat:Int)=41∨(a.toNat:Int)=91∨(a.toNat:Int)=93∨(a.toNat:Int)=123∨(a.toNat:Int)=125∨(a.toNat:Int)=44∨(a.toNat:Int)=46:=by decide
 have:=Eo (k:=4) (t:=bl [a]) (.inr (.inr (.inr rfl))) (fun z qs e hq=>by rw[jY];exact qT (hc a ha) (Yh hq)) (U5 fun b hb=>by
  have hb:b=a:=by simpa using hb
  subst hb;have:∀a∈([41,44]:List UInt8),a.toNat<128:=by decide
  exact this _ ha) h
 rw[Uq]at this;exact this
theorem lZ(h:Ph E w):Ph (pM [61]::pB::E) (ZG [61]::w):=by
 have:=Eo (k:=4) (t:=bl [61]) (.inr (.inr (.inr rfl))) (fun z qs e hq=>kQ (c:=61) (by decide) rfl (fun d r e=>by injection e with e _;subst e;unfold S2;omega) (Yh hq)) (U5 (by decide)) h;rw[Uq]at this;exact this
theorem AL{a:UInt8}(ha:a∈([41,93,125]:List UInt8)):Ph [pM [a]] [ZG [a]]:=by
 have hc:∀a∈([41,93,125]:List UInt8),(a.toNat:Int)=40∨(a.toNat:Int)=41∨(a.toNat:Int)=91∨(a.toNat:Int)=93∨(a.toNat:Int)=123∨(a.toNat:Int)=125∨(a.toNat:Int)=44∨(a.toNat:Int)=46:=by decide
 have hcl:∀a∈([41,93,125]:List UInt8),Lex.closes 4 (bl [a])=true:=by decide
 have:=Fl (k:=4) (t:=bl [a]) (.inr (.inr (.inr rfl))) (hcl a ha) (fun z qs e hz hq=>by rw[jY];exact qT (hc a ha) hq) (U5 fun b hb=>by
  have hb:b=a:=by simpa using hb
  subst hb;have:∀a∈([41,93,125]:List UInt8),a.toNat<128:=by decide
  exact this _ ha)
 rw[Uq]at this;exact this
def qC:List (List UInt8):=[[112,97,99,107,97,103,101],[105,109,112,111,114,116],[99,111,110,115,116],[118,97,114],[116,121,112,101],[102,117,110,99],[109,97,112],[115,116,114,117,99,116],[105,102],[101,108,115,101],[102,111,114],
 [114,101,116,117,114,110],[98,114,101,97,107],[99,111,110,116,105,110,117,101]]
theorem xJ:∀u∈qC,(bl u).length≠0∧Lex.kd ((bl u).getD 0 0)=1∧Lex.lead Lex.Ka (bl u)=(bl u).length∧∀b∈u,b.toNat<128:=by decide +kernel
theorem Ep{u:List UInt8}(hu:u∈qC)(h:Ph E w):Ph (pW u::pB::E) (JP u::w):=by
 obtain⟨h0,h1,h2,h3⟩:=xJ u hu;have:=Eo (k:=1) (t:=bl u) (.inl rfl) (fun z qs e hq=>Fi h0 h1 h2 (Uw (c:=32) rfl) (Yh hq)) (U5 h3) h;rw[Uq]at this;exact this
theorem Q27{u:List UInt8}(hu:u∈qC)(hn:∀z,Nx (Lex.cat E++z))(h:Ph E w):Ph (pW u::E) (JP u::w):=by
 obtain⟨h0,h1,h2,h3⟩:=xJ u hu;have:=qP (k:=1) (t:=bl u) (.inl rfl) (fun z qs e hq=>Fi h0 h1 h2 (hn z) hq) (U5 h3) h;rw[Uq]at this;exact this
theorem jR{u:List UInt8}(hu:u∈([[114,101,116,117,114,110],[98,114,101,97,107],[99,111,110,116,105,110,117,101]]:List (List UInt8))):Ph [pW u] [JP u]:=by
 have hw:∀u∈([[114,101,116,117,114,110],[98,114,101,97,107],[99,111,110,116,105,110,117,101]]:List (List UInt8)),u∈qC∧Lex.closes 1 (bl u)=true:=by decide
 obtain⟨h0,h1,h2,h3⟩:=xJ u (hw u hu).1;have:=Fl (k:=1) (t:=bl u) (.inl rfl) (hw u hu).2 (fun z qs e hz hq=>Fi h0 h1 h2 hz hq) (U5 h3);rw[Uq]at this;exact this
variable {nm:ByteArray→Bool}{tk:ByteArray→Int→Bool}(T:KU nm tk)
include T
theorem Qrb{x:ByteArray}(h:nm x=true):Lex.closes 1 (ZA x)=true:=by
 unfold Lex.closes;rw[if_neg (by omega),if_pos rfl,T.w x h];rfl
theorem Ae{x:ByteArray}(h:nm x=true):Ph [(1,ZA x)] [XL x]:=by
 obtain⟨h0,h1,h2⟩:=T.nl x h;have:=Fl (k:=1) (t:=ZA x) (.inl rfl) (Qrb T h) (fun z qs e hz hq=>Fi h0 h1 h2 hz hq) (T.nt x h);rw[Vd]at this;exact this
theorem Q26{x:ByteArray}(h:tk x 2=true):Ph [(2,ZA x)] [CY x]:=by
 have:=Fl (k:=2) (t:=ZA x) (.inr (.inl rfl)) rfl (fun z qs e hz hq=>(T.il x h).2 z qs e hz hq) (T.tt x 2 h);rw[Vd]at this;exact this
theorem cJ{x:ByteArray}(h:tk x 3=true):Ph [(3,ZA x)] [SK x]:=by
 have:=Fl (k:=3) (t:=ZA x) (.inr (.inr (.inl rfl))) rfl (fun z qs e hz hq=>(T.sl x h).2 z qs e hq) (T.tt x 3 h);rw[Vd]at this;exact this
theorem qg{x:ByteArray}(h:nm x=true)(hE:Ph E w):Ph ((1,ZA x)::pB::E) (XL x::w):=by
 obtain⟨h0,h1,h2⟩:=T.nl x h;have:=Eo (k:=1) (t:=ZA x) (.inl rfl) (fun z qs e hq=>Fi h0 h1 h2 (Uw (c:=32) rfl) (Yh hq)) (T.nt x h) hE;rw[Vd]at this;exact this
theorem Q2l{x:ByteArray}(h:nm x=true)(hn:∀z,Nx (Lex.cat E++z))(hE:Ph E w):Ph ((1,ZA x)::E) (XL x::w):=by
 obtain⟨h0,h1,h2⟩:=T.nl x h;have:=qP (k:=1) (t:=ZA x) (.inl rfl) (fun z qs e hq=>Fi h0 h1 h2 (hn z) hq) (T.nt x h) hE;rw[Vd]at this;exact this
end
section
variable {E E2:Pc}{w w2:List Tk}
theorem jQ{x:ByteArray}(hx:ZA x∈Lex.Vw∨(∃c,ZA x=[c]∧[c]∈Lex.V2∧Lex.kd c=4))(h:Ph E w):Ph ((4,ZA x)::pB::E) (KM x::w):=by
 have TN:Lex.Vs (ZA x):=Lex.Gm fun y hy=>by
  have h1:∀m∈Lex.Vw,∀y∈m,0≤y∧y<128:=by decide
  have h2:∀m∈Lex.V2,∀y∈m,0≤y∧y<128:=by decide
  rcases hx with hx|⟨c,e,hc,_⟩
  ·exact h1 _ hx y hy
  ·rw[e]at hy;exact h2 _ hc y hy
 have:=Eo (k:=4) (t:=ZA x) (.inr (.inr (.inr rfl))) (fun z qs e hq=>Q2x hx hq) TN h;rw[Vd]at this;exact this
theorem cI{c:Int}{x:ByteArray}(hx:ZA x=[c])(h1:[c]∈Lex.V2)(hk:Lex.kd c=4)(hz:∀z d r,Lex.cat E++z=d::r→¬S2 d)(h:Ph E w):Ph ((4,ZA x)::E) (KM x::w):=by
 have TN:Lex.Vs (ZA x):=Lex.Gm fun y hy=>by
  have h2:∀m∈Lex.V2,∀y∈m,0≤y∧y<128:=by decide
  rw[hx]at hy;exact h2 _ h1 y hy
 have:=qP (k:=4) (t:=ZA x) (.inr (.inr (.inr rfl))) (fun z qs e hq=>by rw[hx];exact kQ h1 hk (hz z) hq) TN h;rw[Vd]at this;exact this
theorem Td{a:UInt8}(ha:a∈([40,41,91,93,123,125,44,46]:List UInt8))(E:Pc):∀z,Nx (Lex.cat (pM [a]::E)++z):=fun z=>by
 have:∀a∈([40,41,91,93,123,125,44,46]:List UInt8),Lex.Ka (a.toNat:Int)=false:=by decide
 exact Uw (this a ha)
theorem FC{b:Bool}(h:Ph E w):Ph (if b=true then pM [40]::(E++[pM [41]])else E) (Kl b w):=by
 cases b with
 |false=>exact h
 |true=>exact NI (by decide) (Gu h (Td (by decide) []) (AL (by decide)))
end
structure It(E:Pc)(w:List Tk):Prop where
 fn:∀b,EA b E true=w
 af:Hy E true=true
 ti:∀z qs e,Lex.Zk z qs e→Lex.Zk (Lex.cat E++z) (E++qs) e
 tx:Lex.Vs (Lex.cat E)
theorem Q1r:It [] []:=⟨fun _=>rfl,rfl,fun z qs e h=>h,Lex.zl⟩
section
variable {E E2:Pc}{w w2:List Tk}
theorem lL(h:It E w)(h2:It E2 w2):It (E++E2) (w++w2):=by
 refine⟨fun b=>?_,?_,fun z qs e hq=>?_,?_⟩
 ·rw[Fv,h.fn,h.af,h2.fn]
 ·rw[Yl,h.af,h2.af]
 ·rw[V6,KA,KA];exact h.ti _ _ e (h2.ti z qs e hq)
 ·rw[V6];exact Lex.Vu h.tx h2.tx
theorem Qp6(h:It E w):Ph (pM [123]::pN::(E++[pM [125]])) (ZG [123]::(w++[ZG [125]])):=by
 have hs:=AL (a:=125) (by decide);have hc:Lex.closes 4 (bl [123])=false:=by decide
 refine⟨fun b f=>?_,fun b=>rfl,fun f=>?_,fun z qs e hz hq=>?_,?_⟩
 ·show(⟨4,strOfNums (bl [123]),0,false⟩:Tk)::((if(Lex.closes 4 (bl [123])&&true)=true then[VR]else[])++EA b (E++[pM [125]]) true)=_;rw[hc,Uq,Fv,hs.ov,h.fn,h.af,Sz hs];show ZG [123]::(w++([ZG [125]]++_))=_;simp
 ·show Hy (E++[pM [125]]) true=false;rw[Yl,h.af,hs.af]
 ·show Lex.Zk (123::((10::Lex.cat (E++[pM [125]]))++z)) (pM [123]::pN::((E++[pM [125]])++qs)) e;rw[V6,List.cons_append,KA,KA];exact qT (by omega) (gN (h.ti _ _ e (hs.ti z qs e hz hq)))
 ·show Lex.Vs ([123]++([10]++Lex.cat (E++[pM [125]])));rw[V6];exact Lex.Vu (U5 (u:=[123]) (by decide)) (Lex.Vu (Lex.Gm fun x hx=>by simp at hx;omega) (Lex.Vu h.tx hs.tx))
where
 Sz {E:Pc} {w:List Tk} (h:Ph E w) {b f:Bool}:EA b E f=w++(if b=true then[VR]else[]):=h.fn b f
theorem ae{nm:ByteArray→Bool}{tk:ByteArray→Int→Bool}(T:KU nm tk)(h:Ph E w){y:ByteArray}(hy:y.toList=[]∨tk y 5=true):It (E++((if y.toList=[]then[]else[pB,(5,ZA y)])++[pN])) (w++VR::(if y.toList=[]then[]else[Pq y false])):=by
 by_cases h0:y.toList=[]
 ·rw[if_pos h0,if_pos h0];refine⟨fun b=>?_,?_,fun z qs e hq=>?_,?_⟩
  ·rw[List.nil_append,h.LN];rfl
  ·rw[List.nil_append,Yl,h.af];rfl
  ·rw[List.nil_append,V6,KA,KA];exact h.ti _ _ e (Uw (c:=10) rfl) (gN hq)
  ·rw[List.nil_append,V6];exact Lex.Vu h.tx (jU Lex.zl)
 ·have hk:tk y 5=true:=by
   rcases hy with h1|h1
   ·exact absurd h1 h0
   ·exact h1
  obtain⟨hl,hr⟩:=T.rl y hk;rw[if_neg h0,if_neg h0];refine⟨fun b=>?_,?_,fun z qs e hq=>?_,?_⟩
  ·rw[h.LN];show w++([VR]++((⟨5,strOfNums (ZA y),0,false⟩:Tk)::((if(Lex.closes 5 (ZA y)&&true)=true then[VR]else[])++[])))=_;rw[Vd,Lex.U3 (ZA y) 5 (by omega)];rfl
  ·rw[Yl,h.af];rfl
  ·rw[V6,KA,KA];refine h.ti _ _ e (Uw (c:=32) rfl) ?_;show Lex.Zk (32::((ZA y++[10])++z)) (pB::(5,ZA y)::pN::qs) e;rw[KA];exact Yh (hr z qs e hq)
  ·rw[V6];refine Lex.Vu h.tx ?_;show Lex.Vs (32::(ZA y++[10]));exact jV (Lex.Vu (T.tt y 5 hk) (jU Lex.zl))
theorem ag{nm:ByteArray→Bool}{tk:ByteArray→Int→Bool}(T:KU nm tk){x:ByteArray}(h:tk x 5=true):It [(5,ZA x),pN] [Pq x true]:=by
 obtain⟨hl,hr⟩:=T.rl x h;refine⟨fun b=>?_,rfl,fun z qs e hq=>?_,?_⟩
 ·show(⟨5,strOfNums (ZA x),0,true⟩:Tk)::((if(Lex.closes 5 (ZA x)&&true)=true then[VR]else[])++[])=_;rw[Vd,Lex.U3 (ZA x) 5 (by omega)];rfl
 ·show Lex.Zk ((ZA x++[10])++z) ((5,ZA x)::pN::qs) e;rw[KA];exact hr z qs e hq
 ·show Lex.Vs (ZA x++[10]);exact Lex.Vu (T.tt x 5 h) (jU Lex.zl)
end
def gP(ws:List Pc)(i:Nat):Pc:=ws.getD i []
def Kr(b:Bool)(w:Pc):Pc:=if b=true then pM [40]::(w++[pM [41]])else w
def Cx(k:Int)(x y:ByteArray)(w:Pc):Pc:=if k=8 then[(5,ZA x),pN]else w++((if y.toList=[]then[]else[pB,(5,ZA y)])++[pN])
def K3:F→List Pc→Pc
 | .cons k x y _ r,w::ws=>Cx k x y w++K3 r ws
 |_,_=>[]
def V5:List Pc→Pc
 |[]=>[]
 |w::ws=>w++(match ws with
  |[]=>[]
  |_::_=>pM [44]::pB::V5 ws)
def Fq(c:F)(ws:List Pc):Pc:=pM [123]::pN::(K3 c ws++[pM [125]])
def WE(k:Int)(x:ByteArray)(c:F)(ws:List Pc):Pc :=
 if k=2 then pW [112,97,99,107,97,103,101]::pB::[(1,ZA x)]
 else if k=3 then pW [105,109,112,111,114,116]::pB::[(3,ZA x)]
 else if k=4 then pW [99,111,110,115,116]::pB::(1,ZA x)::pB::pM [61]::pB::gP ws 0
 else if k=5 then pW [118,97,114]::pB::([(1,ZA x)]++((if GX c 0=33 then[]else pB::gP ws 0)++(if GX c 1=33 then[]else pB::pM [61]::pB::gP ws 1)))
 else if k=6 then pW [116,121,112,101]::pB::(1,ZA x)::pB::gP ws 0
 else if k=7 then pW [102,117,110,99]::pB::((if GX c 0=33 then[]else pM [40]::(gP ws 0++[pM [41],pB]))++(1,ZA x)::pM [40]::(gP ws 1++pM [41]::pB::((if GX c 2=33 then[]else gP ws 2++[pB])++gP ws 3)))
 else if k=8 then[(5,ZA x)]
 else if k=9 then[(1,ZA x)]
 else if k=10 then pM [42]::gP ws 0
 else if k=11 then pM [91]::pM [93]::gP ws 0
 else if k=12 then pW [109,97,112]::pM [91]::(gP ws 0++pM [93]::gP ws 1)
 else if k=13 then pW [115,116,114,117,99,116]::pB::Fq c ws
 else if k=14∨k=16 then(1,ZA x)::pB::gP ws 0
 else if k=15 then V5 ws
 else if k=17 then Fq c ws
 else if k=18 then pW [105,102]::pB::(gP ws 0++pB::(gP ws 1++(if GX c 2=33 then[]else pB::pW [101,108,115,101]::pB::gP ws 2)))
 else if k=19 then pW [102,111,114]::pB::((if GX c 0=33 then[]else gP ws 0++[pB])++gP ws 1)
 else if k=20 then pW [114,101,116,117,114,110]::(if ws.isEmpty=true then[]else pB::V5 ws)
 else if k=21 then gP ws 0++pB::(4,ZA x)::pB::gP ws 1
 else if k=22 then gP ws 0++[(4,ZA x)]
 else if k=23 then gP ws 0
 else if k=24 then[pW [98,114,101,97,107]]
 else if k=25 then[pW [99,111,110,116,105,110,117,101]]
 else if k=26 then[(2,ZA x)]
 else if k=27 then[(3,ZA x)]
 else if k=28 then(4,ZA x)::Kr (Qi 28 x 0 (GX c 0) (LI c 0)) (gP ws 0)
 else if k=29 then Kr (Qi 29 x 0 (GX c 0) (LI c 0)) (gP ws 0)++pB::(4,ZA x)::pB::Kr (Qi 29 x 1 (GX c 1) (LI c 1)) (gP ws 1)
 else if k=30 then Kr (Qi 30 x 0 (GX c 0) (LI c 0)) (gP ws 0)++pM [40]::(V5 ws.tail++[pM [41]])
 else if k=31 then Kr (Qi 31 x 0 (GX c 0) (LI c 0)) (gP ws 0)++pM [91]::(gP ws 1++[pM [93]])
 else if k=32 then Kr (Qi 32 x 0 (GX c 0) (LI c 0)) (gP ws 0)++[pM [46],(1,ZA x)]
 else[]
def Ja:F→List Pc
 | .nil=>[]
 | .cons k x _ c r=>WE k x c (Ja c)::Ja r
def pp(k:Int)(x:ByteArray)(c:F):Pc:=WE k x c (Ja c)
def qb:List (List UInt8):=[[124,124],[38,38],[61,61],[33,61],[60],[60,61],[62],[62,61],[43],[45],[124],[94],[42],[47],[37],[60,60],[62,62],[38],[38,94]]
theorem Qqo{x:ByteArray}(h:0<Ql x):x.toList∈qb:=by
 rcases Decidable.em (x.toList∈qb)with hm|hm
 ·exact hm
 ·exfalso;have hf:∀u∈qb,(x.toList==u)=false:=fun u hu=>beq_eq_false_iff_ne.2 fun e=>hm (by rw[e];exact hu)
  have:Ql x=0:=by
   unfold Ql
   rw[hf [124,124] (by decide),hf [38,38] (by decide),hf [61,61] (by decide),hf [33,61] (by decide),hf [60] (by decide),hf [60,61] (by decide),hf [62] (by decide),hf [62,61] (by decide),hf [43] (by decide),hf [45] (by decide),hf [124] (by decide),hf [94] (by decide),
    hf [42] (by decide),hf [47] (by decide),hf [37] (by decide),hf [60,60] (by decide),hf [62,62] (by decide),hf [38] (by decide),hf [38,94] (by decide)]
   rfl
  omega
def gQ(t:List Int):Prop:=t∈Lex.Vw∨(∃c,t=[c]∧[c]∈Lex.V2∧Lex.kd c=4)
theorem lW{l:List (List UInt8)}(hl:∀u∈l,bl u∈Lex.Vw∨((bl u).length=1∧bl u∈Lex.V2∧Lex.kd ((bl u).getD 0 0)=4)){x:ByteArray}(h:x.toList∈l):gQ (ZA x):=by
 have e:ZA x=bl x.toList:=rfl;rw[e];rcases hl _ h with h1|⟨h1,h2,h3⟩
 ·exact .inl h1
 ·match hm:bl x.toList,h1 with
  |[c],_=>rw[hm]at h2 h3;exact .inr ⟨c,rfl,h2,by simpa using h3⟩
theorem Qqc{x:ByteArray}(h:0<Ql x):gQ (ZA x):=lW (l:=qb) (by decide) (Qqo h)
theorem tA{x:ByteArray}(h:QB.Q9 (KM x)=true):∃c,ZA x=[c]∧[c]∈Lex.V2∧Lex.kd c=4:=by
 have h1:=pz h;have h2:∀u∈([[45],[33],[94],[42],[38],[43]]:List (List UInt8)),(bl u).length=1∧bl u∈Lex.V2∧Lex.kd ((bl u).getD 0 0)=4:=by decide
 obtain⟨a,b,c⟩:=h2 _ h1;have e:ZA x=bl x.toList:=rfl;rw[e]
 match hm:bl x.toList,a with
 |[q],_=>rw[hm]at b c;exact⟨q,rfl,b,by simpa using c⟩
theorem aT{x:ByteArray}(h:(x.toList==[61]||x.toList==[58,61]||x.toList==[43,61]||x.toList==[45,61]||x.toList==[42,61]||x.toList==[47,61]||x.toList==[37,61])=true):gQ (ZA x):=by
 refine lW (l:=[[61],[58,61],[43,61],[45,61],[42,61],[47,61],[37,61]]) (by decide) ?_;simp only[Bool.or_eq_true,beq_iff_eq]at h;rcases h with(((((h|h)|h)|h)|h)|h)|h <;> (rw[h];decide)
theorem dt{b:UInt8}(h:Pl b):¬S2 (b.toNat:Int):=by unfold Pl at h;unfold S2;omega
section
variable {nm:ByteArray→Bool}{tk:ByteArray→Int→Bool}
theorem tz{x:ByteArray}{b:UInt8}{r:List UInt8}(e:x.toList=b::r):ZA x=(b.toNat:Int)::r.map fun b=>(b.toNat:Int):=by unfold ZA;rw[e];rfl
theorem Qq3(T:TxtOk nm tk):∀(N:Nat)(k:Int)(x y:ByteArray)(c:F)(d:Nat),c.size≤N→Qg k x=true→Zg nm tk k x y c false d=true→∃a r,Lex.cat (pp k x c)=a::r∧(low k=false→¬S2 a):=by
 intro N
 induction N using Nat.strongRecOn with
 |_ N ih =>
  intro k x y c d hN hk hn;obtain⟨hd,htx,htr,ZE,hks⟩:=Qd hn;have one:∀(j:Int),(∃b r,x.toList=b::r∧Pl b)→pp k x c=[(j,ZA x)]→∃a r,Lex.cat (pp k x c)=a::r∧(low k=false→¬S2 a):=by rintro j ⟨b,r,e,hb⟩ vN;rw[vN];refine⟨_,r.map fun b=>(b.toNat:Int),?_,fun _=>dt hb⟩;show ZA x++[]=_;rw[List.append_nil,tz e]
  have post:∀(pk:Int)(px:ByteArray)(k0:Int)(x0 y0:ByteArray)(c0 r:F)(rest:Pc),(pk=30∨pk=31∨pk=32)→c=.cons k0 x0 y0 c0 r→Qg k0 x0=true→Z4 nm tk pk px false d 0 c=true→
    ∃a r,Lex.cat (Kr (Qi pk px 0 k0 x0) (pp k0 x0 c0)++rest)=a::r∧(low pk=false→¬S2 a):=by
   intro pk px k0 x0 y0 c0 r rest hpk hc hv hkk;subst hc;obtain⟨hn0,_⟩:=Qp hkk;rw[Ga]at hN;obtain⟨a,q,e,h1⟩:=ih c0.size (by omega) k0 x0 y0 c0 _ (Nat.le_refl _) hv hn0;have hp:Qi pk px 0 k0 x0=low k0:=by unfold Qi low;rcases hpk with rfl|rfl|rfl <;> simp
   rw[hp];cases hl:low k0 with
   |true=>exact⟨40,_,rfl,fun _=>by unfold S2;omega⟩
   |false=>refine⟨a,q++Lex.cat rest,?_,fun _=>h1 hl⟩;rw[V6];show Lex.cat (pp k0 x0 c0)++_=_;rw[e];rfl
  rcases Xy hk with rfl|rfl|rfl|rfl|rfl|rfl|rfl|rfl
  ·exact one 1 (gM T htx) rfl
  ·obtain⟨b,r,e,h1,h2⟩:=T.i x htx;exact one 2 ⟨b,r,e,by unfold Pl;omega⟩ rfl
  ·obtain⟨r,e⟩:=T.s x htx;exact one 3 ⟨34,r,e,by unfold Pl;simp⟩ rfl
  ·obtain⟨q,hq,_,_⟩:=tA (x:=x) htx;refine⟨q,Lex.cat (Kr (Qi 28 x 0 (GX c 0) (LI c 0)) (gP (Ja c) 0)),?_,fun h=>by cases h⟩;show ZA x++_=_;rw[hq];rfl
  ·obtain⟨k0,x0,y0,c0,r0,rfl,hp,VZ⟩:=Zi (show Qe (.one [Qg]::.one [Qg]::[]) c=true from ZE);obtain⟨k1,x1,y1,c1,r1,rfl,hp1,hr1⟩:=Zi VZ;obtain⟨hn0,_⟩:=Qp hks;simp only[F.size]at hN;obtain⟨a,q,e,h1⟩:=ih c0.size (by omega) k0 x0 y0 c0 _ (Nat.le_refl _) (Z0 hp) hn0;have vN:pp 29 x (.cons k0 x0 y0 c0 (.cons k1 x1 y1 c1 r1))=Kr (Qi 29 x 0 k0 x0) (pp k0 x0 c0)++pB::(4,ZA x)::pB::Kr (Qi 29 x 1 k1 x1) (pp k1 x1 c1):=rfl;rw[vN,V6];cases hb:Qi 29 x 0 k0 x0 with
   |true=>exact⟨40,_,rfl,fun h=>by cases h⟩
   |false=>refine⟨a,q++Lex.cat (pB::(4,ZA x)::pB::Kr (Qi 29 x 1 k1 x1) (pp k1 x1 c1)),?_,fun h=>by cases h⟩;show Lex.cat (pp k0 x0 c0)++_=_;rw[e];rfl
  ·obtain⟨k0,x0,y0,c0,r0,rfl,hp,VZ⟩:=Zi (show Qe (.one [Qg]::.many Qg::[]) c=true from ZE);exact post 30 x k0 x0 y0 c0 r0 _ (.inl rfl) rfl (Z0 hp) hks
  ·obtain⟨k0,x0,y0,c0,r0,rfl,hp,VZ⟩:=Zi (show Qe (.one [Qg]::.one [Qg]::[]) c=true from ZE);exact post 31 x k0 x0 y0 c0 r0 _ (.inr (.inl rfl)) rfl (Z0 hp) hks
  ·obtain⟨k0,x0,y0,c0,r0,rfl,hp,VZ⟩:=Zi (show Qe (.one [Qg]::[]) c=true from ZE);exact post 32 x k0 x0 y0 c0 r0 _ (.inr (.inr rfl)) rfl (Z0 hp) hks
theorem Qph(T:TxtOk nm tk){k:Int}{x y:ByteArray}{c:F}{d:Nat}(hk:Qt k x=true)(hn:Zg nm tk k x y c false d=true):∃a r,Lex.cat (pp k x c)=a::r∧¬S2 a:=by
 rcases Xz hk with rfl|rfl|rfl|rfl|rfl
 ·obtain⟨b,r,e,hb⟩:=gM T (show nm x=true from(Qd hn).2.1);refine⟨_,r.map fun b=>(b.toNat:Int),?_,dt hb⟩;show ZA x++[]=_;rw[List.append_nil,tz e]
 ·exact⟨42,_,rfl,by unfold S2;omega⟩
 ·exact⟨91,_,rfl,by unfold S2;omega⟩
 ·exact⟨109,_,rfl,by unfold S2;omega⟩
 ·exact⟨115,_,rfl,by unfold S2;omega⟩
def PB(k:Int)(x:ByteArray)(c:F):Prop:=Ph (pp k x c) (sp k x c)
def qf:F→Prop
 | .nil=>True
 | .cons k x _ c r=>PB k x c∧qf r
theorem zz:∀(k:Int)(x y:ByteArray)(c r:F),qf (.cons k x y c r)→Ph (V5 (Ja (.cons k x y c r))) (Zs (Qw (.cons k x y c r)))
 |k,x,y,c,.nil,⟨h,_⟩=>by
  show Ph (pp k x c++[]) (sp k x c++[]);rw[List.append_nil,List.append_nil];exact h
 |k,x,y,c,.cons k2 x2 y2 c2 r2,⟨h,h2⟩=>Gu h (Td (by decide) _) (jP (by decide) (zz k2 x2 y2 c2 r2 h2))
def qd(tk:ByteArray→Int→Bool):F→Prop
 | .nil=>True
 | .cons k x y c r=>((k=8∧tk x 5=true)∨(k≠8∧PB k x c∧(y.toList=[]∨tk y 5=true)))∧qd tk r
theorem xG(T:KU nm tk):∀f:F,qd tk f→It (K3 f (Ja f)) (Qs f (Qw f))
 | .nil,_=>Q1r
 | .cons k x y c r,⟨h,hr⟩=>by
  show It (Cx k x y (pp k x c)++K3 r (Ja r)) (Jh k x y (sp k x c)++Qs r (Qw r));refine lL ?_ (xG T r hr);unfold Cx Jh;rcases h with⟨rfl,h⟩|⟨h8,h,hy⟩
  ·rw[if_pos rfl,if_pos rfl];exact ag T h
  ·rw[if_neg h8,if_neg h8];exact ae T h hy
end
