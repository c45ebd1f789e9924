import Derived.Test.YtaiihnniblibaaaGreatDoorG25
set_option linter.unusedVariables false
open _root_.Nat renaming lt_succ_self→JW
namespace Go.Proofs.YtaiihnniblibaaaGreatDoor
namespace QB
open Tree
def Nz{α:Type}(x:Rd α):Prop:=∀p e,x=.bad p e→e≠0
section
variable {α β:Type}{z d n m:Nat}{l:List Tk}
theorem Nz.ok{a:α}{r:List Tk}:Nz (Rd.ok a r):=by intro p e h;cases h
theorem Nz.b5{p:Nat}:Nz (Rd.bad p 5:Rd α):=by intro q e h;injection h with _ h;omega
theorem Nz.b6{p:Nat}:Nz (Rd.bad p 6:Rd α):=by intro q e h;injection h with _ h;omega
theorem Nz.bind{x:Rd α}{f:α→List Tk→Rd β}(hx:Nz x)(hl:Lt m x)(hf:∀a r,r.length<m→Nz (f a r)):Nz (x.bind f):=by
  intro p e h;cases x with
  |bad q er=>exact hx p e (by cases h;rfl)
  |ok a r1=>exact hf a r1 (hl a r1 rfl) p e h
theorem Nz.ite{c:Prop}[Decidable c]{x y:Rd α}(hx:c→Nz x)(hy:¬c→Nz y):Nz (if c then x else y):=by
  split
  ·exact hx (by assumption)
  ·exact hy (by assumption)
end
def WZ(x:ByteArray):Prop:=x.toList=[]∨x.toList=[59]
structure Sm(t u:Tk):Prop where
  k:t.kind=u.kind
  x:t.kind≠6→t.x=u.x
  f:t.kind=5→t.first=u.first
  e:t.kind=6→WZ t.x∧WZ u.x
inductive Ap(s:List Tk):List Tk→List Tk→Prop
  |nil:Ap s [] s
  |cons {t u:Tk} {l l':List Tk}:Sm t u→Ap s l l'→Ap s (t::l) (u::l')
def DX:List (List UInt8):=[[45],[33],[94],[42],[38],[43],[91],[109,97,112],[115,116,114,117,99,116],[40],[125],[123],[41],[44],[93],[46],[61],[101,108,115,101],[105,102],
  [58,61],[43,61],[45,61],[42,61],[47,61],[37,61],[43,43],[45,45]]
structure Lk(t u:Tk):Prop where
  q:∀w∈DX,QQ t w=QQ u w
  n:Je t=Je u
  l:Ql t.x=Ql u.x
  k2:t.kind=2↔u.kind=2
  k3:t.kind=3↔u.kind=3
  k6:t.kind=6↔u.kind=6
  k5:(t.kind=5∧t.first=false)↔(u.kind=5∧u.first=false)
def NL(s:List Tk):Prop:=∀z z',Lk (QB.hd z []) (QB.hd z' s)
theorem Xn:e0.toList=[]:=by unfold e0;rw[ByteArray.toList_eq]
theorem Zz{t:Tk}{w:List UInt8}(h:WZ t.x)(h0:w≠[])(h1:w≠[59]):QQ t w=false:=by
  unfold QQ;rcases h with e|e
  ·rw[e];exact beq_eq_false_iff_ne.2 fun q=>h0 q.symm
  ·rw[e];exact beq_eq_false_iff_ne.2 fun q=>h1 q.symm
theorem Km{x:ByteArray}(h:WZ x):Ql x=0:=by
  unfold Ql;rcases h with e|e <;> rw[e] <;> decide
theorem Sm.is{t u:Tk}(h:Sm t u){w:List UInt8}(h0:w≠[])(h1:w≠[59]):QQ t w=QQ u w:=by
  by_cases h6:t.kind=6
  ·obtain⟨a,b⟩:=h.e h6;rw[Zz a h0 h1,Zz b h0 h1]
  ·unfold QQ;rw[h.x h6]
theorem Sm.nm{t u:Tk}(h:Sm t u):Je t=Je u:=by
  by_cases h6:t.kind=6
  ·unfold Je;rw[←h.k,h6];rfl
  ·unfold Je;rw[←h.k,h.x h6]
theorem Sm.lv{t u:Tk}(h:Sm t u):Ql t.x=Ql u.x:=by
  by_cases h6:t.kind=6
  ·obtain⟨a,b⟩:=h.e h6;rw[Km a,Km b]
  ·rw[h.x h6]
theorem AG:∀w∈DX,w≠[]∧w≠[59]:=by decide
theorem Sm.lk{t u:Tk}(h:Sm t u):Lk t u where
  q:=fun w hw=>h.is (AG w hw).1 (AG w hw).2
  n:=h.nm
  l:=h.lv
  k2:=by rw[h.k]
  k3:=by rw[h.k]
  k6:=by rw[h.k]
  k5:=by
    constructor
    ·rintro⟨a,b⟩;exact⟨by rw[←h.k];exact a,by rw[←h.f a];exact b⟩
    ·rintro⟨a,b⟩;exact⟨by rw[h.k];exact a,by rw[h.f (by rw[h.k];exact a)];exact b⟩
theorem Sm.WH{t u:Tk}(h:Sm t u):Q9 t=Q9 u:=by
  unfold Q9;rw[h.is (by decide) (by decide),h.is (w:=[33]) (by decide) (by decide),h.is (w:=[94]) (by decide) (by decide),h.is (w:=[42]) (by decide) (by decide),h.is (w:=[38]) (by decide) (by decide),h.is (w:=[43]) (by decide) (by decide)]
theorem Lk.WH{t u:Tk}(h:Lk t u):Q9 t=Q9 u:=by
  unfold Q9;rw[h.q [45] (by decide),h.q [33] (by decide),h.q [94] (by decide),h.q [42] (by decide),h.q [38] (by decide),h.q [43] (by decide)]
theorem Lk.V'{t u:Tk}(h:Lk t u):QB.V' t=QB.V' u:=by
  unfold QB.V';rw[h.q [42] (by decide),h.q [91] (by decide),h.q [109,97,112] (by decide),h.q [115,116,114,117,99,116] (by decide),h.n]
theorem kH{a b k:Int}(h:a=k↔b=k):(a==k)=(b==k):=by
  by_cases e:a=k
  ·rw[beq_iff_eq.2 e,beq_iff_eq.2 (h.1 e)]
  ·rw[beq_eq_false_iff_ne.2 e,beq_eq_false_iff_ne.2 fun q=>e (h.2 q)]
theorem Lk.JM{t u:Tk}(h:Lk t u):QB.JM t=QB.JM u:=by
  unfold QB.JM;rw[h.q [40] (by decide),h.n,h.WH,kH h.k2,kH h.k3]
theorem Lk.oo{t u:Tk}(h:Lk t u):Xg t=Xg u:=by
  unfold Xg;rw[h.q [61] (by decide),h.q [43,61] (by decide),h.q [45,61] (by decide),h.q [42,61] (by decide),h.q [47,61] (by decide),h.q [37,61] (by decide)]
theorem Lk.inc{t u:Tk}(h:Lk t u):Yf t=Yf u:=by
  unfold Yf;rw[h.q [43,43] (by decide),h.q [45,45] (by decide)]
theorem Sm.zW{t u:Tk}(h:Sm t u){w:List UInt8}(h0:w≠[])(h1:w≠[59])(hw:QQ t w=true):t.x=u.x :=
  h.x fun e=>by rw[Zz (h.e e).1 h0 h1]at hw;cases hw
theorem Sm.Ie{t u:Tk}(h:Sm t u)(hw:Je t=true):t.x=u.x :=
  h.x fun e=>by unfold Je at hw;rw[e]at hw;cases hw
theorem Sm.Ih{t u:Tk}(h:Sm t u)(hw:Xg t=true):t.x=u.x:=h.x fun e=>by
  have:=(h.e e).1;unfold Xg at hw;rw[Zz this (by decide) (by decide),Zz this (w:=[43,61]) (by decide) (by decide),Zz this (w:=[45,61]) (by decide) (by decide),Zz this (w:=[42,61]) (by decide) (by decide),Zz this (w:=[47,61]) (by decide) (by decide),Zz this (w:=[37,61]) (by decide) (by decide)]at hw;cases hw
theorem Sm.Ig{t u:Tk}(h:Sm t u)(hw:Yf t=true):t.x=u.x:=h.x fun e=>by
  have:=(h.e e).1;unfold Yf at hw;rw[Zz this (by decide) (by decide),Zz this (w:=[45,45]) (by decide) (by decide)]at hw;cases hw
theorem Sm.zX{t u:Tk}(h:Sm t u)(hw:0<Ql t.x):t.x=u.x:=h.x fun e=>by
  rw[Km (h.e e).1]at hw;cases hw
theorem Sm.CW{t u:Tk}(h:Sm t u)(hw:QB.V' t=true):t.x=u.x:=h.x fun e=>by
  have:=(h.e e).1;unfold QB.V' Je at hw;rw[e,Zz this (by decide) (by decide),Zz this (w:=[91]) (by decide) (by decide),Zz this (w:=[109,97,112]) (by decide) (by decide),Zz this (w:=[115,116,114,117,99,116]) (by decide) (by decide)]at hw;cases hw
theorem Sm.Th{t u:Tk}(h:Sm t u)(hw:QB.JM t=true):t.x=u.x:=h.x fun e=>by
  have:=(h.e e).1;unfold QB.JM Je Q9 at hw;rw[e,Zz this (w:=[40]) (by decide) (by decide),Zz this (w:=[45]) (by decide) (by decide),Zz this (w:=[33]) (by decide) (by decide),Zz this (w:=[94]) (by decide) (by decide),Zz this (w:=[42]) (by decide) (by decide),Zz this (w:=[38]) (by decide) (by decide),Zz this (w:=[43]) (by decide) (by decide)]at hw;cases hw
def Rl(s:List Tk){α:Type}(R R':Rd α):Prop:=∀a r,R=.ok a r→∃r',R'=.ok a r'∧Ap s r r'
section
variable {s:List Tk}{α β:Type}{z z' d:Nat}{l l':List Tk}
theorem Rl.bind{R R':Rd α}{f f':α→List Tk→Rd β}(h:Rl s R R')(hf:∀a r r',Ap s r r'→Rl s (f a r) (f' a r')):Rl s (R.bind f) (R'.bind f'):=by
  intro b r e;cases R with
  |bad p er=>cases e
  |ok a r1=>obtain⟨r2,h1,h2⟩:=h a r1 rfl;rw[h1];exact hf a r1 r2 h2 b r e
theorem Rl.ok{a:α}(h:Ap s l l'):Rl s (.ok a l) (.ok a l'):=by
  intro b r e;simp only[Rd.ok.injEq]at e;obtain⟨rfl,rfl⟩:=e;exact⟨_,rfl,h⟩
theorem Rl.bad{p:Nat}{e:Int}{R':Rd α}:Rl s (.bad p e) R':=by intro b r h;cases h
theorem Rl.ite{c c':Prop}[Decidable c][Decidable c']{x y x' y':Rd α}(hc:c↔c')(hx:c→Rl s x x')(hy:¬c→Rl s y y'):Rl s (if c then x else y) (if c' then x' else y'):=by
  by_cases h:c
  ·rw[if_pos h,if_pos (hc.1 h)];exact hx h
  ·rw[if_neg h,if_neg fun q=>h (hc.2 q)];exact hy h
theorem Ap.len(h:Ap s l l'):l.length≤l'.length:=by
  induction h with
  |nil=>exact Nat.zero_le _
  |cons _ _ ih=>simp only[List.length_cons];omega
theorem Ap.hd(hq:NL s)(h:Ap s l l')(z z':Nat):Lk (QB.hd z l) (QB.hd z' l'):=by
  cases h with
  |nil=>exact hq z z'
  |cons h _=>exact h.lk
theorem Ap.sm(h:Ap s l l')(hl:l≠[])(z z':Nat):Sm (QB.hd z l) (QB.hd z' l'):=by
  cases h with
  |nil=>exact absurd rfl hl
  |cons h _=>exact h
theorem Ap.tail(h:Ap s l l')(hl:l≠[]):Ap s l.tail l'.tail:=by
  cases h with
  |nil=>exact absurd rfl hl
  |cons _ h=>exact h
theorem Rl.dec{R R':Rd α}(h:Lt l.length R)(k:l≠[]→Rl s R R'):Rl s R R':=fun a r e=>k (fun q=>by
  have:=h a r e;subst q;exact absurd this (Nat.not_lt_zero _)) a r e
theorem EH{a b:Bool}(h:a=b):a=true↔b=true:=by rw[h]
theorem Q1z(e:Xg (QB.hd z l)=true):l≠[]:=fun q=>by subst q;simp[Xg,QB.hd,QQ,e0]at e
theorem Q1u(e:Yf (QB.hd z l)=true):l≠[]:=fun q=>by subst q;simp[Yf,QB.hd,QQ,e0]at e
theorem zi{f:Bool}{g g':Unit→List Tk→Rd β}(h:Ap s l l')(hg:Rl s (g () l) (g' () l')):Rl s ((X5 z f l).bind g) ((X5 z' f l').bind g'):=by
  unfold X5;split
  ·exact hg
  ·exact Rl.bad
theorem Gq{f f':Bool}{g g':Tk→List Tk→Rd β}(e:f=f')(hl:f=true→l≠[])(h:Ap s l l')(hg:∀t t' r r',f=true→QB.hd z l=t→Sm t t'→Ap s r r'→Rl s (g t r) (g' t' r')) :
    Rl s ((J' z f d l).bind g) ((J' z' f' d l').bind g'):=by
  subst e;unfold J';by_cases hf:f=true
  ·rw[if_pos hf,if_pos hf];by_cases hd:256<d
   ·rw[if_pos hd];exact Rl.bad
   ·rw[if_neg hd,if_neg hd];exact hg _ _ _ _ hf rfl (h.sm (hl hf) z z') (h.tail (hl hf))
  ·rw[if_neg hf];exact Rl.bad
theorem sQ{k:Int}(hl:l≠[])(h:Ap s l l'):Rl s (G2 z k d l) (G2 z' k d l'):=Gq rfl (fun _=>hl) h fun _ _ r r' _ _ _ hp=>Rl.ok hp
end
section
variable {s:List Tk}{α β:Type}{z z' d:Nat}{l l':List Tk}(hq:NL s)
include hq
theorem Ap.t(h:Ap s l l'){w:List UInt8}(hw:w∈DX):QQ (QB.hd z l) w=true↔QQ (QB.hd z' l') w=true:=EH ((h.hd hq z z').q w hw)
theorem Ky{u:List UInt8}(hu:u∈DX)(h:Ap s l l'):Rl s (QB.want z u l) (QB.want z' u l') :=
  Rl.ite (h.t hq hu) (fun e=>Rl.ok (h.tail (Zh (AG u hu).1 e))) fun _=>Rl.bad
theorem FD(h:Ap s l l'):Rl s (name z l) (name z' l') :=
  Rl.ite (EH (h.hd hq z z').n) (fun e=>by
    have hl:=jO e;rw[(h.sm hl z z').Ie e];exact Rl.ok (h.tail hl)) fun _=>Rl.bad
theorem wH(h:Ap s l l'):Rl s (QB.over z l) (QB.over z' l'):=by
  refine Rl.ite (h.t hq (by decide)) (fun e=>Rl.ok h) fun _=>Rl.ite (h.hd hq z z').k6 (fun e=>?_) fun _=>Rl.bad
  have hl:l≠[]:=fun q=>by subst q;cases e
  have h1:=h.tail hl;refine Rl.ite (h1.hd hq z z').k5 (fun e=>?_) fun _=>Rl.ok h1
  have ES:l.tail≠[]:=fun q=>by rw[q]at e;cases e.1
  rw[(h1.sm ES z z').x (by rw[e.1];decide)];exact Rl.ok (h1.tail ES)
def FR(s:List Tk)(rd Sh:Nat→List Tk→Rd Nd):Prop:=∀d l l',Ap s l l'→Rl s (rd d l) (Sh d l')
theorem kL{rd Sh:Nat→List Tk→Rd Nd}(hr:FR s rd Sh)(hd:JE rd):FR s (item z rd) (item z' Sh):=fun d l l' h=>Rl.dec (qL hd d l) fun hl=>by
  have hs:=h.sm hl z z';refine Rl.ite (by rw[hs.k]) (fun e=>Gq rfl (fun _=>hl) h fun t t' r r' _ e2 ht hp=>?_) fun _=>(hr d l l' h).bind fun n r r' hp=>(wH hq hp).bind fun y r r' hp=>Rl.ok hp
  rw[ht.x (by rw[←e2,e];decide)];exact Rl.ok hp
theorem sO{it it':List Tk→Rd Nd}(hi:∀l l',Ap s l l'→Rl s (it l) (it' l')):∀(f f':Nat)(l l':List Tk),f≤f'→Ap s l l'→Rl s (items z it f l) (items z' it' f' l')
  |0,_,_,_,_,_=>Rl.bad
  |f+1,0,_,_,h,_=>by omega
  |f+1,f'+1,l,l',hf,h=>Rl.ite (h.t hq (by decide)) (fun _=>Rl.ok h) fun _=>(hi l l' h).bind fun n r r' hp=>(sO hi f f' r r' (by omega) hp).bind fun c r r' hp=>Rl.ok hp
theorem nL{rd Sh:Nat→List Tk→Rd Nd}(hr:FR s rd Sh)(hd:JE rd)(h:Ap s l l'):Rl s (Jy z rd d l) (Jy z' Sh d l') :=
  Gq ((h.hd hq z z').q [123] (by decide)) (Zh (by decide)) h fun t t' r r' _ _ _ hp=>(sO hq (fun l l' h=>kL hq hr hd _ l l' h) _ _ r r' (by have:=hp.len;omega) hp).bind fun c r r' hp=>(Ky hq (by decide) hp).bind fun _ r r' hp=>Rl.ok hp
theorem Qt0(h:Ap s l l'):Rl s (Uf z l) (Uf z' l'):=Rl.ite (h.t hq (by decide)) (fun _=>Rl.ok h) fun _=>Ky hq (by decide) h
theorem pO{rd Sh:List Tk→Rd Nd}(hi:∀l l',Ap s l l'→Rl s (rd l) (Sh l')):∀(f f':Nat)(l l':List Tk),f≤f'→Ap s l l'→Rl s (args z rd f l) (args z' Sh f' l')
  |0,_,_,_,_,_=>Rl.bad
  |f+1,0,_,_,h,_=>by omega
  |f+1,f'+1,l,l',hf,h=>Rl.ite (h.t hq (by decide)) (fun _=>Rl.ok h) fun _=>(hi l l' h).bind fun n r r' hp=>(Qt0 hq hp).bind fun _ r r' hp=>(pO hi f f' r r' (by omega) hp).bind fun c r r' hp=>Rl.ok hp
theorem pP{rd Sh:Nat→List Tk→Rd Nd}(hr:FR s rd Sh)(h:Ap s l l'):Rl s (list z rd d l) (list z' Sh d l') :=
  (Ky hq (by decide) h).bind fun _ r r' hp=>(pO hq (fun l l' h=>hr _ l l' h) _ _ r r' (by have:=hp.len;omega) hp).bind fun c r r' hp=>(Ky hq (by decide) hp).bind fun _ r r' hp=>Rl.ok hp
theorem xC{k:Int}{ty Ii:Nat→List Tk→Rd Nd}(hr:FR s ty Ii):FR s (Vq z k ty) (Vq z' k Ii):=fun d l l' h =>
  Gq (h.hd hq z z').n jO h fun t t' r r' e e2 ht hp=>(hr d r r' hp).bind fun n r r' hp=>by
    rw[ht.Ie (by rw[←e2];exact e)];exact Rl.ok hp
theorem Qmu{ty Ii:Nat→List Tk→Rd Nd}(hr:FR s ty Ii)(hd:JE ty){t t':Tk}(ht:Sm t t')(hb:QB.V' t=true)(h:Ap s l l'):Rl s (Kf z ty d t l) (Kf z' Ii d t' l'):=by
  refine Rl.ite (EH (ht.is (by decide) (by decide))) (fun _=>(hr _ _ _ h).bind fun n r r' hp=>Rl.ok hp) fun _=>?_
  refine Rl.ite (EH (ht.is (by decide) (by decide))) (fun _=>(Ky hq (by decide) h).bind fun _ r r' hp=>(hr _ _ _ hp).bind fun n r r' hp=>Rl.ok hp) fun _=>?_
  refine Rl.ite (EH (ht.is (by decide) (by decide))) (fun _=>(Ky hq (by decide) h).bind fun _ r r' hp=>(hr _ _ _ hp).bind fun k r r' hp=>(Ky hq (by decide) hp).bind fun _ r r' hp=>(hr _ _ _ hp).bind fun n r r' hp=>Rl.ok hp) fun _=>?_
  refine Rl.ite (EH (ht.is (by decide) (by decide))) (fun _=>(nL hq (xC hq hr) (Xb hd) h).bind fun c r r' hp=>Rl.ok hp) fun _=>?_
  rw[ht.CW hb];exact Rl.ok h
theorem pQ:∀(f f' d:Nat)(l l':List Tk),f≤f'→Ap s l l'→Rl s (NK z f d l) (NK z' f' d l')
  |0,_,_,_,_,_,_=>Rl.bad
  |f+1,0,_,_,_,h,_=>by omega
  |f+1,f'+1,d,l,l',hf,h=>Gq (h.hd hq z z').V' qE h fun t t' r r' e e2 ht hp =>
   Qmu hq (fun d l l' h=>pQ f f' d l l' (by omega) h) (zm z f) ht (by rw[←e2];exact e) hp
theorem AF:FR s (GG z) (GG z'):=fun d l l' h=>pQ hq _ _ d l l' (by have:=h.len;omega) h
def FE(s:List Tk)(ex SA:Nat→Nat→List Tk→Rd Nd):Prop:=∀k,0<k→FR s (ex k) (SA k)
theorem Qtz{ex SA:Nat→Nat→List Tk→Rd Nd}(hr:FE s ex SA){t t':Tk}(ht:Sm t t')(hb:QB.JM t=true)(h:Ap s l l'):Rl s (first z ex d t l) (first z' SA d t' l'):=by
  have hx:=ht.Th hb;unfold first
  rw[←hx]
  exact Rl.ite (by rw[ht.k]) (fun _=>Rl.ok h) fun _=>Rl.ite (by rw[ht.k]) (fun _=>Rl.ok h) fun _ =>
    Rl.ite (EH (ht.is (by decide) (by decide))) (fun _=>(hr _ (by decide) _ _ _ h).bind fun n r r' hp=>(Ky hq (by decide) hp).bind fun _ r r' hp=>Rl.ok hp) fun _=>Rl.ok h
theorem zA{ex SA:Nat→Nat→List Tk→Rd Nd}(hr:FE s ex SA):∀(f f':Nat)(n:Nd)(l l':List Tk),f≤f'→Ap s l l'→Rl s (behind z ex d f n l) (behind z' SA d f' n l')
  |0,_,_,_,_,_,_=>Rl.bad
  |f+1,0,_,_,_,h,_=>by omega
  |f+1,f'+1,n,l,l',hf,h=>by
   unfold behind;refine Rl.ite (h.t hq (by decide)) (fun _=>(pP hq (hr 1 (by decide)) h).bind fun c r r' hp=>zA hr f f' _ r r' (by omega) hp) fun _=>?_
   refine Rl.ite (h.t hq (by decide)) (fun e=>(hr _ (by decide) _ _ _ (h.tail (Zh (by decide) e))).bind fun m r r' hp=>(Ky hq (by decide) hp).bind fun _ r r' hp=>zA hr f f' _ r r' (by omega) hp) fun _=>?_
   exact Rl.ite (h.t hq (by decide)) (fun e=>(FD hq (h.tail (Zh (by decide) e))).bind fun x r r' hp=>zA hr f f' _ r r' (by omega) hp) fun _=>Rl.ok h
theorem pn{ex SA:Nat→Nat→List Tk→Rd Nd}(hr:FE s ex SA):∀(f f' d:Nat)(l l':List Tk),f≤f'→Ap s l l'→Rl s (Ru z ex f d l) (Ru z' SA f' d l')
  |0,_,_,_,_,_,_=>Rl.bad
  |f+1,0,_,_,_,h,_=>by omega
  |f+1,f'+1,d,l,l',hf,h=>Gq (h.hd hq z z').JM qF h fun t t' r r' e e2 ht hp=>by
   have hb:QB.JM t=true:=by rw[←e2];exact e
   refine Rl.ite (EH ht.WH) (fun _=>?_) fun _=>(Qtz hq hr ht hb hp).bind fun n r r' hp=>zA hq hr _ _ n r r' (by have:=hp.len;omega) hp
   rw[(hp.hd hq z z').WH,ht.Th hb];exact(pn hr f f' _ r r' (by omega) hp).bind fun n r r' hp=>Rl.ok hp
theorem sS{ex SA:Nat→Nat→List Tk→Rd Nd}(hr:FE s ex SA){least:Nat}(hle:0<least):∀(f f':Nat)(n:Nd)(l l':List Tk),f≤f'→Ap s l l'→Rl s (Xw z ex least d f n l) (Xw z' SA least d f' n l')
  |0,_,_,_,_,_,_=>Rl.bad
  |f+1,0,_,_,_,h,_=>by omega
  |f+1,f'+1,n,l,l',hf,h=>by
   unfold Xw;refine Rl.ite (by rw[(h.hd hq z z').l]) (fun e=>?_) fun _=>Rl.ok h
   have hl:l≠[]:=fun q=>by
     subst q;have:Ql (QB.hd z []).x=0:=Km (.inl Xn);omega
   have hx:(QB.hd z l).x=(QB.hd z' l').x:=(h.sm hl z z').zX (by omega);rw[hx];exact(hr _ (Nat.succ_pos _) _ _ _ (h.tail hl)).bind fun m r r' hp=>sS hr hle f f' _ r r' (by omega) hp
theorem xB:∀(f f':Nat),f≤f'→FE s (J6 z f) (J6 z' f')
  |0,_,_=>fun _ _ _ _ _ _=>Rl.bad
  |f+1,0,h=>by omega
  |f+1,f'+1,hf=>fun least hle d l l' h =>
   (pn hq (xB f f' (by omega)) _ _ d l l' (by have:=h.len;omega) h).bind fun n r r' hp=>sS hq (xB f f' (by omega)) hle _ _ n r r' (by have:=hp.len;omega) hp
theorem Us:FR s (XH z) (XH z'):=fun d l l' h=>xB hq _ _ (by have:=h.len;omega) 1 (by decide) d l l' h
theorem pR:FR s (Rf z) (Rf z'):=fun d l l' h=>Rl.dec (fun n r e=>xI z d l n r e) fun hl =>
  Gq ((h.sm hl z z').is (by decide) (by decide)) (fun _=>hl) h fun _ _ r r' _ _ _ hp=>(FD hq hp).bind fun x r r' hp =>
  (Rl.ite (hp.t hq (by decide)) (fun _=>Rl.ok hp) fun _=>AF hq _ _ _ hp).bind fun t r r' hp =>
  (Rl.ite (hp.t hq (by decide)) (fun e=>Us hq _ _ _ (hp.tail (Zh (by decide) e))) fun _=>Rl.ok hp).bind fun v r r' hp=>Rl.ok hp
theorem Y3{st st':Nat→List Tk→Rd Nd}(hr:FR s st st')(hd:JE st):FR s (Zu z st) (Zu z' st'):=fun d l l' h=>(nL hq hr hd h).bind fun c r r' hp=>Rl.ok hp
theorem mI{st st':Nat→List Tk→Rd Nd}(hr:FR s st st')(hd:JE st):∀(f f' d:Nat)(l l':List Tk),f≤f'→Ap s l l'→Rl s (Ki z st f d l) (Ki z' st' f' d l')
  |0,_,_,_,_,_,_=>Rl.bad
  |f+1,0,_,_,_,h,_=>by omega
  |f+1,f'+1,d,l,l',hf,h=>Rl.dec (fun n r e=>E3 hd (f+1) d l n r e) fun hl =>
   Gq ((h.sm hl z z').is (by decide) (by decide)) (fun _=>hl) h fun _ _ r r' _ _ _ hp=>(Us hq _ _ _ hp).bind fun c r r' hp=>(Y3 hq hr hd _ _ _ hp).bind fun b r r' hp =>
   (Rl.ite (hp.t hq (by decide)) (fun e=>by
     have hp1:=hp.tail (Zh (by decide) e);exact Rl.ite (hp1.t hq (by decide)) (fun _=>mI hr hd f f' _ _ _ (by omega) hp1) fun _=>Y3 hq hr hd _ _ _ hp1) fun _=>Rl.ok hp).bind fun o r r' hp=>Rl.ok hp
theorem wG{st st':Nat→List Tk→Rd Nd}(hr:FR s st st')(hd:JE st):FR s (Tb z st) (Tb z' st'):=fun d l l' h=>Rl.dec (fun n r e=>rR hd d l n r e) fun hl =>
  Gq ((h.sm hl z z').is (by decide) (by decide)) (fun _=>hl) h fun _ _ r r' _ _ _ hp=>(Rl.ite (hp.t hq (by decide)) (fun _=>Rl.ok hp) fun _=>Us hq _ _ _ hp).bind fun c r r' hp =>
  (Y3 hq hr hd _ _ _ hp).bind fun b r r' hp=>Rl.ok hp
theorem nM:∀(f f':Nat)(l l':List Tk),f≤f'→Ap s l l'→Rl s (X8 z d f l) (X8 z' d f' l')
  |0,_,_,_,_,_=>Rl.bad
  |f+1,0,_,_,h,_=>by omega
  |f+1,f'+1,l,l',hf,h=>Rl.ite (h.t hq (by decide)) (fun e=>(Us hq _ _ _ (h.tail (Zh (by decide) e))).bind fun n r r' hp=>(nM f f' r r' (by omega) hp).bind fun c r r' hp=>Rl.ok hp) fun _=>Rl.ok h
theorem wI:FR s (RL z) (RL z'):=fun d l l' h=>Rl.dec (fun n r e=>sK z d l n r e) fun hl =>
  Gq ((h.sm hl z z').is (by decide) (by decide)) (fun _=>hl) h fun _ _ r r' _ _ _ hp =>
  Rl.ite (or_congr (hp.hd hq z z').k6 (hp.t hq (by decide))) (fun _=>Rl.ok hp) fun _=>(Us hq _ _ _ hp).bind fun n r r' hp=>(nM hq _ _ r r' (by have:=hp.len;omega) hp).bind fun c r r' hp=>Rl.ok hp
theorem Qmv:FR s (Zl z) (Zl z'):=fun d l l' h=>(Us hq _ _ _ h).bind fun n r r' hp=>by
  refine Rl.ite (hp.t hq (by decide)) (fun e=>zi hp ?_) fun _=>Rl.ite (EH (hp.hd hq z z').oo) (fun e=>zi hp ?_) fun _=>Rl.ite (EH (hp.hd hq z z').inc) (fun e=>zi hp ?_) fun _=>zi hp (Rl.ok hp)
  ·have hl:=Zh (by decide) e;rw[(hp.sm hl z z').zW (by decide) (by decide) e];exact(Us hq _ _ _ (hp.tail hl)).bind fun m r r' hp=>Rl.ok hp
  ·have hl:=Q1z e;rw[(hp.sm hl z z').Ih e];exact(Us hq _ _ _ (hp.tail hl)).bind fun m r r' hp=>Rl.ok hp
  ·have hl:=Q1u e;rw[(hp.sm hl z z').Ig e];exact Rl.ok (hp.tail hl)
theorem Qpv{st st':Nat→List Tk→Rd Nd}(hr:FR s st st')(hd:JE st):FR s (J3 z st) (J3 z' st'):=fun d l l' h=>Rl.dec (fun n r e=>mN hd d l n r e) fun hl=>by
  have hs:=h.sm hl z z';refine Rl.ite (EH (hs.is (by decide) (by decide))) (fun _=>pR hq _ _ _ h) fun _=>Rl.ite (EH (hs.is (by decide) (by decide))) (fun _=>Y3 hq hr hd _ _ _ h) fun _=>?_
  refine Rl.ite (EH (hs.is (by decide) (by decide))) (fun _=>mI hq hr hd _ _ _ _ _ (by have:=h.len;omega) h) fun _=>Rl.ite (EH (hs.is (by decide) (by decide))) (fun _=>wG hq hr hd _ _ _ h) fun _=>?_
  refine Rl.ite (EH (hs.is (by decide) (by decide))) (fun _=>wI hq _ _ _ h) fun _=>Rl.ite (EH (hs.is (by decide) (by decide))) (fun _=>sQ hl h) fun _=>?_
  exact Rl.ite (EH (hs.is (by decide) (by decide))) (fun _=>sQ hl h) fun _=>Qmv hq _ _ _ h
theorem pj:∀(f f':Nat),f≤f'→FR s (SL z f) (SL z' f')
  |0,_,_=>fun _ _ _ _=>Rl.bad
  |f+1,0,h=>by omega
  |f+1,f'+1,hf=>Qpv hq (pj f f' (by omega)) (qR z f)
theorem wJ:FR s (Ek z) (Ek z'):=fun d l l' h=>pj hq _ _ (by have:=h.len;omega) d l l' h
theorem Qty:FR s (Ke z) (Ke z'):=fun d l l' h=>Rl.dec (fun n r e=>nX z d l n r e) fun hl=>by
  refine Gq ((h.sm hl z z').is (by decide) (by decide)) (fun _=>hl) h fun _ _ r r' _ _ _ hp=>?_
  refine Rl.bind ?_ fun rc r r' hp=>(FD hq hp).bind fun x r r' hp=>(pP hq (xC hq (AF hq)) hp).bind fun ps r r' hp=>?_
  ·exact Rl.ite (hp.t hq (by decide)) (fun e=>(xC hq (AF hq) _ _ _ (hp.tail (Zh (by decide) e))).bind fun n r r' hp=>(Ky hq (by decide) hp).bind fun _ r r' hp=>Rl.ok hp) fun _=>Rl.ok hp
  refine Rl.bind ?_ fun t r r' hp=>(Y3 hq (wJ hq) (Ej z) _ _ _ hp).bind fun b r r' hp=>Rl.ok hp
  exact Rl.ite (hp.t hq (by decide)) (fun _=>Rl.ok hp) fun _=>AF hq _ _ _ hp
theorem sL:FR s (Jn z) (Jn z'):=fun d l l' h=>Rl.dec (fun n r e=>Ue z d l n r e) fun hl=>by
  have hs:=h.sm hl z z';have ht:=h.tail hl;refine Rl.ite (EH (hs.is (by decide) (by decide))) (fun _=>(FD hq ht).bind fun x r r' hp=>Rl.ok hp) fun _=>?_
  refine Rl.ite (EH (hs.is (by decide) (by decide))) (fun _=>?_) fun _=>?_
  ·unfold X5;by_cases h3:((QB.hd z l.tail).kind==3)=true
   ·have h3':((QB.hd z' l'.tail).kind==3)=true:=by rw[←kH (ht.hd hq z z').k3];exact h3
    have hn:l.tail≠[]:=fun q=>by rw[q]at h3;cases h3
    rw[if_pos h3,if_pos h3'];show Rl s (Rd.ok _ _) (Rd.ok _ _);rw[(ht.sm hn z z').x (by have:=beq_iff_eq.1 h3;omega)];exact Rl.ok (ht.tail hn)
   ·rw[if_neg h3];exact Rl.bad
  refine Rl.ite (EH (hs.is (by decide) (by decide))) (fun _=>(FD hq ht).bind fun x r r' hp=>(Ky hq (by decide) hp).bind fun _ r r' hp=>(Us hq _ _ _ hp).bind fun n r r' hp=>Rl.ok hp) fun _=>?_
  refine Rl.ite (EH (hs.is (by decide) (by decide))) (fun _=>(FD hq ht).bind fun x r r' hp=>(AF hq _ _ _ hp).bind fun n r r' hp=>Rl.ok hp) fun _=>?_
  exact Rl.ite (EH (hs.is (by decide) (by decide))) (fun _=>pR hq _ _ _ h) fun _=>Qty hq _ _ _ h
end
theorem gq:∀a b c:F,Vi (Vi a b) c=Vi a (Vi b c)
  | .nil,_,_=>rfl
  | .cons k x y d r,b,c=>by simp only[Vi,gq r b c]
theorem sy(n:Nd)(a b:F):Vi (Qo n a) b=Qo n (Vi a b):=rfl
theorem UO{α:Type}(R:Rd α):(R.bind fun a r=>.ok a r)=R:=by cases R <;> rfl
def DW(ws:List (List UInt8)):Prop:=∀u∈ws,u≠[]∧u≠[59]
def Re(z:Nat)(ws:List (List UInt8))(l:List Tk):Prop:=(QB.hd z l).kind=5∨(ws.any fun u=>QQ (QB.hd z l) u)=true
instance (z:Nat)(ws:List (List UInt8))(l:List Tk):Decidable (Re z ws l):=by unfold Re;exact inferInstance
theorem gh(z:Nat)(ws:List (List UInt8))(f:Nat)(l:List Tk):rows z ws (f+1) l=if Re z ws l then(item z (Jn z) 0 l).bind fun n l=>(rows z ws f l).bind fun c l=>.ok (Qo n c) l else .ok .nil l:=rfl
theorem Gp{z:Nat}{ws:List (List UInt8)}(hw:DW ws):¬Re z ws []:=by
  rintro(h|h)
  ·cases h
  ·simp only[List.any_eq_true]at h;obtain⟨u,hu,h⟩:=h;exact Zh (hw u hu).1 h rfl
theorem pS{z z':Nat}{ws:List (List UInt8)}(hw:DW ws){l l':List Tk}(h:Sm (QB.hd z l) (QB.hd z' l')):Re z ws l↔Re z' ws l':=by
  unfold Re;rw[h.k]
  have:(ws.any fun u=>QQ (QB.hd z l) u)=(ws.any fun u=>QQ (QB.hd z' l') u):=by
    induction ws with
    |nil=>rfl
    |cons u ws ih=>simp only[List.any_cons];rw[h.is (hw u (by simp)).1 (hw u (by simp)).2,ih fun v hv=>hw v (by simp[hv])]
  rw[this]
theorem bind_ok{α β:Type}{R:Rd α}{g:α→List Tk→Rd β}{b:β}{r:List Tk}(h:R.bind g=.ok b r):∃a r1,R=.ok a r1∧g a r1=.ok b r:=by
  cases R with
  |ok a r1=>exact⟨a,r1,rfl,h⟩
  |bad p e=>cases h
theorem zj{z:Nat}{ws:List (List UInt8)}{f:Nat}{l r:List Tk}{c:F}(h:rows z ws f l=.ok c r):∃g,f=g+1∧((¬Re z ws l∧c=.nil∧r=l)∨
    (Re z ws l∧∃n r1 c1,item z (Jn z) 0 l=.ok n r1∧rows z ws g r1=.ok c1 r∧c=Qo n c1)):=by
  cases f with
  |zero=>cases h
  |succ g =>
   refine⟨g,rfl,?_⟩;rw[gh]at h;by_cases hc:Re z ws l
   ·rw[if_pos hc]at h;obtain⟨n,r1,h1,h⟩:=bind_ok h;obtain⟨c1,r2,h2,h⟩:=bind_ok h;simp only[Rd.ok.injEq]at h;obtain⟨rfl,rfl⟩:=h;exact .inr ⟨hc,n,r1,c1,h1,h2,rfl⟩
   ·rw[if_neg hc]at h;simp only[Rd.ok.injEq]at h;exact .inl ⟨hc,h.1.symm,h.2.symm⟩
theorem Ur{z:Nat}{ws:List (List UInt8)}{f:Nat}{l:List Tk}(h:¬Re z ws l):rows z ws (f+1) l=.ok .nil l:=by rw[gh,if_neg h]
theorem En{z:Nat}{ws:List (List UInt8)}{f:Nat}{l r1 r:List Tk}{n:Nd}{c:F}(h:Re z ws l)(h1:item z (Jn z) 0 l=.ok n r1)(h2:rows z ws f r1=.ok c r):rows z ws (f+1) l=.ok (Qo n c) r:=by
  rw[gh,if_pos h,h1,Rd.bind_ok,h2,Rd.bind_ok]
theorem kK{z:Nat}{l r:List Tk}{n:Nd}(h:item z (Jn z) 0 l=.ok n r):r.length<l.length:=qL (Ue z) 0 l n r h
theorem nP{z:Nat}{ws:List (List UInt8)}:∀(f:Nat){g:Nat}{l r:List Tk}{c:F},rows z ws f l=.ok c r→l.length<g→rows z ws g l=.ok c r
  |0,_,_,_,_,h,_=>by cases h
  |f+1,0,_,_,_,_,h=>by omega
  |f+1,g+1,l,r,c,h,hg=>by
   obtain⟨f',e,h|⟨hc,n,r1,c1,h1,h2,rfl⟩⟩:=zj h
   ·obtain⟨hc,rfl,rfl⟩:=h;exact Ur hc
   ·obtain rfl:f=f':=by omega
    have:=kK h1;exact En hc h1 (nP f h2 (by omega))
theorem qQ{s:List Tk}(hq:NL s){z z':Nat}{ws:List (List UInt8)}(hw:DW ws):∀(f:Nat){f':Nat}{l l' r:List Tk}{c:F},rows z ws f l=.ok c r→Ap s l l'→l'.length<f'→
    (r≠[]∧∃r',rows z' ws f' l'=.ok c r'∧Ap s r r')∨(r=[]∧∃g,s.length<g∧∀c2 r2,rows z' ws g s=.ok c2 r2→rows z' ws f' l'=.ok (Vi c c2) r2)
  |0,_,_,_,_,_,h,_,_=>by cases h
  |f+1,0,_,_,_,_,_,_,h=>by omega
  |f+1,f'+1,l,l',r,c,h,ha,hf=>by
   obtain⟨f1,e,h|⟨hc,n,r1,c1,h1,h2,rfl⟩⟩:=zj h
   ·obtain⟨hc,rfl,rfl⟩:=h;cases ha with
    |nil=>exact .inr ⟨rfl,f'+1,hf,fun c2 r2 e=>e⟩
    |cons ht ha=>exact .inl ⟨List.cons_ne_nil _ _,_,Ur fun q=>hc ((pS hw (z:=z) (z':=z') (l:=_::_) (l':=_::_) ht).2 q),.cons ht ha⟩
   ·obtain rfl:f=f1:=by omega
    have hl:l≠[]:=fun q=>by subst q;exact Gp hw hc
    obtain⟨WD,h1',ha1⟩:=kL hq (sL hq) (Ue z) 0 l l' ha n r1 h1;have hlt:=kK h1';have hc':=(pS hw (ha.sm hl z z')).1 hc;rcases qQ hq hw f h2 ha1 (show WD.length<f' by omega)with⟨hr,r',h3,DN⟩|⟨hr,g,hg,k⟩
    ·exact .inl ⟨hr,r',En hc' h1' h3,DN⟩
    ·exact .inr ⟨hr,g,hg,fun c2 r2 e=>En hc' h1' (k c2 r2 e)⟩
def jF(z:Nat)(s:List Tk)(c:F):Prop:=∀g,s.length<g→rows z U8 g s=.ok c []
theorem kT:DW Mv:=by unfold DW;decide
theorem Ed:DW U8:=by unfold DW;decide
theorem aa{t:Tk}{u v:List UInt8}(h:QQ t u=true)(hv:u≠v):QQ t v=false:=by
  unfold QQ at h⊢;rw[beq_iff_eq]at h;rw[h];simpa using hv
theorem nS{z:Nat}:∀(g:Nat){g':Nat}{l:List Tk}{c:F},rows z U8 g l=.ok c []→l.length<g'→∃ci cd r1,rows z Mv g' l=.ok ci r1∧(∀g2,r1.length<g2→rows z U8 g2 r1=.ok cd [])∧c=Vi ci cd
  |0,_,_,_,h,_=>by cases h
  |g+1,0,_,_,_,h=>by omega
  |g+1,g'+1,l,c,h,hg=>by
   obtain⟨f',e,h' |⟨hc,n,r1,c1,h1,h2,rfl⟩⟩:=zj h
   ·obtain⟨hc,rfl,rfl⟩:=h'
    exact⟨.nil,.nil,[],Ur (Gp kT),fun g2 hg2=>by
      cases g2 with
      |zero=>exact absurd hg2 (Nat.lt_irrefl _)
      |succ g2=>exact Ur (Gp Ed),rfl⟩
   ·obtain rfl:g=f':=by omega
    have hlt:=kK h1;by_cases h5:(QB.hd z l).kind=5
    ·obtain⟨ci,cd,r2,k1,k2,rfl⟩:=nS g h2 (show r1.length<g' by omega);exact⟨Qo n ci,cd,r2,En (.inl h5) h1 k1,k2,rfl⟩
    ·refine⟨.nil,Qo n c1,l,Ur ?_,fun g2 hg2=>nP _ h hg2,rfl⟩;rintro(q|q)
     ·exact h5 q
     ·rcases hc with hc|hc
      ·exact h5 hc
      ·simp only[Mv,U8,List.any_cons,List.any_nil,Bool.or_false,Bool.or_eq_true]at q hc;rcases hc with hc|hc|hc|hc <;> rw[aa hc (by decide)]at q <;> cases q
theorem Qqh{z:Nat}{l:List Tk}{f:Bool}(h:f=true):X5 z f l=.ok () l:=by unfold X5;rw[if_pos h]
theorem pH{z:Nat}{l r:List Tk}{f:Bool}{u:Unit}(h:X5 z f l=.ok u r):f=true∧r=l:=by
  unfold X5 at h;split at h
  ·simp only[Rd.ok.injEq]at h;exact⟨by assumption,h.2.symm⟩
  ·cases h
theorem ru{s:List Tk}(hq:NL s){z z':Nat}{l l' r:List Tk}{c cs:F}(h:G5 z l=.ok c r)(ha:Ap s l l')(hs:jF z' s cs):G5 z' l'=.ok (Vi c cs) []:=by
  unfold G5 at h⊢;obtain⟨c1,r1,h1,g1⟩:=bind_ok h;obtain⟨u,WD,h2,g2⟩:=bind_ok g1;obtain⟨hp,rfl⟩:=pH h2;obtain⟨p,r2,h3,g3⟩:=bind_ok g2;obtain⟨c2,r3,h4,g4⟩:=bind_ok g3;obtain⟨c3,r4,h5,g5⟩:=bind_ok g4;obtain⟨u',bT,h6,g6⟩:=bind_ok g5;obtain⟨h7,rfl⟩:=pH h6;have h7:bT=[]:=List.eq_nil_of_length_eq_zero (of_decide_eq_true h7);subst h7;simp only[Rd.ok.injEq]at g6;obtain⟨rfl,rfl⟩:=g6;clear h g1 g2 g3 g4 g5;have hne:=Zh (by decide) hp;rcases qQ hq (z':=z') (by intro u hu;cases hu) _ h1 ha (JW _)with⟨_,WD,k1,a1⟩|⟨e,_⟩
  case inr=>exact absurd e hne
  have hp':QQ (QB.hd z' WD) [112,97,99,107,97,103,101]=true:=by rw[←(a1.sm hne z z').is (by decide) (by decide)];exact hp
  obtain⟨r2',k3,a2⟩:=kL hq (sL hq) (Ue z) 0 _ _ a1 _ _ h3;rw[k1,Rd.bind_ok,Qqh hp',Rd.bind_ok,k3,Rd.bind_ok];have hend:∀c,((X5 z' (decide (([]:List Tk).length=0)) []).bind fun _ l=>Rd.ok c l)=(Rd.ok c []:Rd F):=fun c=>rfl
  rcases qQ hq (z':=z') kT _ h4 a2 (JW _)with⟨_,r3',k4,a3⟩|⟨rfl,g,hg,k4⟩
  ·rw[k4,Rd.bind_ok];rcases qQ hq (z':=z') Ed _ h5 a3 (JW _)with⟨e,_⟩|⟨_,g,hg,k5⟩
   ·exact absurd rfl e
   ·rw[k5 cs [] (hs g hg),Rd.bind_ok,hend];simp only[gq,sy]
  ·obtain⟨ci,cd,rs,j1,j2,rfl⟩:=nS g (hs g hg) hg;rw[k4 ci rs j1,Rd.bind_ok,j2 _ (JW _),Rd.bind_ok,hend];have:c3=.nil:=by
      obtain⟨f',e,h' |⟨hc,_⟩⟩:=zj h5
      ·exact h'.2.1
      ·exact absurd hc (Gp Ed)
   subst this;simp only[gq,sy,X2]
theorem nJ:NL []:=fun z z'=>⟨fun w hw=>rfl,rfl,rfl,Iff.rfl,Iff.rfl,Iff.rfl,Iff.rfl⟩
theorem Qq9(z:Nat):jF z [] .nil:=fun g hg=>by
  cases g with
  |zero=>exact absurd hg (Nat.lt_irrefl _)
  |succ g=>exact Ur (Gp Ed)
theorem ry{z z':Nat}{l l' r:List Tk}{c:F}(h:G5 z l=.ok c r)(ha:Ap [] l l'):G5 z' l'=.ok c []:=by
  rw[ru nJ h ha (Qq9 z'),X2]
theorem Qm2{t:Tk}(h5:t.kind=5)(hf:t.first=true)(hx:∀w∈DX,QQ t w=false)(hl:Ql t.x=0):NL [t]:=fun z z' =>
  ⟨fun w hw=>by
    show QQ (QB.hd z []) w=QQ t w;rw[hx w hw];cases hq:QQ (QB.hd z []) w
    ·rfl
    ·exact absurd rfl (Zh (AG w hw).1 hq),by
    show false=Je t;unfold Je;rw[h5];rfl,by
    show Ql e0=Ql t.x;rw[hl];exact Km (.inl Xn),by
    show(0:Int)=2↔t.kind=2;rw[h5];decide,by
    show(0:Int)=3↔t.kind=3;rw[h5];decide,by
    show(0:Int)=6↔t.kind=6;rw[h5];decide,by
    show((0:Int)=5∧false=false)↔(t.kind=5∧t.first=false);rw[h5,hf];decide⟩
open Lex in
theorem mQ:∀{ps:List (Int×List Int)}{l z:List Int},Zk l ps z→∀p∈ps,p.1=6→p.2=[59]
  |[],_,_,_,p,hp,_=>by cases hp
  |(k,t)::ps,l,z,⟨r,h1,h2,h3,h4⟩,p,hp,h6=>by
   rcases List.mem_cons.1 hp with e|e
   ·subst e;have h6:k=6:=h6;subst h6;cases l with
    |nil=>simp[piece]at h2
    |cons c l' =>
     rw[Z9]at h2;have hk:=qY c;repeat' split at h2
     all_goals first
       |(exfalso;simp only[Prod.mk.injEq]at h2;omega)
       |(simp only[Prod.mk.injEq]at h2
         have hc:=kU.1 h2.1
         match t,h2.2,h1 with
         |[d],_,h1=>simp only[List.cons_append,List.nil_append,List.cons.injEq]at h1;rw[←h1.1,hc])
   ·exact mQ h4 p e h6
theorem tD{xs:List Int}{c:F}{r:List Tk}(h0:Lex.K6 xs=0)(h:G5 xs.length ((Lex.ZQ xs).map Mu)=.ok c r):X4 xs=.ok (AE c) r:=by
  unfold X4;rw[if_pos h0];exact rP h
