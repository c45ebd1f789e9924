import Derived.Test.YtaiihnniblibaaaGreatDoorG05
import Derived.Lib.ConvBytes
set_option maxHeartbeats 1000000
set_option maxRecDepth 100000
set_option linter.unusedVariables false
open Go.ChangeShapes Go.WideShapes Go.ChangeAt Go.RowKit Go.Proofs.Tryz
open _root_.List renaming length_append→JF,append_assoc→KA
open Go.Lib renaming hid→QA
open Go.Value renaming string→σ,int→ι,slice→ς,pointer→π,bool→τ,agg→ξ
open Go.IntKind renaming i64→κ
open Go.Obj renaming cells→θ
open Go.Ending renaming returned→ρ
namespace Go.Proofs.YtaiihnniblibaaaGreatDoor
namespace KL
theorem tV{ks r:List Int}(h:YU ks)(hr:ZZ r):bad (VC ks++r)=(VC ks).length+bad r∧LA (VC ks++r)=ks++LA r:=by
 obtain⟨b1,b2,b3,b4,b5⟩:=Ui hr
 have hs:YU (ks++LA r):=fun x hx=>by
  rcases List.mem_append.1 hx with h' |h'
  ·exact h x h'
  ·exact b1 x h'
 have:=AA (l:=VC ks++r) (a:=ks++LA r) (n:=(VC ks).length+bad r) ((xE ks).append hr) hs (by rw[List.length_append];omega)
  (by rw[cw,List.take_length_add_append];congr 1;exact sH hr) (by rw[List.drop_length_add_append,b5])
 exact⟨this.2.symm,this.1.symm⟩
theorem sG{a b:List Int}(ha:ZZ a)(hb:ZZ b)(h:bad a=a.length):bad (a++b)=a.length+bad b:=by
 obtain⟨b1,b2,b3,b4,b5⟩:=Ui ha;have e:VC (LA a)=a:=by rw[sH ha,h,List.take_length]
 have:=(tV (ks:=LA a) (r:=b) b1 hb).1;rw[e]at this;exact this
end KL
namespace Lex
open KL
def zV(l:List Int):Prop:=∀x∈l,0≤x∧x<128
theorem oF{l:List Int}(h:zV l):ZZ l:=fun x hx=>by have:=h x hx;omega
theorem sD:∀{l:List Int},zV l→VC l=l∧YU l
 |[],_=>⟨rfl,YU.nil⟩
 |c::r,h=>by
  obtain⟨a,b⟩:=sD (l:=r) (fun x hx=>h x (by simp[hx]));have hc:=h c (by simp);have e:=Eu hc.1 hc.2;refine⟨by simp only[VC,a,enc1 e];rfl,fun k hk=>?_⟩;rcases List.mem_cons.1 hk with e' |e'
  ·subst e';omega
  ·exact b k e'
theorem Qv8{l:List Int}(h:zV l):bad l=l.length:=by
 obtain⟨a,b⟩:=sD h;have:=(Qpj b).2;rw[a]at this;exact this
theorem Qvu{k:Int}{i:Nat}(h1:1≤i)(h2:i<Vh k):128≤(enc k).getD i 0:=by
 rcases Xc k with e|e|e|e|e
 ·omega
 ·omega
 ·rw[enc2 e];obtain rfl:i=1:=by omega
  simp;omega
 ·rw[enc3 e];obtain rfl|rfl:i=1∨i=2:=by omega
  all_goals simp;omega
 ·rw[enc4 e];obtain rfl|rfl|rfl:i=1∨i=2∨i=3:=by omega
  all_goals simp;omega
theorem Qqd{r z:List Int}{c:Int}(hr:ZZ r)(hz:ZZ z)(hc:0≤c∧c<128)(hne:r≠[])(h:VS r=(-1,0)):VS (r++c::z)=(-1,0):=by
 have hb:ZZ (r++c::z):=hr.append (fun x hx=>by
  rcases List.mem_cons.1 hx with e|e
  ·subst e;omega
  ·exact hz x e)
 rcases Nat.eq_zero_or_pos (VS (r++c::z)).2 with h0|h0
 ·exact xt h0
 ·exfalso;obtain⟨h1,h2⟩:=Er (k:=(VS (r++c::z)).1) (n:=(VS (r++c::z)).2) hb rfl (by omega);generalize(VS (r++c::z)).1=k at *;generalize(VS (r++c::z)).2=n at *;have hle:(enc k).length=n:=by rw[Jf,h1]
  by_cases hn:n≤r.length
  ·have e:r=enc k++r.drop n:=by
    have h3:=congrArg (List.take r.length) h2;rw[List.take_left,List.drop_append_of_le_length hn,←KA,List.take_append_of_le_length (by rw[JF,List.length_drop];omega),List.take_of_length_le (by rw[JF,List.length_drop];omega)]at h3;exact h3
   rw[e,Bi (by omega)]at h;have:Vh k=0:=by injection h
   omega
  ·have hp:=List.length_pos_iff.2 hne;have h4:=Qvu (k:=k) (i:=r.length) (by omega) (by omega);have h5:(r++c::z).getD r.length 0=c:=by simp[List.getD]
   rw[h2]at h5;have h6:(enc k++(r++c::z).drop n).getD r.length 0=(enc k).getD r.length 0:=by simp only[List.getD];rw[List.getElem?_append_left (by omega)]
   rw[h6]at h5;omega
theorem Qrg{a z:List Int}{c:Int}(ha:ZZ a)(hz:ZZ z)(hc:0≤c∧c<128)(h:bad a<a.length):bad (a++c::z)=bad a:=by
 obtain⟨b1,b2,b3,b4,b5⟩:=Ui ha
 have hcz:ZZ (c::z):=fun x hx=>by
  rcases List.mem_cons.1 hx with e|e
  ·subst e;omega
  ·exact hz x e
 have h1:=Qqd (ha.drop (bad a)) hz hc (by intro e;have:=congrArg List.length e;rw[List.length_drop]at this;simp at this;omega) b5;have h2:=(tV (ks:=LA a) (r:=a.drop (bad a)++c::z) b1 ((ha.drop _).append hcz)).1;rw[←KA,←b3]at h2;have h3:bad (a.drop (bad a)++c::z)=0:=by have:=AA (l:=a.drop (bad a)++c::z) (a:=[]) (n:=0) ((ha.drop _).append hcz) YU.nil (Nat.zero_le _) (by simp[VC]) (by rw[List.drop_zero,h1]);exact this.2.symm
 omega
theorem Qsp{x z:List Int}{c:Int}(hx:ZZ x)(hz:ZZ z)(hc:0≤c∧c<128)(h:bad (x++c::z)=(x++c::z).length):bad x=x.length∧bad (c::z)=(c::z).length:=by
 have hcz:ZZ (c::z):=fun y hy=>by
  rcases List.mem_cons.1 hy with e|e
  ·subst e;omega
  ·exact hz y e
 have hle:=qy hx;have h1:bad x=x.length:=by
  rcases Nat.lt_or_ge (bad x) x.length with h' |h'
  ·have:=Qrg hx hz hc h';rw[JF]at h;omega
  ·omega
 have:=sG hx hcz h1;rw[JF]at h;exact⟨h1,by omega⟩
def K6(xs:List Int):Int:=if bad xs<xs.length then 3 else if left xs=[]then 0 else 4
def RJ(xs:List Int):Nat:=if bad xs<xs.length then bad xs else if left xs=[]then 0 else xs.length-(left xs).length
def Uz(xs:List Int):List Tok:=if K6 xs=0 then ZQ xs else[]
theorem pg{xs:List Int}{ps:List (Int×List Int)}(h:bad xs=xs.length)(ht:Zk xs ps []):K6 xs=0∧RJ xs=0∧Uz xs=fin ps 0 true:=by
 obtain⟨h1,h2⟩:=Qsn ht;have hE:K6 xs=0:=by unfold K6;rw[if_neg (by omega),if_pos h2]
 exact⟨hE,by unfold RJ;rw[if_neg (by omega),if_pos h2],by unfold Uz ZQ;rw[if_pos hE,h1]⟩
theorem nj{xs:List Int}(hb:ZZ xs)(h:K6 xs=0):bad xs=xs.length∧left xs=[]:=by
 have hle:=qy hb;unfold K6 at h;split at h
 ·omega
 ·split at h
  ·rename_i h1 h2;exact⟨by omega,h2⟩
  ·omega
theorem mB{t:List Int}{k:Int}(h:piece t=(k,t.length))(h0:t.length≠0):Zk t [(k,t)] []:=⟨[],by simp,h,h0,rfl,rfl⟩
def Xd(s:List Int):Bool:=decide (0<s.length)&&(kd (s.getD 0 0)==1)&&decide (K8 s=s.length) && !isWord s
theorem Qqr{p:Int→Bool}{l:List Int}(h:lead p l=l.length):∀x∈l,p x=true:=fun x hx=>by
 obtain⟨i,hi,rfl⟩:=List.mem_iff_getElem.1 hx;have:=Ev p l i (by omega);simpa[List.getD,hi]using this
theorem xe{p:Int→Bool}:∀{l:List Int},(∀x∈l,p x=true)→lead p l=l.length
 |[],_=>rfl
 |c::r,h=>by
  simp only[lead,h c (by simp),if_true,List.length_cons,xe (l:=r) (fun x hx=>h x (by simp[hx]))]
theorem cg{c:Int}(r:List Int)(h:blk c=false):Jj (c::r)=Jj r+1:=by
 simp only[Jj,h,Bool.false_eq_true,if_false];split <;> omega
end Lex
namespace Tree
theorem ZC{k j:Int}(h:¬k=j):(k==j)=false:=by simpa using h
open Mem
def pC(gf:Nat):Prop:=∀args w,(callFunc gf args).run Tryz.prog w=.ok (.enter gf args) w
def qu(w:World)(v:Value)(p:Int→ByteArray→Bool):Prop :=
 ∃gf GJ,v=.func (.func gf) #[] GJ∧pC gf∧∀W,Below w.heap.size w W→∀k x y A n C,Calls Tryz.prog gf (#[ξ #[ι κ k,σ x,σ y,ς A n C]]++GJ) W fun e W'=>e=ρ (τ (p k x))∧Below W.heap.size W W'
theorem qu.later{w w':World}{v:Value}{p:Int→ByteArray→Bool}(h:qu w v p)(hb:Below w.heap.size w w'):qu w' v p:=by
 obtain⟨gf,GJ,e,he,hc⟩:=h;exact⟨gf,GJ,e,he,fun W hW=>hc W (hb.trans (hW.mono hb.size))⟩
theorem jZ{B:Nat}{a w:World}(h:Below B a w)(n:Nat):Below B a (w.drewN n):=⟨h.os,h.tape,h.output,h.size,h.block⟩
theorem Qb(w:World)(o:Obj):Below w.heap.size w (w.alloc o):=(Below.refl _ _).alloc (Nat.le_refl _) _
def Qwb(pt:Pt)(f:F)(w:World)(e:Ending)(w':World):Prop :=
 Below w.heap.size w w'∧((pt.take f=none∧∃v,e=ρ (.tuple #[v,τ false]))∨(∃g A n C,pt.take f=some g∧e=ρ (.tuple #[ς A n C,τ true])∧Fs w (Lo w.heap.size) (ς A n C) g))
def jW(w:World)(v:Value)(pt:Pt):Prop :=
 ∃gf c,v=.func (.func gf) #[] #[π (some ⟨c,0,none⟩)]∧pC gf∧∀W,Below w.heap.size w W→∀A n C f,Fs W (Lo W.heap.size) (ς A n C) f→Calls Tryz.prog gf #[ς A n C,π (some ⟨c,0,none⟩)] W (Qwb pt f W)
theorem jW.later{w w':World}{v:Value}{pt:Pt}(h:jW w v pt)(hb:Below w.heap.size w w'):jW w' v pt:=by
 obtain⟨gf,c,e,he,hc⟩:=h;exact⟨gf,c,e,he,fun W hW=>hc W (hb.trans (hW.mono hb.size))⟩
theorem Fs.tail{w:World}{S:Nat→Prop}{b off n C:Nat}{k:Int}{x y:ByteArray}{c r:F}(h:Fs w S (ς (some ⟨b,off,none⟩) n C) (.cons k x y c r)) :
  1≤n∧n≤C∧C≤9223372036854775807∧r.len=n-1∧∀A',(n-1=0∨A'=some ⟨b,off+4,none⟩)→Fs w S (ς A' (n-1) (C-1)) r:=by
 obtain⟨b',PO,n',C',s,e,h1,h2,h3,_,_,_,_,_,_,hr⟩:=h;injection e with e1 e2 e3;injection e1 with e1;injection e1 with e4 e5;subst e4;subst e5;subst e2;subst e3;refine⟨by omega,by omega,h3,by simpa using h1,fun A' hA=>?_⟩;simp only[Nat.add_sub_cancel]at hA⊢;refine hr A' ?_;rcases hA with hA|hA
 ·exact .inl (F.UR (by omega))
 ·exact .inr hA
theorem Qmh(b off n C:Nat)(hn:1≤n)(hC:n≤C):∃A' n' C',(∀W,(Instr.slice 22 (ς (some ⟨b,off,none⟩) n C) (some (ι κ 1)) none none).run Tryz.prog W=.ok (ς A' n' C') W)∧n'=n-1∧C'=C-1∧(n-1=0∨A'=some ⟨b,off+4,none⟩):=by
 have h2:(1:Int)≤(n:Int):=by omega
 refine⟨if C=1 then some ⟨b,off,none⟩else some ⟨b,off+4,none⟩,n-1,C-1,fun W=>?_,rfl,rfl,?_⟩
 ·rw[run_slice_l (P:=Tryz.prog) W 22 _ n C (by kernel_rfl) κ 1 (by omega) h2];have hs:(sizeOf (Tryz.prog.elem 22)).run Tryz.prog W=.ok 4 W:=by kernel_rfl
  rw[hs];simp only[Result.andThen_ok,sliced,Addr.add];by_cases hc:C=1 <;> simp[hc]
 ·by_cases hc:C=1
  ·left;omega
  ·right;rw[if_neg hc]
end Tree
namespace Tree
def Ze(pk:Int)(px:ByteArray)(f:F)(p:Int):Bool :=
 if 0≤p then(match f.drop p.toNat with
  | .nil=>false
  | .cons kk kx _ _ _=>Qi pk px p.toNat kk kx)else false
theorem kG(w:World)(o1 o2:Obj)(q:Nat):Below w.heap.size w (((w.alloc o1).alloc o2).drewN q):=⟨(Vc w o1 o2).os,(Vc w o1 o2).tape,(Vc w o1 o2).output,(Vc w o1 o2).size,(Vc w o1 o2).block⟩
theorem Qul(px kx:ByteArray):Qi 29 px 0 29 kx=decide (Ql kx<Ql px):=rfl
theorem Quk(px kx:ByteArray):Qi 29 px 1 29 kx=decide (Ql kx≤Ql px):=rfl
end Tree
namespace Lex
open KL
def nums(s:ByteArray):List Int:=s.data.toList.map fun b=>(b.toNat:Int)
theorem Gy(s:ByteArray):ZZ (nums s):=fun x hx=>by
 obtain⟨b,_,rfl⟩:=List.mem_map.1 hx;have:=b.toNat_lt;omega
theorem xo(s:ByteArray):(nums s).length=s.size:=by
 unfold nums;rw[List.length_map,Array.length_toList];rfl
theorem Xo(s:ByteArray):strOfNums (nums s)=s:=by
 apply ByteArray.ext;apply Array.ext';show((s.data.toList.map fun b=>(b.toNat:Int)).map fun n=>UInt8.ofNat n.toNat).toArray.toList=_;rw[List.map_map,show((fun n:Int=>UInt8.ofNat n.toNat) ∘ fun b:UInt8=>(b.toNat:Int))=id from funext fun b=>by simp,List.map_id]
theorem xc(w:World)(s:ByteArray)(hs:s.size≤maxLen):∃c W1,(convert 9 30 (σ s)).run prog w=.ok (ς (some ⟨w.heap.size,0,none⟩) s.size c) W1∧s.size≤c∧c≤maxLen∧Below w.heap.size w W1∧RB W1 W1.heap.size (some ⟨w.heap.size,0,none⟩) (nums s):=by
 refine⟨_,_,Lib.run_convert_string_bytes w 9 30 5 s underlying9 underlying30 underlying5,grownCap_ge _ _ _ _,grownCap_le_maxLen _ _ _ _ hs,?_,?_⟩
 ·refine⟨?_,?_,?_,by rw[Lib.bytesWorld_size];omega,fun g hg=>Lib.bytesWorld_at_old w _ s g hg⟩;all_goals(unfold Lib.bytesWorld World.freeze;split <;> rfl)
 ·refine⟨Gy s,?_⟩;by_cases h0:nums s=[]
  ·exact .inl h0
  ·refine .inr ⟨w.heap.size,0,rfl,by rw[Lib.bytesWorld_size];omega,fun i hi=>?_⟩;rw[xo]at hi;rw[Nat.zero_add,Lib.bytesWorld_cell w _ s i hi];have hi':i<s.data.toList.length:=by rw[Array.length_toList];exact hi
   simp only[nums,List.getD,List.getElem?_map,List.getElem?_eq_getElem hi',Option.map_some,Option.getD_some]
def Z7(c:Int):Int:=if kd c=1 then 1 else if kd c=2 then 2 else 0
theorem Xp(c:Int)(w:World)(h0:0≤c)(h1:c<256) :
  Calls prog 57 #[ι .u8 c] w fun e w'=>e=ρ (ι κ (Z7 c))∧w=w':=by
 by_cases DS:c=95
 ·subst DS;rw[show Z7 95=1 from rfl];go_enter func57,ntmps57;go_wp2;go_ret;exact⟨rfl,rfl⟩
 have og:=Qy DS;have hk:(c<48∧Z7 c=0)∨(48≤c∧c≤57∧Z7 c=2)∨(57<c∧c<65∧Z7 c=0)∨(65≤c∧c≤90∧Z7 c=1)∨(90<c∧c<97∧Z7 c=0)∨(97≤c∧c≤122∧Z7 c=1)∨(122<c∧Z7 c=0):=by
  have h1:=@lO c;have h2:=@lN c;unfold Z7;repeat' split
  all_goals omega
 generalize Z7 c=q at *;clear DS;rcases hk with⟨d1,rfl⟩|⟨d1,d2,rfl⟩|⟨d1,d2,rfl⟩|⟨d1,d2,rfl⟩|⟨d1,d2,rfl⟩|⟨d1,d2,rfl⟩|⟨d1,rfl⟩
 all_goals
  go_enter func57,ntmps57;go_wp2;go_ret;exact⟨rfl,rfl⟩
theorem su(w:World)(L:List (List Int))(i:Nat)(hi:i<L.length)(fr:Nat×Nat):(w.alloc (θ (L.map fun m=>σ (strOfNums m)).toArray 9 fr)).cell? ⟨w.heap.size,i,none⟩=some (σ (strOfNums (L.getD i []))):=by
 rw[World.cell?_alloc_mark];simp[List.getD,hi]
def J5:List (List Int):=[[112,97,99,107,97,103,101],[105,109,112,111,114,116],[99,111,110,115,116],[118,97,114],[116,121,112,101],[102,117,110,99],[109,97,112],[115,116,114,117,99,116],[105,102],[101,108,115,101],[102,111,114],[114,101,116,117,114,110],[98,114,101,97,107],[99,111,110,116,105,110,117,101]]
theorem Qpf:∀i:Fin 14,(J5.getD i.val []).all (fun x=>decide (0≤x∧x<256))=true:=by decide +kernel
theorem Qpe{t:List Int}(h:t∈J5):∃i,i<14∧J5.getD i []=t:=by
 obtain⟨i,hi,e⟩:=List.mem_iff_getElem.1 h;exact⟨i,hi,by simp[List.getD,hi,e]⟩
theorem Qql{i:Nat}(h:i<14):J5.getD i []∈J5:=by
 have:∀i:Fin 14,J5.getD i.val []∈J5:=by decide +kernel
 exact this ⟨i,h⟩
theorem Qkr(t:List Int)(ht:ZZ t)(w:World) :
  Calls prog 59 #[σ (strOfNums t)] w fun e w'=>e=ρ (τ (decide (t∈J5)))∧Below w.heap.size w w':=by
 have HN:=QA (fun(i:Nat)(hi:i<14)=>su w J5 i hi (0,0));have HB:Hid (Below w.heap.size w (w.alloc (θ (J5.map fun m=>σ (strOfNums m)).toArray 9))):=(Below.refl _ _).alloc (Nat.le_refl _) _;have HY:Hid (∀i,i<14→J5.getD i []=t→decide (t∈J5)=true):=fun i hi e=>decide_eq_true (by rw[←e];exact Qql hi)
 have NU:Hid ((∀i,i<14→J5.getD i []≠t)→decide (t∈J5)=false):=fun h=>decide_eq_false fun hm=>by
  obtain⟨i,hi,e⟩:=Qpe hm;exact h i hi e
 have HS:Hid (∀i,i<14→((strOfNums (J5.getD i [])).toList==(strOfNums t).toList)=decide (J5.getD i []=t)):=fun i hi=>by
  rw[Lib.strOfNums_toList t];exact ku (fun x hx=>by simpa using List.all_eq_true.1 (Qpf ⟨i,hi⟩) x hx) t ht
 generalize decide (t∈J5)=res at *;go_enter func59,ntmps59;go_wp2;have he:w.alloc (θ #[σ ⟨#[112,97,99,107,97,103,101]⟩,σ ⟨#[105,109,112,111,114,116]⟩,σ ⟨#[99,111,110,115,116]⟩,σ ⟨#[118,97,114]⟩,σ ⟨#[116,121,112,101]⟩,σ ⟨#[102,117,110,99]⟩,σ ⟨#[109,97,112]⟩,σ ⟨#[115,116,114,117,99,116]⟩,σ ⟨#[105,102]⟩,σ ⟨#[101,108,115,101]⟩,σ ⟨#[102,111,114]⟩,σ ⟨#[114,101,116,117,114,110]⟩,σ ⟨#[98,114,101,97,107]⟩,σ ⟨#[99,111,110,116,105,110,117,101]⟩] 9)=w.alloc (θ (J5.map fun m=>σ (strOfNums m)).toArray 9):=by rfl
 rw[he];clear he;generalize w.alloc (θ (J5.map fun m=>σ (strOfNums m)).toArray 9)=W at *
 go_loop [4,7] (fun _ i=>∃k:Nat,k≤14∧i=ι κ k∧Hid (∀j,j<k→J5.getD j []≠t)) (fun _ i=>14-(intOf i).toNat)
 case atStart=>exact⟨0,by omega,rfl,fun j hj=>absurd hj (by omega)⟩
 case round =>
  obtain⟨k,hk,rfl,hno⟩:=hrel;by_cases hlt:k<14
  ·have hc:=HN.out k hlt;have hs:=HS.out k hlt;have Bl:=QA (HY.out k hlt)
   have XC:Hid (J5.getD k []≠t→∀j,j<k+1→J5.getD j []≠t):=fun h j hj=>by
    by_cases e:j=k
    ·rw[e];exact h
    ·exact hno.out j (by omega)
   clear hno HY NU HN HS;have vY:(k:Int)<14:=by omega
   generalize J5.getD k []=m at *;generalize strOfNums m=sm at *;generalize strOfNums t=st at *;by_cases e:m=t
   ·rw[decide_eq_true e]at hs;have HR:=QA (Bl.out e);clear Bl XC e;go_wp2;go_ret;rw[HR.out];exact⟨rfl,HB.out⟩
   ·rw[decide_eq_false e]at hs;have HR:=QA (XC.out e);clear Bl XC e;go_wp2
    go_round
    case rel=>exact⟨k+1,by omega,by go_num,HR.out⟩
    case measure=>simp[intOf];omega
  ·have HR:=QA (NU.out (fun i hi=>hno.out i (by omega)));have hnl:¬(k:Int)<14:=by omega
   clear hno hlt;go_wp2;go_ret;rw[HR.out];exact⟨rfl,HB.out⟩
theorem mX(t:List Int)(ht:ZZ t)(w:World) :
  Calls prog 59 #[σ (strOfNums t)] w fun e w'=>e=ρ (τ (isWord t))∧Below w.heap.size w w':=Qkr t ht w
def Vv:List (List Int):=[[43],[45],[42],[47],[37],[38],[124],[94],[60,60],[62,62],[38,94],[38,38],[124,124],[61,61],[33,61],[60],[60,61],[62],[62,61],[33],[61],[58,61],[43,61],[45,61],[42,61],[47,61],[37,61],[43,43],[45,45],[40],[41],[91],[93],[123],[125],[44],[46]]
theorem Qqj:∀i:Fin 37,(Vv.getD i.val []).all (fun x=>decide (0≤x∧x<256))=true:=by decide +kernel
theorem Qqi{t:List Int}(h:t∈Vv):∃i,i<37∧Vv.getD i []=t:=by
 obtain⟨i,hi,e⟩:=List.mem_iff_getElem.1 h;exact⟨i,hi,by simp[List.getD,hi,e]⟩
theorem Qqm{i:Nat}(h:i<37):Vv.getD i []∈Vv:=by
 have:∀i:Fin 37,Vv.getD i.val []∈Vv:=by decide +kernel
 exact this ⟨i,h⟩
theorem Qkw(t:List Int)(ht:ZZ t)(w:World) :
  Calls prog 58 #[σ (strOfNums t)] w fun e w'=>e=ρ (τ (decide (t∈Vv)))∧Below w.heap.size w w':=by
 have HN:=QA (fun(i:Nat)(hi:i<37)=>su w Vv i hi (0,0));have HB:Hid (Below w.heap.size w (w.alloc (θ (Vv.map fun m=>σ (strOfNums m)).toArray 9))):=(Below.refl _ _).alloc (Nat.le_refl _) _;have HY:Hid (∀i,i<37→Vv.getD i []=t→decide (t∈Vv)=true):=fun i hi e=>decide_eq_true (by rw[←e];exact Qqm hi)
 have NU:Hid ((∀i,i<37→Vv.getD i []≠t)→decide (t∈Vv)=false):=fun h=>decide_eq_false fun hm=>by
  obtain⟨i,hi,e⟩:=Qqi hm;exact h i hi e
 have HS:Hid (∀i,i<37→((strOfNums (Vv.getD i [])).toList==(strOfNums t).toList)=decide (Vv.getD i []=t)):=fun i hi=>by
  rw[Lib.strOfNums_toList t];exact ku (fun x hx=>by simpa using List.all_eq_true.1 (Qqj ⟨i,hi⟩) x hx) t ht
 generalize decide (t∈Vv)=res at *;go_enter func58,ntmps58;go_wp2;have he:w.alloc (θ #[σ ⟨#[43]⟩,σ ⟨#[45]⟩,σ ⟨#[42]⟩,σ ⟨#[47]⟩,σ ⟨#[37]⟩,σ ⟨#[38]⟩,σ ⟨#[124]⟩,σ ⟨#[94]⟩,σ ⟨#[60,60]⟩,σ ⟨#[62,62]⟩,σ ⟨#[38,94]⟩,σ ⟨#[38,38]⟩,σ ⟨#[124,124]⟩,σ ⟨#[61,61]⟩,σ ⟨#[33,61]⟩,σ ⟨#[60]⟩,σ ⟨#[60,61]⟩,σ ⟨#[62]⟩,σ ⟨#[62,61]⟩,σ ⟨#[33]⟩,σ ⟨#[61]⟩,σ ⟨#[58,61]⟩,σ ⟨#[43,61]⟩,σ ⟨#[45,61]⟩,σ ⟨#[42,61]⟩,σ ⟨#[47,61]⟩,σ ⟨#[37,61]⟩,σ ⟨#[43,43]⟩,σ ⟨#[45,45]⟩,σ ⟨#[40]⟩,σ ⟨#[41]⟩,σ ⟨#[91]⟩,σ ⟨#[93]⟩,σ ⟨#[123]⟩,σ ⟨#[125]⟩,σ ⟨#[44]⟩,σ ⟨#[46]⟩] 9)=w.alloc (θ (Vv.map fun m=>σ (strOfNums m)).toArray 9):=by rfl
 rw[he];clear he;generalize w.alloc (θ (Vv.map fun m=>σ (strOfNums m)).toArray 9)=W at *
 go_loop [4,7] (fun _ i=>∃k:Nat,k≤37∧i=ι κ k∧Hid (∀j,j<k→Vv.getD j []≠t)) (fun _ i=>37-(intOf i).toNat)
 case atStart=>exact⟨0,by omega,rfl,fun j hj=>absurd hj (by omega)⟩
 case round =>
  obtain⟨k,hk,rfl,hno⟩:=hrel;by_cases hlt:k<37
  ·have hc:=HN.out k hlt;have hs:=HS.out k hlt;have Bl:=QA (HY.out k hlt)
   have XC:Hid (Vv.getD k []≠t→∀j,j<k+1→Vv.getD j []≠t):=fun h j hj=>by
    by_cases e:j=k
    ·rw[e];exact h
    ·exact hno.out j (by omega)
   clear hno HY NU HN HS;have vY:(k:Int)<37:=by omega
   generalize Vv.getD k []=m at *;generalize strOfNums m=sm at *;generalize strOfNums t=st at *;by_cases e:m=t
   ·rw[decide_eq_true e]at hs;have HR:=QA (Bl.out e);clear Bl XC e;go_wp2;go_ret;rw[HR.out];exact⟨rfl,HB.out⟩
   ·rw[decide_eq_false e]at hs;have HR:=QA (XC.out e);clear Bl XC e;go_wp2
    go_round
    case rel=>exact⟨k+1,by omega,by go_num,HR.out⟩
    case measure=>simp[intOf];omega
  ·have HR:=QA (NU.out (fun i hi=>hno.out i (by omega)));have hnl:¬(k:Int)<37:=by omega
   clear hno hlt;go_wp2;go_ret;rw[HR.out];exact⟨rfl,HB.out⟩
