import Derived.Test.YtnbpdffdnphbeaaGreatDoorDPure
import Derived.Test.YtnbpdffdnphbeaaGreatDoorDApp
set_option maxHeartbeats 4000000
set_option maxRecDepth 100000
namespace Go.Proofs.YtnbpdffdnphbeaaGreatDoor
open Go.RowKit
structure fS(w:World)(a:Option Addr)(l:List Bool):Prop where
 cel:dC w a (tB l)
 few:l.length<=10000
theorem fS.below{w w':World}{a:Option Addr}{l:List Bool}(h:fS w a l)(hb:Below w.heap.size w w'):fS w' a l:=⟨h.cel.below hb,h.few⟩
theorem Je(l:List Bool)(i:Nat)(h:i<l.length):(tB l)[i]? = some (.bool (l.getD i false)):=by simp[tB,List.getD,h]
theorem fS.at{w:World}{a:Option Addr}{l:List Bool}(h:fS w a l){i:Nat}(hi:i<l.length):∃g,a=some ⟨g,0,none⟩/\w.cell? ⟨g,i,none⟩=some (.bool (l.getD i false)):=h.cel.at (Je l i hi)
def jU(l:List Int)(a:Int):Int:=if 0<=a/\a<l.length then l.getD a.toNat 0 else 0
theorem sP(w:World)(la:Option Addr)(lc:Nat)(l:List Bool)(a:Int)(h:fS w la l) :
 Calls Tryz.prog 251 #[.slice la l.length lc,.int .i64 a] w fun e w'=>e=.returned (.bool (cI l a))/\w'=w:=by
 have hf:=h.few;by_cases h0:0<=a
 ·obtain⟨n,rfl⟩:∃n:Nat,a=(n:Int):=⟨a.toNat,by omega⟩
  by_cases h1:n<l.length
  ·obtain⟨g,rfl,c⟩:=h.at h1
   have HR:Hid (cI l (n:Int)=l.getD n false):=by unfold Hid cI;rw[decide_eq_true h0,decide_eq_true (by omega:(n:Int)<l.length)];rfl
   generalize l.getD n false=x at *;have i1:(n:Int)<(l.length:Int):=by omega
   clear h
   go_enter Tryz.func251,Tryz.ntmps251
   go_wp2_with fail
   go_ret
   exact⟨zE HR.out.symm,rfl⟩
  ·have HR:Hid (cI l (n:Int)=false):=by unfold Hid cI;rw[decide_eq_true h0,decide_eq_false (by omega:¬(n:Int)<l.length)];rfl
   have i1:¬(n:Int)<(l.length:Int):=by omega
   clear h
   go_enter Tryz.func251,Tryz.ntmps251
   go_wp2_with fail
   go_ret
   exact⟨zE HR.out.symm,rfl⟩
 ·have HR:Hid (cI l a=false):=by unfold Hid cI;rw[decide_eq_false h0];rfl
  clear h
  go_enter Tryz.func251,Tryz.ntmps251
  go_wp2_with fail
  go_ret
  exact⟨zE HR.out.symm,rfl⟩
theorem JB(w:World)(la:Option Addr)(lc:Nat)(l:List Int)(a:Int)(h:qQ w la l) :
 Calls Tryz.prog 253 #[.slice la l.length lc,.int .i64 a] w fun e w'=>e=.returned (.int .i64 (jU l a))/\w'=w:=by
 have hf:=h.few;by_cases h0:0<=a
 ·obtain⟨n,rfl⟩:∃n:Nat,a=(n:Int):=⟨a.toNat,by omega⟩
  by_cases h1:n<l.length
  ·obtain⟨g,rfl,c⟩:=h.at h1
   have HR:Hid (jU l (n:Int)=l.getD n 0):=by unfold Hid jU;rw[if_pos ⟨h0,by omega⟩];rfl
   generalize l.getD n 0=x at *;have i1:(n:Int)<(l.length:Int):=by omega
   clear h
   go_enter Tryz.func253,Tryz.ntmps253
   go_wp2_with fail
   go_ret
   exact⟨yA HR.out.symm,rfl⟩
  ·have HR:Hid (jU l (n:Int)=0):=by unfold Hid jU;rw[if_neg (by omega)]
   have i1:¬(n:Int)<(l.length:Int):=by omega
   clear h
   go_enter Tryz.func253,Tryz.ntmps253
   go_wp2_with fail
   go_ret
   exact⟨yA HR.out.symm,rfl⟩
 ·have HR:Hid (jU l a=0):=by unfold Hid jU;rw[if_neg (by omega)]
  clear h
  go_enter Tryz.func253,Tryz.ntmps253
  go_wp2_with fail
  go_ret
  exact⟨yA HR.out.symm,rfl⟩
structure vQ where
 inputs:List Int
 has:List Bool
 values:List Int
structure aJ(w:World)(ia ha va:Option Addr)(s:vQ):Prop where
 inputs:qQ w ia s.inputs
 has:fS w ha s.has
 values:qQ w va s.values
theorem aJ.below{w w':World}{ia ha va:Option Addr}{s:vQ}(h:aJ w ia ha va s)(hb:Below w.heap.size w w'):aJ w' ia ha va s:=⟨h.inputs.below hb,h.has.below hb,h.values.below hb⟩
def G9(ia ha va:Option Addr)(ic hc vc:Nat)(s:vQ):Value:=.agg #[.slice ia s.inputs.length ic,.slice ha s.has.length hc,.slice va s.values.length vc]
def Ca(x:lD)(s:vQ):Bool :=
 if jU s.inputs x.place<(if x.two then jU s.inputs x.other else x.num) then x.less else if (if x.two then jU s.inputs x.other else x.num)<jU s.inputs x.place then x.more else x.equal
def Bn(x:lD)(s:vQ)(hs:List Bool):Bool :=
 if x.kind=1 then cI hs x.left || cI hs x.right else if x.kind=2 then cI hs x.left&&cI hs x.right else if x.kind=3 then !cI hs x.left
 else if x.kind=4 then true else if x.kind=5 then cI s.has x.place else if x.kind=6 then decide (jU s.inputs x.place=1) else if x.kind=7 then Ca x s else false
theorem BY(w:World)(ia ha va:Option Addr)(ic hc vc:Nat)(s:vQ)(x:lD)(h:aJ w ia ha va s) :
 Calls Tryz.prog 258 #[oN x,G9 ia ha va ic hc vc s] w fun e w'=>e=.returned (.bool (Ca x s))/\Below w.heap.size w w':=by
 have HN:=zA (fun w' (hb:Below w.heap.size w w') a=>JB w' ia ic s.inputs a (h.inputs.below hb));have HC:Hid (Ca x s=if jU s.inputs x.place<(if x.two then jU s.inputs x.other else x.num) then x.less else if (if x.two then jU s.inputs x.other else x.num)<jU s.inputs x.place then x.more else x.equal):=rfl;obtain⟨kd,lf',rg',pl,two,ot,nu,le,eq,mo⟩:=x;simp only[oN,G9]at *;have HN1:=zA (fun w' hb=>HN.out w' hb pl);have HN2:=zA (fun w' hb=>HN.out w' hb ot);clear HN h;generalize jU s.inputs pl=p1 at *;generalize jU s.inputs ot=p2 at *;generalize Ca ⟨kd,lf',rg',pl,two,ot,nu,le,eq,mo⟩ s=ans at *;have hb0:∀o1 o2,Below w.heap.size w ((w.alloc o1).alloc o2):=fun o1 o2=>((Below.refl _ _).alloc (Nat.le_refl _) _).alloc (by simp) _;have HB0:=zA hb0;clear hb0;cases two
 ·simp only[Bool.false_eq_true,if_false]at HC
  by_cases k1:p1<nu
  ·rw[if_pos k1]at HC
   go_enter Tryz.func258,Tryz.ntmps258
   go_wp2_with fail
   refine(HN1.out _ (HB0.out _ _)).mono ?_;rintro e w' ⟨rfl,hw⟩;obtain rfl:=hw.symm;go_wp2_with fail
   go_ret
   exact⟨zE HC.out.symm,HB0.out _ _⟩
  ·rw[if_neg k1]at HC
   by_cases k2:nu<p1
   ·rw[if_pos k2]at HC
    go_enter Tryz.func258,Tryz.ntmps258
    go_wp2_with fail
    refine(HN1.out _ (HB0.out _ _)).mono ?_;rintro e w' ⟨rfl,hw⟩;obtain rfl:=hw.symm;go_wp2_with fail
    go_ret
    exact⟨zE HC.out.symm,HB0.out _ _⟩
   ·rw[if_neg k2]at HC
    go_enter Tryz.func258,Tryz.ntmps258
    go_wp2_with fail
    refine(HN1.out _ (HB0.out _ _)).mono ?_;rintro e w' ⟨rfl,hw⟩;obtain rfl:=hw.symm;go_wp2_with fail
    go_ret
    exact⟨zE HC.out.symm,HB0.out _ _⟩
 ·simp only[if_true]at HC
  by_cases k1:p1<p2
  ·rw[if_pos k1]at HC
   go_enter Tryz.func258,Tryz.ntmps258
   go_wp2_with fail
   refine(HN1.out _ (HB0.out _ _)).mono ?_;rintro e w' ⟨rfl,hw⟩;obtain rfl:=hw.symm;go_wp2_with fail
   refine(HN2.out _ (HB0.out _ _)).mono ?_;rintro e w' ⟨rfl,hw⟩;obtain rfl:=hw.symm;go_wp2_with fail
   go_ret
   exact⟨zE HC.out.symm,HB0.out _ _⟩
  ·rw[if_neg k1]at HC
   by_cases k2:p2<p1
   ·rw[if_pos k2]at HC
    go_enter Tryz.func258,Tryz.ntmps258
    go_wp2_with fail
    refine(HN1.out _ (HB0.out _ _)).mono ?_;rintro e w' ⟨rfl,hw⟩;obtain rfl:=hw.symm;go_wp2_with fail
    refine(HN2.out _ (HB0.out _ _)).mono ?_;rintro e w' ⟨rfl,hw⟩;obtain rfl:=hw.symm;go_wp2_with fail
    go_ret
    exact⟨zE HC.out.symm,HB0.out _ _⟩
   ·rw[if_neg k2]at HC
    go_enter Tryz.func258,Tryz.ntmps258
    go_wp2_with fail
    refine(HN1.out _ (HB0.out _ _)).mono ?_;rintro e w' ⟨rfl,hw⟩;obtain rfl:=hw.symm;go_wp2_with fail
    refine(HN2.out _ (HB0.out _ _)).mono ?_;rintro e w' ⟨rfl,hw⟩;obtain rfl:=hw.symm;go_wp2_with fail
    go_ret
    exact⟨zE HC.out.symm,HB0.out _ _⟩
structure Jn where
 name:Bs
 isNum:Bool
 value:Int
def nD(f:Jn):Value:=.agg #[.string ⟨f.name.toArray⟩,.bool f.isNum,.int .i64 f.value]
def rR(t:PT):Bool:=decide (t.k=2)&&(decide (t.s=[121,101,115]) || decide (t.s=[110,111]))
def qZ(n v:PT):Jn:=if v.k=3 then ⟨n.s,true,v.v⟩ else ⟨n.s,false,if v.s=[121,101,115] then 1 else 0⟩
def lS(f:Jn)(x:yU):Bool:=if x.isFlag then !f.isNum else f.isNum&&(decide (x.low<=f.value)&&decide (f.value<=x.high))
theorem QT(w:World)(t:PT)(s:Bs):Calls Tryz.prog 225 #[Qc t,.string ⟨s.toArray⟩] w fun e w'=>e=.returned (.bool (decide (t.k=4)&&decide (t.s=s)))/\Below w.heap.size w w':=by
 obtain⟨k,x,v,p⟩:=t;simp only[Qc];by_cases k1:k=4
 ·by_cases k2:x=s
  ·have HA:Hid ((decide (k=4)&&decide (x=s))=true):=by unfold Hid;rw[decide_eq_true k1,decide_eq_true k2];rfl
   have b2:(x==s)=true:=by simpa using k2
   generalize (decide (k=4)&&decide (x=s))=a at *;clear k2
   go_enter Tryz.func225,Tryz.ntmps225
   go_wp2_with fail
   go_ret
   exact⟨zE HA.out.symm,(Below.refl _ _).alloc (Nat.le_refl _) _⟩
  ·have HA:Hid ((decide (k=4)&&decide (x=s))=false):=by unfold Hid;rw[decide_eq_false k2];simp
   have b2:(x==s)=false:=by simpa using k2
   generalize (decide (k=4)&&decide (x=s))=a at *;clear k2
   go_enter Tryz.func225,Tryz.ntmps225
   go_wp2_with fail
   go_ret
   exact⟨zE HA.out.symm,(Below.refl _ _).alloc (Nat.le_refl _) _⟩
 ·have HA:Hid ((decide (k=4)&&decide (x=s))=false):=by unfold Hid;rw[decide_eq_false k1];rfl
  have b1:(k==4)=false:=by simpa using k1
  generalize (decide (k=4)&&decide (x=s))=a at *;clear k1
  go_enter Tryz.func225,Tryz.ntmps225
  go_wp2_with fail
  go_ret
  exact⟨zE HA.out.symm,(Below.refl _ _).alloc (Nat.le_refl _) _⟩
theorem Vc(w:World)(t:PT):Calls Tryz.prog 226 #[Qc t] w fun e w'=>e=.returned (.bool (rR t))/\Below w.heap.size w w':=by
 have HA:Hid (rR t=(decide (t.k=2)&&(decide (t.s=[121,101,115]) || decide (t.s=[110,111])))):=rfl;generalize rR t=ans at *;obtain⟨k,x,v,p⟩:=t;simp only[Qc]at *;by_cases k1:k=2
 ·by_cases k2:x=[121,101,115]
  ·rw[decide_eq_true k1,decide_eq_true k2]at HA
   have b2:(x==[121,101,115])=true:=by simpa using k2
   clear k2
   go_enter Tryz.func226,Tryz.ntmps226
   go_wp2_with fail
   go_ret
   exact⟨zE HA.out.symm,(Below.refl _ _).alloc (Nat.le_refl _) _⟩
  ·rw[decide_eq_true k1,decide_eq_false k2,Bool.true_and,Bool.false_or]at HA
   have b2:(x==[121,101,115])=false:=by simpa using k2
   have hd:decide (x=[110,111])=(x==[110,111]):=by rw[Bool.eq_iff_iff];simp
   rw[hd]at HA;clear k2 hd
   go_enter Tryz.func226,Tryz.ntmps226
   go_wp2_with fail
   go_ret
   exact⟨zE HA.out.symm,(Below.refl _ _).alloc (Nat.le_refl _) _⟩
 ·rw[decide_eq_false k1,Bool.false_and]at HA
  have b1:(k==2)=false:=by simpa using k1
  clear k1
  go_enter Tryz.func226,Tryz.ntmps226
  go_wp2_with fail
  go_ret
  exact⟨zE HA.out.symm,(Below.refl _ _).alloc (Nat.le_refl _) _⟩
theorem zEE(w:World)(f:Jn)(x:yU):Calls Tryz.prog 178 #[nD f,CH x] w fun e w'=>e=.returned (.bool (lS f x))/\Below w.heap.size w w':=by
 have HA:Hid (lS f x=if x.isFlag then !f.isNum else f.isNum&&(decide (x.low<=f.value)&&decide (f.value<=x.high))):=rfl;have HB0:=zA (show ∀o1 o2,Below w.heap.size w ((w.alloc o1).alloc o2) from fun o1 o2=>((Below.refl _ _).alloc (Nat.le_refl _) _).alloc (by simp) _);generalize lS f x=ans at *;obtain⟨fn,fi,fv⟩:=f;obtain⟨xn,xf,xl,xh⟩:=x;simp only[nD,CH]at *;cases xf
 ·simp only[Bool.false_eq_true,if_false]at HA
  cases fi
  ·simp only[Bool.false_and]at HA
   go_enter Tryz.func178,Tryz.ntmps178
   go_wp2_with fail
   go_ret
   exact⟨zE HA.out.symm,HB0.out _ _⟩
  ·simp only[Bool.true_and]at HA
   by_cases k1:xl<=fv
   ·rw[decide_eq_true k1,Bool.true_and]at HA
    go_enter Tryz.func178,Tryz.ntmps178
    go_wp2_with fail
    go_ret
    exact⟨zE HA.out.symm,HB0.out _ _⟩
   ·rw[decide_eq_false k1,Bool.false_and]at HA
    have k2:decide (xl<=fv)=false:=decide_eq_false k1
    go_enter Tryz.func178,Tryz.ntmps178
    go_wp2_with fail
    go_ret
    exact⟨zE HA.out.symm,HB0.out _ _⟩
 ·simp only[if_true]at HA
  go_enter Tryz.func178,Tryz.ntmps178
  go_wp2_with fail
  go_ret
  exact⟨zE HA.out.symm,HB0.out _ _⟩
theorem JT:(Tryz.prog.info? 311).map (·.size)=some 3:=by kernel_rfl
theorem uy(w:World)(n v:PT):Calls Tryz.prog 176 #[Qc n,Qc v] w fun e w'=>e=.returned (nD (qZ n v))/\Below w.heap.size w w':=by
 have HA:Hid (qZ n v=if v.k=3 then ⟨n.s,true,v.v⟩ else ⟨n.s,false,if v.s=[121,101,115] then 1 else 0⟩):=rfl;generalize qZ n v=ans at *;obtain⟨nk,ns,nv,np⟩:=n;obtain⟨vk,vs,vv,vp⟩:=v;simp only[Qc]at *;by_cases k1:vk=3
 ·rw[if_pos k1]at HA
  subst k1
  go_enter Tryz.func176,Tryz.ntmps176
  go_wp2_with fail
  refine bodyPost_ret (v:=nD ⟨ns,true,vv⟩) (results_cell_row Tryz.results176 _ _ (w.heap.size+1+1) 311 #[.string ⟨ns.toArray⟩,.bool true,.int .i64 vv] (0,0) _ rfl (by repeat (with_reducible first|(refine uZ _ _ _ ?_;simp;done)|refine zQ ?_)) Tryz.underlying311 rfl JT) rfl ⟨by rw[HA.out],((((Below.refl _ _).alloc (Nat.le_refl _) _).alloc (by simp) _).alloc (by simp;omega) _)⟩
 ·rw[if_neg k1]at HA
  have b1:(vk==3)=false:=by simpa using k1
  clear k1;by_cases k2:vs=[121,101,115]
  ·rw[if_pos k2]at HA
   have b2:(vs==[121,101,115])=true:=by simpa using k2
   clear k2
   go_enter Tryz.func176,Tryz.ntmps176
   go_wp2_with fail
   refine bodyPost_ret (v:=nD ⟨ns,false,1⟩) (results_cell_row Tryz.results176 _ _ (w.heap.size+1+1) 311 #[.string ⟨ns.toArray⟩,.bool false,.int .i64 1] (0,0) _ rfl (by repeat (with_reducible first|(refine uZ _ _ _ ?_;simp;done)|refine zQ ?_)) Tryz.underlying311 rfl JT) rfl ⟨by rw[HA.out],(((((Below.refl _ _).alloc (Nat.le_refl _) _).alloc (by simp) _).alloc (by simp;omega) _).alloc (by simp;omega) _)⟩
  ·rw[if_neg k2]at HA
   have b2:(vs==[121,101,115])=false:=by simpa using k2
   clear k2
   go_enter Tryz.func176,Tryz.ntmps176
   go_wp2_with fail
   refine bodyPost_ret (v:=nD ⟨ns,false,0⟩) (results_cell_row Tryz.results176 _ _ (w.heap.size+1+1) 311 #[.string ⟨ns.toArray⟩,.bool false,.int .i64 0] (0,0) _ rfl (by repeat (with_reducible first|(refine uZ _ _ _ ?_;simp;done)|refine zQ ?_)) Tryz.underlying311 rfl JT) rfl ⟨by rw[HA.out],(((((Below.refl _ _).alloc (Nat.le_refl _) _).alloc (by simp) _).alloc (by simp;omega) _).alloc (by simp;omega) _)⟩
theorem x7(w:World)(ia ha va ea:Option Addr)(ic hc vc ec:Nat)(s:vQ)(hs:List Bool)(x:lD)(h:aJ w ia ha va s)(he:fS w ea hs) :
 Calls Tryz.prog 252 #[oN x,G9 ia ha va ic hc vc s,.slice ea hs.length ec] w fun e w'=>e=.returned (.bool (Bn x s hs))/\Below w.heap.size w w':=by
 have HL:=zA (fun w' (hb:Below w.heap.size w w')=>sP w' ea ec hs x.left (he.below hb));have HR:=zA (fun w' (hb:Below w.heap.size w w')=>sP w' ea ec hs x.right (he.below hb));have HH:=zA (fun w' (hb:Below w.heap.size w w')=>sP w' ha hc s.has x.place (h.has.below hb));have HN:=zA (fun w' (hb:Below w.heap.size w w')=>JB w' ia ic s.inputs x.place (h.inputs.below hb));have HC:=zA (fun w' (hb:Below w.heap.size w w')=>BY w' ia ha va ic hc vc s x (h.below hb))
 have HA:Hid (Bn x s hs=if x.kind=1 then cI hs x.left || cI hs x.right else if x.kind=2 then cI hs x.left&&cI hs x.right else if x.kind=3 then !cI hs x.left
  else if x.kind=4 then true else if x.kind=5 then cI s.has x.place else if x.kind=6 then decide (jU s.inputs x.place=1) else if x.kind=7 then Ca x s else false):=rfl
 have HB0:=zA (show ∀o1 o2,Below w.heap.size w ((w.alloc o1).alloc o2) from fun o1 o2=>((Below.refl _ _).alloc (Nat.le_refl _) _).alloc (by simp) _);generalize Bn x s hs=ans at *;generalize Ca x s=cm at *;obtain⟨kd,lf',rg',pl,two,ot,nu,le,eq,mo⟩:=x;simp only[oN,G9]at *;clear h he;generalize cI hs lf'=pL at *;generalize cI hs rg'=pR at *;generalize cI s.has pl=pH at *;generalize jU s.inputs pl=pN at *;by_cases k1:kd=1
 ·subst k1
  rw[if_pos rfl]at HA;cases pL
  ·simp only[Bool.false_or]at HA
   go_enter Tryz.func252,Tryz.ntmps252
   go_wp2_with fail
   refine(HL.out _ (HB0.out _ _)).mono ?_;rintro e w' ⟨rfl,hw⟩;obtain rfl:=hw.symm;go_wp2_with fail
   refine(HR.out _ (HB0.out _ _)).mono ?_;rintro e w' ⟨rfl,hw⟩;obtain rfl:=hw.symm;go_wp2_with fail
   go_ret
   exact⟨zE HA.out.symm,HB0.out _ _⟩
  ·simp only[Bool.true_or]at HA
   go_enter Tryz.func252,Tryz.ntmps252
   go_wp2_with fail
   refine(HL.out _ (HB0.out _ _)).mono ?_;rintro e w' ⟨rfl,hw⟩;obtain rfl:=hw.symm;go_wp2_with fail
   go_ret
   exact⟨zE HA.out.symm,HB0.out _ _⟩
 by_cases k2:kd=2
 ·subst k2
  rw[if_neg (by decide),if_pos rfl]at HA;cases pL
  ·simp only[Bool.false_and]at HA
   go_enter Tryz.func252,Tryz.ntmps252
   go_wp2_with fail
   refine(HL.out _ (HB0.out _ _)).mono ?_;rintro e w' ⟨rfl,hw⟩;obtain rfl:=hw.symm;go_wp2_with fail
   go_ret
   exact⟨zE HA.out.symm,HB0.out _ _⟩
  ·simp only[Bool.true_and]at HA
   go_enter Tryz.func252,Tryz.ntmps252
   go_wp2_with fail
   refine(HL.out _ (HB0.out _ _)).mono ?_;rintro e w' ⟨rfl,hw⟩;obtain rfl:=hw.symm;go_wp2_with fail
   refine(HR.out _ (HB0.out _ _)).mono ?_;rintro e w' ⟨rfl,hw⟩;obtain rfl:=hw.symm;go_wp2_with fail
   go_ret
   exact⟨zE HA.out.symm,HB0.out _ _⟩
 by_cases k3:kd=3
 ·subst k3
  rw[if_neg (by decide),if_neg (by decide),if_pos rfl]at HA
  go_enter Tryz.func252,Tryz.ntmps252
  go_wp2_with fail
  refine(HL.out _ (HB0.out _ _)).mono ?_;rintro e w' ⟨rfl,hw⟩;obtain rfl:=hw.symm;go_wp2_with fail
  go_ret
  exact⟨zE HA.out.symm,HB0.out _ _⟩
 by_cases k4:kd=4
 ·subst k4
  rw[if_neg (by decide),if_neg (by decide),if_neg (by decide),if_pos rfl]at HA
  go_enter Tryz.func252,Tryz.ntmps252
  go_wp2_with fail
  go_ret
  exact⟨zE HA.out.symm,HB0.out _ _⟩
 by_cases k5:kd=5
 ·subst k5
  rw[if_neg (by decide),if_neg (by decide),if_neg (by decide),if_neg (by decide),if_pos rfl]at HA
  go_enter Tryz.func252,Tryz.ntmps252
  go_wp2_with fail
  refine(HH.out _ (HB0.out _ _)).mono ?_;rintro e w' ⟨rfl,hw⟩;obtain rfl:=hw.symm;go_wp2_with fail
  go_ret
  exact⟨zE HA.out.symm,HB0.out _ _⟩
 by_cases k6:kd=6
 ·subst k6
  rw[if_neg (by decide),if_neg (by decide),if_neg (by decide),if_neg (by decide),if_neg (by decide),if_pos rfl]at HA;have hd:decide (pN=1)=(pN==1):=by rw[Bool.eq_iff_iff];simp
  rw[hd]at HA;clear hd
  go_enter Tryz.func252,Tryz.ntmps252
  go_wp2_with fail
  refine(HN.out _ (HB0.out _ _)).mono ?_;rintro e w' ⟨rfl,hw⟩;obtain rfl:=hw.symm;go_wp2_with fail
  go_ret
  exact⟨zE HA.out.symm,HB0.out _ _⟩
 by_cases k7:kd=7
 ·subst k7
  rw[if_neg (by decide),if_neg (by decide),if_neg (by decide),if_neg (by decide),if_neg (by decide),if_neg (by decide),if_pos rfl]at HA
  go_enter Tryz.func252,Tryz.ntmps252
  go_wp2_with fail
  refine(HC.out _ (HB0.out _ _)).mono ?_;rintro e w2 ⟨rfl,hb2⟩;have HB2:Hid (Below w.heap.size w w2):=(HB0.out _ _).trans (hb2.mono (HB0.out _ _).size);clear hb2;go_wp2_with fail
  go_ret
  exact⟨zE HA.out.symm,HB2.out⟩
 ·rw[if_neg k1,if_neg k2,if_neg k3,if_neg k4,if_neg k5,if_neg k6,if_neg k7]at HA
  have b1:(kd==1)=false:=by simpa using k1
  have b2:(kd==2)=false:=by simpa using k2
  have b3:(kd==3)=false:=by simpa using k3
  have b4:(kd==4)=false:=by simpa using k4
  have b5:(kd==5)=false:=by simpa using k5
  have b6:(kd==6)=false:=by simpa using k6
  have b7:(kd==7)=false:=by simpa using k7
  clear k1 k2 k3 k4 k5 k6 k7
  go_enter Tryz.func252,Tryz.ntmps252
  go_wp2_with fail
  go_ret
  exact⟨zE HA.out.symm,HB0.out _ _⟩
def nW(s:vQ):List lD->List Bool->List Bool
 | [],hs=>hs
 | x::r,hs=>nW s r (hs++[Bn x s hs])
def mK(s:vQ)(l:List cS):Bool:=l.all fun p => !(decide (p.kind=3) && !cI s.has p.place)
def XT(r:rK)(s:vQ):Bool:=mK s r.sum&&cI (nW s r.guard []) r.root
theorem F9(s:vQ)(l:List lD)(i:Nat)(hs:List Bool)(h:i<l.length):nW s (l.drop i) hs=nW s (l.drop (i+1)) (hs++[Bn (l.getD i Km) s hs]):=by
 rw[List.drop_eq_getElem_cons h,nW];simp[List.getD,h]
theorem JM(hs:List Bool)(n:Nat)(a:Int):cI (hs++List.replicate n false) a=cI hs a:=by
 unfold cI;by_cases h0:0<=a
 ·by_cases h1:a<hs.length
  ·rw[decide_eq_true h1,decide_eq_true (show a<((hs++List.replicate n false).length:Int) by simp;omega)]
   simp[List.getD,List.getElem?_append_left (show a.toNat<hs.length by omega)]
  ·rw[decide_eq_false h1]
   have:(hs++List.replicate n false).getD a.toNat false=false:=by
    rw[List.getD,List.getElem?_append_right (by omega),List.getElem?_replicate];split <;> rfl
   rw[this];simp
 ·rw[decide_eq_false h0];rfl
theorem zAK(x:lD)(s:vQ)(hs:List Bool)(n:Nat):Bn x s (hs++List.replicate n false)=Bn x s hs:=by
 unfold Bn;rw[JM,JM]
theorem xV.bools{w:World}{g:Nat}{l:List Bool}(h:xV w g l)(hf:l.length<=10000):fS w (some ⟨g,0,none⟩) l :=
 ⟨.inr ⟨g,rfl,fun j hj=>by rw[vJ]at hj;rw[h.cell hj,Je l j hj]⟩,hf⟩
theorem zAC(hs:List Bool)(i n:Nat)(z:Bool)(h:hs.length=i)(hn:i<n):(hs++List.replicate (n-i) false).set i z=(hs++[z])++List.replicate (n-(i+1)) false:=by
 rw[List.set_append_right _ _ (by omega),show i-hs.length=0 by omega,show n-i=(n-(i+1))+1 by omega,List.replicate_succ,List.set_cons_zero];simp
theorem Bv(w:World)(ia ha va:Option Addr)(ic hc vc:Nat)(s:vQ)(x:MX)(hx:mF w x)(h:aJ w ia ha va s) :
 Calls Tryz.prog 227 #[oM x,G9 ia ha va ic hc vc s] w fun e w'=>e=.returned (.bool (XT x.1 s))/\Below w.heap.size w w':=by
 obtain⟨pa,pc,e1,hp⟩:=hx.sum;obtain⟨ga,gc,e2,hg⟩:=hx.guard;have hfp:=hx.few1;have hfg:=hx.few2;have HP:=zA hp.cel;have HG:=zA hg.cel;have HS:=zA h;have HA:Hid (XT x.1 s=(mK s x.1.sum&&cI (nW s x.1.guard []) x.1.root)):=rfl;obtain⟨⟨lab,cc,ps,gd,root⟩,pv,gv⟩:=x;simp only at e1 e2 HP HG hfp hfg HA;subst e1 e2;simp only[oM,G9];clear hx hp hg h;generalize XT ⟨lab,cc,ps,gd,root⟩ s=ans at *
 go_enter Tryz.func227,Tryz.ntmps227
 go_wp2_with fail
 generalize hO1:Obj.cells #[.string ⟨lab.toArray⟩,.int .i64 cc,.slice pa ps.length pc,.slice ga gd.length gc,.int .i64 root] 176=O1 at *;generalize hO2:Obj.cells #[.slice ia s.inputs.length ic,.slice ha s.has.length hc,.slice va s.values.length vc] 182=O2 at *;have y0:((w.alloc O1).alloc O2).heap[w.heap.size]? = some O1:=zQ (zS _ _)
 have y1:((w.alloc O1).alloc O2).heap[w.heap.size+1]? = some O2:=by
  have h9:=zS (w.alloc O1) O2;rw[show (w.alloc O1).heap.size=w.heap.size+1 by simp]at h9;exact h9
 have hb0:Below w.heap.size w ((w.alloc O1).alloc O2):=((Below.refl _ _).alloc (Nat.le_refl _) _).alloc (by simp) _;have hs0:((w.alloc O1).alloc O2).heap.size=w.heap.size+2:=by simp
 have HO1:=zA hO1;have HO2:=zA hO2;clear hO1 hO2;generalize (w.alloc O1).alloc O2=w0 at *;have HY0:=zA y0;have HY1:=zA y1;have HB0:=zA hb0;clear y0 y1 hb0
 go_loopw [14] (fun iv wr=>∃(i:Nat),i<=ps.length/\iv=.int .i64 i/\Hid (Below w0.heap.size w0 wr)/\Hid ((mK s (ps.drop i)&&cI (nW s gd []) root)=ans)) (fun iv _=>ps.length-(intOf iv).toNat)
 case atStart=>exact⟨0,Nat.zero_le _,rfl,zA (Below.refl _ _),zA HA.out.symm⟩
 case round =>
  obtain⟨i,hi,rfl,HB,HE⟩:=hrel;have zGK:=HB.out.size;have zGJ:Hid (Below w.heap.size w wr):=HB0.out.trans (HB.out.mono (by omega));have x1:wr.heap[w.heap.size+1]? = some O2:=by rw[HB.out.block _ (by omega)];exact HY1.out
  rw[<-HO2.out]at x1;have x0:wr.heap[w.heap.size]? = some O1:=by rw[HB.out.block _ (by omega)];exact HY0.out
  rw[<-HO1.out]at x0;by_cases zFY:i<ps.length
  ·have hpr:=HP.out.below zGJ.out
   obtain⟨gp,rfl,q0⟩:=hpr.at ((yQ bM 3 (fun _=>rfl) yz ps i 0 zFY (by decide)).trans rfl);have q1:=(hpr.at ((yQ bM 3 (fun _=>rfl) yz ps i 1 zFY (by decide)).trans rfl)).elim fun g' h=>(show gp=g' by simpa using h.1) ▸ h.2;have q2:=(hpr.at ((yQ bM 3 (fun _=>rfl) yz ps i 2 zFY (by decide)).trans rfl)).elim fun g' h=>(show gp=g' by simpa using h.1) ▸ h.2;rw[Nat.add_zero]at q0;have c1:=zF x1 1;simp only[List.getElem?_toArray,List.getElem?_cons_zero,List.getElem?_cons_succ]at c1;have hE:=HE.out;unfold mK at hE;rw[VR _ yz _ i zFY]at hE;have HE2:=zA hE;have lgp:=yT q0;have mgp:wr.heap.size≠gp:=by omega
   have m1:wr.heap.size≠w.heap.size+1:=by omega
   have m2:w.heap.size+1<wr.heap.size:=by omega
   have HI:=zA (fun w' (hb:Below w.heap.size w w') a=>sP w' ha hc s.has a (HS.out.has.below hb));clear HE hE hpr x0 x1;generalize ps.getD i yz=p at *;obtain⟨pk,pn,pl⟩:=p;simp only at q0 q1 q2 HE2;by_cases k1:pk=3
   ·subst k1
    have HI1:=zA (fun w' hb=>HI.out w' hb pl);clear HI;generalize cI s.has pl=tv at *;cases tv
    ·have HE3:Hid (ans=false):=by have:=HE2.out;simpa[Hid] using this.symm
     go_wp2_with fail
     refine(HI1.out _ (zGJ.out.alloc (by omega) _)).mono ?_;rintro e w' ⟨rfl,hw⟩;obtain rfl:=hw.symm;go_wp2_with fail
     go_ret
     exact⟨zE HE3.out.symm,zGJ.out.alloc (by omega) _⟩
    ·have HE3:Hid ((mK s (ps.drop (i+1))&&cI (nW s gd []) root)=ans):=by have:=HE2.out;simpa[mK,Hid] using this
     go_wp2_with fail
     refine(HI1.out _ (zGJ.out.alloc (by omega) _)).mono ?_;rintro e w' ⟨rfl,hw⟩;obtain rfl:=hw.symm;go_wp2_with fail
     go_roundw
     case rel=>exact⟨i+1,by omega,by go_num,zA (HB.out.alloc zGK _),HE3⟩
     case measure=>simp[intOf];omega
   ·have HE3:Hid ((mK s (ps.drop (i+1))&&cI (nW s gd []) root)=ans):=by have:=HE2.out;simpa[mK,Hid,k1] using this
    have b1:(pk==3)=false:=by simpa using k1
    clear k1;go_wp2_with fail
    go_roundw
    case rel=>exact⟨i+1,by omega,by go_num,zA (HB.out.alloc zGK _),HE3⟩
    case measure=>simp[intOf];omega
  ·have HE3:Hid (cI (nW s gd []) root=ans):=by have:=HE.out;rw[List.drop_eq_nil_of_le (by omega)]at this;simpa[mK,Hid] using this
   have c3:=zF x0 3;have c4:=zF x0 4;simp only[List.getElem?_toArray,List.getElem?_cons_zero,List.getElem?_cons_succ]at c3 c4;have m2:w.heap.size<wr.heap.size:=by omega
   have m3:wr.heap.size≠w.heap.size:=by omega
   clear HE;have zGP:=zGJ;have hsw:w.heap.size+2<=wr.heap.size:=by omega
   have HX0:=zA x0;have HX1:=zA x1;have hmk:=run_make_row' (P:=Tryz.prog) 180 4 (.bool false) 1 Tryz.underlying180 mA rfl .i64 .i64 gd.length (by omega) (by omega);rw[tV]at hmk;clear x0 x1;go_wp2_with fail
   have HM0:Hid (xV (wr.alloc (.cells (gC (List.replicate gd.length false)) 4)) wr.heap.size ([]++List.replicate (gd.length-0) false)):=zS _ _;clear c3 c4 m2 m3 hmk;generalize hwq:wr=wq at *;clear hwq
   go_loopw [37] (fun iv wr=>∃(i:Nat) (hs:List Bool),i<=gd.length/\Hid (hs.length=i)/\iv=.int .i64 i/\Hid (xV wr wq.heap.size (hs++List.replicate (gd.length-i) false))/\Hid (Below wq.heap.size wq wr)/\wq.heap.size<wr.heap.size/\Hid (nW s (gd.drop i) hs=nW s gd [])) (fun iv _=>gd.length-(intOf iv).toNat)
   case atStart=>exact⟨0,[],Nat.zero_le _,zA rfl,rfl,HM0,zA ((Below.refl _ _).alloc (Nat.le_refl _) _),by simp,zA rfl⟩
   case round =>
    obtain⟨i,hs,hi,HHl,rfl,HM,HBz,hszz,HEz⟩:=hrel;have HBy:Hid (Below w.heap.size w wr):=zGP.out.trans (HBz.out.mono (by omega));have x0:wr.heap[w.heap.size]? = _:=(HBz.out.block _ (by omega)).trans HX0.out;have x1:wr.heap[w.heap.size+1]? = _:=(HBz.out.block _ (by omega)).trans HX1.out;have zG4:(hs++List.replicate (gd.length-i) false).length=gd.length:=by have:=HHl.out;simp;omega
    have HLen:=zA zG4;have HBo:Hid (fS wr (some ⟨wq.heap.size,0,none⟩) (hs++List.replicate (gd.length-i) false)):=HM.out.bools (by rw[zG4];exact hfg);clear zG4;by_cases zGS:i<gd.length
    ·have hpr:=HG.out.below HBy.out
     obtain⟨gp,rfl,q0⟩:=hpr.at ((yQ pT 10 (fun _=>rfl) Km gd i 0 zGS (by decide)).trans rfl);have q1:=(hpr.at ((yQ pT 10 (fun _=>rfl) Km gd i 1 zGS (by decide)).trans rfl)).elim fun g' h=>(show gp=g' by simpa using h.1) ▸ h.2;have q2:=(hpr.at ((yQ pT 10 (fun _=>rfl) Km gd i 2 zGS (by decide)).trans rfl)).elim fun g' h=>(show gp=g' by simpa using h.1) ▸ h.2;have q3:=(hpr.at ((yQ pT 10 (fun _=>rfl) Km gd i 3 zGS (by decide)).trans rfl)).elim fun g' h=>(show gp=g' by simpa using h.1) ▸ h.2;have q4:=(hpr.at ((yQ pT 10 (fun _=>rfl) Km gd i 4 zGS (by decide)).trans rfl)).elim fun g' h=>(show gp=g' by simpa using h.1) ▸ h.2;have q5:=(hpr.at ((yQ pT 10 (fun _=>rfl) Km gd i 5 zGS (by decide)).trans rfl)).elim fun g' h=>(show gp=g' by simpa using h.1) ▸ h.2;have q6:=(hpr.at ((yQ pT 10 (fun _=>rfl) Km gd i 6 zGS (by decide)).trans rfl)).elim fun g' h=>(show gp=g' by simpa using h.1) ▸ h.2;have q7:=(hpr.at ((yQ pT 10 (fun _=>rfl) Km gd i 7 zGS (by decide)).trans rfl)).elim fun g' h=>(show gp=g' by simpa using h.1) ▸ h.2;have q8:=(hpr.at ((yQ pT 10 (fun _=>rfl) Km gd i 8 zGS (by decide)).trans rfl)).elim fun g' h=>(show gp=g' by simpa using h.1) ▸ h.2;have q9:=(hpr.at ((yQ pT 10 (fun _=>rfl) Km gd i 9 zGS (by decide)).trans rfl)).elim fun g' h=>(show gp=g' by simpa using h.1) ▸ h.2;rw[Nat.add_zero]at q0;have d0:=zF x1 0;have d1:=zF x1 1;have d2:=zF x1 2;simp only[List.getElem?_toArray,List.getElem?_cons_zero,List.getElem?_cons_succ]at d0 d1 d2;have hE:=HEz.out;rw[F9 s gd i hs zGS]at hE;have HE4:=zA hE;have lgp:=yT q0;have mgp:wr.heap.size≠gp:=by omega
     have m1:wr.heap.size≠w.heap.size+1:=by omega
     have m2:w.heap.size+1<wr.heap.size:=by omega
     have HHo:Hid (∀o,Calls Tryz.prog 252 #[oN (gd.getD i Km),G9 ia ha va ic hc vc s,.slice (some ⟨wq.heap.size,0,none⟩) gd.length gd.length] (wr.alloc o) fun e w'=>e=.returned (.bool (Bn (gd.getD i Km) s hs))/\Below (wr.alloc o).heap.size (wr.alloc o) w'):=fun o=>by
      have h9:=x7 (wr.alloc o) ia ha va (some ⟨wq.heap.size,0,none⟩) ic hc vc gd.length s (hs++List.replicate (gd.length-i) false) (gd.getD i Km) (HS.out.below (HBy.out.alloc (by omega) o)) (HBo.out.below ((Below.refl _ _).alloc (Nat.le_refl _) o));rw[zAK,HLen.out]at h9;exact h9
     have HSt:Hid (∀z,(hs++List.replicate (gd.length-i) false).set i z=(hs++[z])++List.replicate (gd.length-(i+1)) false):=fun z=>zAC hs i gd.length z HHl.out zGS
     have HCl:Hid (∀w5,Below wr.heap.size wr w5->∃v,w5.cell? ⟨wq.heap.size,i,none⟩=some (.bool v)):=fun w5 hb5=>by
      exact⟨_,(hb5.cell (p:=⟨wq.heap.size,i,none⟩) hszz).trans (HM.out.cell (by rw[HLen.out];exact zGS))⟩
     clear hE hpr x0 x1 HEz;generalize gd.getD i Km=nd at *;generalize Bn nd s hs=z at *;obtain⟨n0,n1,n2,n3,n4,n5,n6,n7,n8,n9⟩:=nd;simp only[oN,G9]at HHo;simp only at q0 q1 q2 q3 q4 q5 q6 q7 q8 q9;go_wp2_with fail
     refine(HHo.out _).mono ?_;rintro e w5 ⟨rfl,hb5⟩;have HB5:Hid (Below wr.heap.size wr w5):=((Below.refl _ _).alloc (Nat.le_refl _) _).trans (hb5.mono (by simp));have HM5:=zA (HM.out.below HB5.out);have hs5:=HB5.out.size;obtain⟨oldz,hcz⟩:=HCl.out w5 HB5.out;have hfz:=HM5.out.free i;have HM6:Hid (xV (w5.setCell ⟨wq.heap.size,i,none⟩ (.bool z)) wq.heap.size ((hs++[z])++List.replicate (gd.length-(i+1)) false)):=by unfold Hid;rw[<-HSt.out z];exact HM5.out.set i z
     have HB6:Hid (Below wq.heap.size wq (w5.setCell ⟨wq.heap.size,i,none⟩ (.bool z))):=(HBz.out.trans (HB5.out.mono (Nat.le_of_lt hszz))).setCell (p:=⟨wq.heap.size,i,none⟩) (Nat.le_refl _) _;have hs6:wq.heap.size<(w5.setCell ⟨wq.heap.size,i,none⟩ (.bool z)).heap.size:=by have:=HM6.out.lt;exact this
     clear hb5 HHo HCl;go_wp2_with fail
     go_roundw
     case rel=>exact⟨i+1,hs++[z],by omega,zA (by have:=HHl.out;simp;omega),by go_num,HM6,HB6,hs6,HE4⟩
     case measure=>simp[intOf];omega
    ·have HE5:Hid (cI hs root=ans):=by have:=HEz.out;rw[List.drop_eq_nil_of_le (by omega)]at this;have h9:=HE3.out;rw[<-this]at h9;exact h9
     have d4:=zF x0 4;simp only[List.getElem?_toArray,List.getElem?_cons_zero,List.getElem?_cons_succ]at d4
     have HI:Hid (Calls Tryz.prog 251 #[.slice (some ⟨wq.heap.size,0,none⟩) gd.length gd.length,.int .i64 root] wr fun e w'=>e=.returned (.bool ans)/\w'=wr):=by
      have h9:=sP wr (some ⟨wq.heap.size,0,none⟩) gd.length (hs++List.replicate (gd.length-i) false) root HBo.out;rw[JM,HE5.out,HLen.out]at h9;exact h9
     clear x0 x1;go_wp2_with fail
     refine HI.out.mono ?_;rintro e w' ⟨rfl,hw⟩;obtain rfl:=hw.symm;go_wp2_with fail
     go_ret
     exact⟨rfl,HBy.out⟩
def gB(s:vQ)(p:cS):Int:=if p.kind=1 then p.num else if p.kind=2 then p.num*jU s.inputs p.place else if p.kind=3 then p.num*jU s.values p.place else 0
def dD(s:vQ):List cS->Int->Int
 | [],n=>n
 | p::r,n=>dD s r (n+gB s p)
def Yl(s:vQ)(l:List cS):Int:=dD s l 0
theorem U2(s:vQ)(l:List cS)(i:Nat)(n:Int)(h:i<l.length):dD s (l.drop i) n=dD s (l.drop (i+1)) (n+gB s (l.getD i yz)):=by
 rw[List.drop_eq_getElem_cons h,dD];simp[List.getD,h]
def Zu(s:vQ)(l:List cS):Prop:=l.length<=4/\∀p∈l,-tO<=gB s p/\gB s p<=tO
theorem zDU(w:World)(ia ha va:Option Addr)(ic hc vc:Nat)(s:vQ)(x:MX)(hx:mF w x)(h:aJ w ia ha va s)(zGF:Zu s x.1.sum) :
 Calls Tryz.prog 229 #[oM x,G9 ia ha va ic hc vc s] w fun e w'=>e=.returned (.int .i64 (Yl s x.1.sum))/\Below w.heap.size w w':=by
 obtain⟨pa,pc,e1,hp⟩:=hx.sum;obtain⟨ga,gc,e2,-⟩:=hx.guard;have HP:=zA hp.cel;have HS:=zA h;have h4:=zGF.1;have HOk:=zA zGF.2;obtain⟨⟨lab,cc,ps,gd,root⟩,pv,gv⟩:=x;simp only at e1 e2 HP HOk h4;subst e1 e2;simp only[oM,G9];clear hx hp h zGF
 go_enter Tryz.func229,Tryz.ntmps229
 go_wp2_with fail
 generalize hO1:Obj.cells #[.string ⟨lab.toArray⟩,.int .i64 cc,.slice pa ps.length pc,.slice ga gd.length gc,.int .i64 root] 176=O1 at *;generalize hO2:Obj.cells #[.slice ia s.inputs.length ic,.slice ha s.has.length hc,.slice va s.values.length vc] 182=O2 at *
 have y1:((w.alloc O1).alloc O2).heap[w.heap.size+1]? = some O2:=by
  have h9:=zS (w.alloc O1) O2;rw[show (w.alloc O1).heap.size=w.heap.size+1 by simp]at h9;exact h9
 have hb0:Below w.heap.size w ((w.alloc O1).alloc O2):=((Below.refl _ _).alloc (Nat.le_refl _) _).alloc (by simp) _;have hs0:((w.alloc O1).alloc O2).heap.size=w.heap.size+2:=by simp
 have HO2:=zA hO2;clear hO1 hO2;generalize (w.alloc O1).alloc O2=w0 at *;have HY1:=zA y1;have HB0:=zA hb0;clear y1 hb0
 go_loopw [5,11] (fun nv iv wr=>∃(i:Nat) (n:Int),i<=ps.length/\nv=.int .i64 n/\iv=.int .i64 i /\ -((i:Int)*tO)<=n/\n<=(i:Int)*tO/\Hid (Below w0.heap.size w0 wr)/\Hid (dD s (ps.drop i) n=Yl s ps)) (fun _ iv _=>ps.length-(intOf iv).toNat)
 case atStart=>exact⟨0,0,Nat.zero_le _,rfl,rfl,by simp,by simp,zA (Below.refl _ _),zA rfl⟩
 case round =>
  obtain⟨i,n,hii,rfl,rfl,hn1,hn2,HB,HE⟩:=hrel;have zGK:=HB.out.size;have zGJ:Hid (Below w.heap.size w wr):=HB0.out.trans (HB.out.mono (by omega));have x1:wr.heap[w.heap.size+1]? = some O2:=by rw[HB.out.block _ (by omega)];exact HY1.out
  rw[<-HO2.out]at x1;by_cases zFY:i<ps.length
  ·have hpr:=HP.out.below zGJ.out
   obtain⟨gp,rfl,q0⟩:=hpr.at ((yQ bM 3 (fun _=>rfl) yz ps i 0 zFY (by decide)).trans rfl);have q1:=(hpr.at ((yQ bM 3 (fun _=>rfl) yz ps i 1 zFY (by decide)).trans rfl)).elim fun g' h=>(show gp=g' by simpa using h.1) ▸ h.2;have q2:=(hpr.at ((yQ bM 3 (fun _=>rfl) yz ps i 2 zFY (by decide)).trans rfl)).elim fun g' h=>(show gp=g' by simpa using h.1) ▸ h.2;rw[Nat.add_zero]at q0;have c0:=zF x1 0;have c2:=zF x1 2;simp only[List.getElem?_toArray,List.getElem?_cons_zero,List.getElem?_cons_succ]at c0 c2;have hE:=HE.out;rw[U2 s ps i n zFY]at hE;obtain⟨p1,p2⟩:=HOk.out _ (mB yz zFY);have HE2:=zA hE;have lgp:=yT q0;have mgp:wr.heap.size≠gp:=by omega
   have m1:wr.heap.size≠w.heap.size+1:=by omega
   have m2:w.heap.size+1<wr.heap.size:=by omega
   have hm1:(i:Int)*tO+tO=((i+1:Nat):Int)*tO:=by rw[Int.natCast_add,Int.add_mul];simp
   have hm2:(i:Int)*tO<=3*tO:=by have:i=0\/i=1\/i=2\/i=3:=by omega
                                 rcases this with rfl|rfl|rfl|rfl <;> decide
   have HNi:=zA (fun w' (hb:Below w.heap.size w w') a=>JB w' ia ic s.inputs a (HS.out.inputs.below hb));have HNv:=zA (fun w' (hb:Below w.heap.size w w') a=>JB w' va vc s.values a (HS.out.values.below hb));clear HE hE hpr x1;generalize ps.getD i yz=p at *;obtain⟨pk,pn,pl⟩:=p;unfold gB at p1 p2 HE2;simp only at q0 q1 q2 p1 p2 HE2;have HN1:=zA (fun w' hb=>HNi.out w' hb pl);have HN2:=zA (fun w' hb=>HNv.out w' hb pl);clear HNi HNv;generalize jU s.inputs pl=vi at *;generalize jU s.values pl=vv at *;by_cases k1:pk=1
   ·subst k1
    simp only[if_true]at p1 p2 HE2;generalize ((i:Int)*tO)=iM at *;unfold tO at *;go_wp2_with fail
    go_roundw
    case rel=>exact⟨i+1,n+pn,by omega,by first|rfl|go_num,by go_num,by omega,by omega,zA (HB.out.alloc zGK _),HE2⟩
    case measure=>simp[intOf];omega
   rw[if_neg k1]at p1 p2 HE2;by_cases k2:pk=2
   ·subst k2
    simp only[if_true]at p1 p2 HE2;obtain⟨q,hq⟩:∃q,q=pn*vi:=⟨_,rfl⟩;rw[<-hq]at p1 p2 HE2;have hwq:wrap64 (pn*vi)=q:=by rw[<-hq];unfold wrap64;unfold tO at p1 p2;omega
    clear hq k1;generalize ((i:Int)*tO)=iM at *;unfold tO at *;go_wp2_with fail
    go_quiet (first|(go_at_call 253;refine Calls.quiet_of_same (HN1.out _ (yE (zGJ.out.alloc (by omega) _) _))))
    go_wp2_with fail
    go_roundw
    case rel=>exact⟨i+1,n+q,by omega,by first|rfl|go_num,by go_num,by omega,by omega,zA (yE (HB.out.alloc zGK _) _),HE2⟩
    case measure=>simp[intOf];omega
   rw[if_neg k2]at p1 p2 HE2;by_cases k3:pk=3
   ·subst k3
    simp only[if_true]at p1 p2 HE2;obtain⟨q,hq⟩:∃q,q=pn*vv:=⟨_,rfl⟩;rw[<-hq]at p1 p2 HE2;have hwq:wrap64 (pn*vv)=q:=by rw[<-hq];unfold wrap64;unfold tO at p1 p2;omega
    clear hq k1 k2;generalize ((i:Int)*tO)=iM at *;unfold tO at *;go_wp2_with fail
    go_quiet (first|(go_at_call 253;refine Calls.quiet_of_same (HN2.out _ (yE (zGJ.out.alloc (by omega) _) _))))
    go_wp2_with fail
    go_roundw
    case rel=>exact⟨i+1,n+q,by omega,by first|rfl|go_num,by go_num,by omega,by omega,zA (yE (HB.out.alloc zGK _) _),HE2⟩
    case measure=>simp[intOf];omega
   ·rw[if_neg k3,Int.add_zero]at HE2
    have b1:(pk==1)=false:=by simpa using k1
    have b2:(pk==2)=false:=by simpa using k2
    have b3:(pk==3)=false:=by simpa using k3
    clear k1 k2 k3;generalize ((i:Int)*tO)=iM at *;unfold tO at *;go_wp2_with fail
    go_roundw
    case rel=>exact⟨i+1,n,by omega,rfl,by go_num,by omega,by omega,zA (HB.out.alloc zGK _),HE2⟩
    case measure=>simp[intOf];omega
  ·have HE3:Hid (n=Yl s ps):=by have:=HE.out;rw[List.drop_eq_nil_of_le (by omega)]at this;exact this
   clear HE;go_wp2_with fail
   go_ret
   exact⟨yA HE3.out,zGJ.out⟩
end Go.Proofs.YtnbpdffdnphbeaaGreatDoor
