import Derived.Test.YtnbpdffdnphbeaaGreatDoorDApp
import Derived.Test.YtnbpdffdnphbeaaGreatDoorDFacts
set_option maxHeartbeats 2000000
set_option maxRecDepth 100000
namespace Go.Proofs.YtnbpdffdnphbeaaGreatDoor
open Go.RowKit
variable(us:List zG)(l:List vS)(names:List Bs)(w:World)(ins:Nat)
theorem Yb{α:Type}(p:α->Bool)(d:α)(l:List α)(i:Nat)(h:i<l.length):(l.drop i).any p=(p (l.getD i d) || (l.drop (i+1)).any p):=by
 rw[pb h,mt];simp[List.getD,h]
theorem Qu{α:Type}(p:α->Bool)(l:List α)(i:Nat)(h:¬i<l.length):(l.drop i).any p=false:=by
 rw[tu (by omega)];rfl
def oW(c:Int)(y:vS):Bool:=(decide (0<y.kind)&&(decide (y.kind<4)&&decide (y.a=c))) || (decide (y.kind=3)&&decide (y.b=c))
def qK(l:List vS)(c:Int):Bool:=l.any (oW c)
def tX(l:List kN)(c:Int):Bool:=l.any fun p=>decide (p.a=c)
def aI(l:List Int)(n:Int):Bool:=l.any fun x=>decide (x=n)
theorem YQ(a:Option Addr)(cp:Nat)(l:List vS)(c:Int)(h:uS w 275 a (kG l))(hf:l.length<=10000) :
 Calls Tryz.prog 194 #[.slice a l.length cp,.int .i64 c] w fun e w'=>e=.returned (.bool (qK l c))/\Below w.heap.size w w':=by
 have HP:=zA h.cel;have HE0:Hid (∀b,l.any (oW c)=b->qK l c=b):=fun b h=>h;generalize qK l c=ans at *;clear h
 go_enter Tryz.func194,Tryz.ntmps194
 go_wp2_with fail
 go_loopw [5] (fun iv wr=>∃(i:Nat),i<=l.length/\iv=.int .i64 i/\Hid (Below w.heap.size w wr)/\Hid ((l.drop i).any (oW c)=l.any (oW c))) (fun iv _=>l.length-(intOf iv).toNat)
 case atStart=>exact⟨0,tr _,rfl,zA (tj _ _),zA rfl⟩
 case round =>
  obtain⟨i,hi,rfl,HB,HE⟩:=hrel;have zIE:=HB.out.size;by_cases zI6:i<l.length
  ·have ii:(i:Int)<(l.length:Int):=by omega
   have zJ1:=HP.out.below HB.out;obtain⟨gp,rfl,q0⟩:=zJ1.at ((zV mH 5 (fun _=>rfl) Xd l i 0 zI6 (by decide)).trans rfl);have q1:=(zJ1.at ((zV mH 5 (fun _=>rfl) Xd l i 1 zI6 (by decide)).trans rfl)).elim fun g' h=>(show gp=g' by simpa using h.1) ▸ h.2;have q2:=(zJ1.at ((zV mH 5 (fun _=>rfl) Xd l i 2 zI6 (by decide)).trans rfl)).elim fun g' h=>(show gp=g' by simpa using h.1) ▸ h.2;have q3:=(zJ1.at ((zV mH 5 (fun _=>rfl) Xd l i 3 zI6 (by decide)).trans rfl)).elim fun g' h=>(show gp=g' by simpa using h.1) ▸ h.2;have q4:=(zJ1.at ((zV mH 5 (fun _=>rfl) Xd l i 4 zI6 (by decide)).trans rfl)).elim fun g' h=>(show gp=g' by simpa using h.1) ▸ h.2;rw[pq]at q0;have lgp:=zP q0;have mgp:wr.heap.size≠gp:=by omega
   have hE:=HE.out;rw[Yb (oW c) Xd l i zI6]at hE;have HE2:=zA hE;have HBa:Hid (∀o,Below w.heap.size w (wr.alloc o)):=fun o=>HB.out.alloc zIE o;have HTr:Hid (oW c (l.getD i Xd)=true->ans=true):=fun h2=>HE0.out _ (by rw[<-HE2.out,h2];rfl);have HFa:Hid (oW c (l.getD i Xd)=false->(l.drop (i+1)).any (oW c)=l.any (oW c)):=fun h2=>by have h1:=HE2.out;rw[h2,pm]at h1;exact h1
   clear HE hE zJ1 HE2;generalize l.getD i Xd=y at *;obtain⟨yk,ya,yb,ym,yn⟩:=y;unfold oW at HTr HFa;simp only at q0 q1 q2 q3 q4 HTr;by_cases k1:0<yk
   ·by_cases k2:yk<4
    ·by_cases k3:ya=c
     ·have HE3:=zA (HTr.out (by rw[tm k1,tm k2,tm k3];rfl))
      subst k3;clear HTr HFa;go_wp2_with fail
      go_ret
      exact⟨zE HE3.out.symm,HBa.out _⟩
     ·have b3:(ya==c)=false:=by simpa using k3
      by_cases k4:yk=3
      ·subst k4
       by_cases k5:yb=c
       ·have HE3:=zA (HTr.out (by rw[tm k5];simp))
        subst k5;clear HTr HFa k3;go_wp2_with fail
        go_ret
        exact⟨zE HE3.out.symm,HBa.out _⟩
       ·have b5:(yb==c)=false:=by simpa using k5
        have HE3:=zA (HFa.out (by simp only;rw[th k3,th k5];simp));clear HTr HFa k3 k5;go_wp2_with fail
        go_roundw
        case rel=>exact⟨i+1,by omega,by go_num,zA (HBa.out _),HE3⟩
        case measure=>simp[intOf];omega
      ·have b4:(yk==3)=false:=by simpa using k4
       have HE3:=zA (HFa.out (by simp only;rw[th k3,th k4];simp));clear HTr HFa k3 k4;go_wp2_with fail
       go_roundw
       case rel=>exact⟨i+1,by omega,by go_num,zA (HBa.out _),HE3⟩
       case measure=>simp[intOf];omega
    ·have k4:¬yk=3:=by omega
     have b4:(yk==3)=false:=by simpa using k4
     have HE3:=zA (HFa.out (by simp only;rw[th k2,th k4];simp));clear HTr HFa k4;go_wp2_with fail
     go_roundw
     case rel=>exact⟨i+1,by omega,by go_num,zA (HBa.out _),HE3⟩
     case measure=>simp[intOf];omega
   ·have k4:¬yk=3:=by omega
    have b4:(yk==3)=false:=by simpa using k4
    have HE3:=zA (HFa.out (by simp only;rw[th k1,th k4];simp));clear HTr HFa k4;go_wp2_with fail
    go_roundw
    case rel=>exact⟨i+1,by omega,by go_num,zA (HBa.out _),HE3⟩
    case measure=>simp[intOf];omega
  ·have ii:¬(i:Int)<(l.length:Int):=by omega
   have HE3:Hid (ans=false):=HE0.out _ (by rw[<-HE.out];exact Qu _ _ _ zI6);go_wp2_with fail
   go_ret
   exact⟨zE HE3.out.symm,HB.out⟩
theorem VE(x:RX)(c:Int)(hx:nU w x) :
 Calls Tryz.prog 137 #[Qm x,.int .i64 c] w fun e w'=>e=.returned (.bool (tX x.1.parts c))/\Below w.heap.size w w':=by
 obtain⟨pa,pc,e1,hp⟩:=hx.parts;obtain⟨sa,sc,e2,-⟩:=hx.steps;have HP:=zA hp.cel;have zII:=hx.few1;obtain⟨⟨lab,hd,ps,ss⟩,pv,sv⟩:=x;simp only at e1 e2 HP zII;subst e1 e2;simp only[Qm];have HE0:Hid (∀b,ps.any (fun p=>decide (p.a=c))=b->tX ps c=b):=fun b h=>h;generalize tX ps c=ans at *;clear hx hp
 go_enter Tryz.func137,Tryz.ntmps137
 go_wp2_with fail
 go_loopw [5] (fun iv wr=>∃(i:Nat),i<=ps.length/\iv=.int .i64 i/\Hid (Below w.heap.size w wr)/\Hid (wr.heap[w.heap.size]? = some (.cells #[.string ⟨lab.toArray⟩,.int .i64 hd,.slice pa ps.length pc,.slice sa ss.length sc] 115 (0,0)))/\Hid ((ps.drop i).any (fun p=>decide (p.a=c))=ps.any (fun p=>decide (p.a=c)))) (fun iv _=>ps.length-(intOf iv).toNat)
 case atStart=>exact⟨0,tr _,rfl,zA (ge (t9 _) _),zA (zM _ _),zA rfl⟩
 case round =>
  obtain⟨i,hi,rfl,HB,HBx,HE⟩:=hrel;have bx2:=zD HBx.out 2;simp only[cy,cg,cw]at bx2;by_cases zI6:i<ps.length
  ·have ii:(i:Int)<(ps.length:Int):=by omega
   obtain⟨gp,rfl,q0⟩:=(HP.out.below HB.out).at ((zV gM 2 (fun _=>rfl) zGN ps i 0 zI6 (by decide)).trans rfl);rw[pq]at q0;have hE:=HE.out;rw[Yb (fun p=>decide (p.a=c)) zGN ps i zI6]at hE;have HE2:=zA hE;clear HE hE;generalize ps.getD i zGN=y at *;obtain⟨ya,yn⟩:=y;simp only at q0 HE2;by_cases k:ya=c
   ·have HE3:Hid (ans=true):=HE0.out _ (by rw[<-HE2.out,tm k];rfl)
    subst k;clear HE2;go_wp2_with fail
    go_ret
    exact⟨zE HE3.out.symm,HB.out⟩
   ·have HE3:Hid ((ps.drop (i+1)).any (fun p=>decide (p.a=c))=ps.any (fun p=>decide (p.a=c))):=by have:=HE2.out;rw[th k,pm]at this;exact this
    have b1:(ya==c)=false:=by simpa using k
    clear k HE2;go_wp2_with fail
    go_roundw
    case rel=>exact⟨i+1,by omega,by go_num,HB,HBx,HE3⟩
    case measure=>simp[intOf];omega
  ·have ii:¬(i:Int)<(ps.length:Int):=by omega
   have HE3:Hid (ans=false):=HE0.out _ (by rw[<-HE.out];exact Qu _ _ _ zI6);go_wp2_with fail
   go_ret
   exact⟨zE HE3.out.symm,HB.out⟩
def uK(us:List zG)(names:List Bs)(ins a:Nat):Int × Int :=
 if a<ins/\0<=zW us xK 1 (names.getD a []) then (xD 0 (tA (uA us (zW us xK 1 (names.getD a [])).toNat) 2),xD 0 (tA (uA us (zW us xK 1 (names.getD a [])).toNat) 4)) else (0,1)
theorem GV{ls:List zF}{us:List zG}(hA:yP ls us){nm:Bs}(h:0<=zW us xK 1 nm):∃f:Nat,zW us xK 1 nm=f/\f<us.length/\5<=(uA us f).length/\(tA (uA us f) 2).length<=4/\(tA (uA us f) 4).length<=4:=by
 have h1:=pQ (aG xK 1 nm) us 0;have h2:=iO (aG xK 1 nm) us 0 h;obtain⟨f,hf⟩:∃f:Nat,zW us xK 1 nm=f:=⟨(zW us xK 1 nm).toNat,by omega⟩;have hf2:vT (aG xK 1 nm) us 0=f:=hf;rw[hf2]at h1 h2;have zI6:f<us.length:=by omega
 obtain⟨x,hx⟩:=hA.mem _ (Xk zI6)
 have hk:cA (uA us f) 0=xK:=by
  have:aG xK 1 nm (uA us f)=true:=by simpa using h2
  unfold aG at this;simp at this;exact this.1
 have ho:=(zGH hx (.inl hk)).2 (by rw[hk];decide);exact⟨f,hf,zI6,ho⟩
theorem oS.atN{w:World}{a:Option Addr}{names:List Bs}(h:oS w a names){i:Nat}(hi:i<names.length):∃g,a=some ⟨g,0,none⟩/\w.cell? ⟨g,i,none⟩=some (.string ⟨(names.getD i []).toArray⟩):=by
 obtain⟨g,e,hc⟩:=h.blk (by omega);exact⟨g,e,hc i hi⟩
theorem cU.down{w w':World}{b:Nat}{us:List zG}{names:List Bs}{ins:Nat}{rs:List RX}(h:cU w b us names ins rs)(hb:Below w.heap.size w w'):cU w' b us names ins rs:=by
 obtain⟨la,lc,h1,h2⟩:=h.lines;obtain⟨ra,rc,h3,h4⟩:=h.rul;exact⟨⟨la,lc,by rw[hb.cell (p:=⟨b,0,none⟩) (zP h1)];exact h1,h2.below hb⟩,h.nam.below hb,by rw[hb.cell (p:=⟨b,2,none⟩) (zP h.ins)];exact h.ins,⟨ra,rc,by rw[hb.cell (p:=⟨b,3,none⟩) (zP h3)];exact h3,h4.below hb⟩,fun x hx=>(h.rows x hx).below hb,h.few⟩
theorem BJ(b:Nat)(ls:List zF)(us:List zG)(names:List Bs)(ins:Nat)(rs:List RX)(a:Nat)(hB:cU w b us names ins rs)(hA:yP ls us)(zIK:ins<=names.length) :
 Calls Tryz.prog 84 #[.pointer (some ⟨b,0,none⟩),.int .i64 (a:Nat)] w fun e w'=>e=.returned (.tuple #[.int .i64 (uK us names ins a).1,.int .i64 (uK us names ins a).2])/\Below w.heap.size w w':=by
 obtain⟨la,lc,c0,zIT⟩:=hB.lines;obtain⟨na,nc,c1,zIO⟩:=hB.nam;have c2:=hB.ins;have hfn:=zIO.few;have HR0:Hid (uK us names ins a=if a<ins/\0<=zW us xK 1 (names.getD a []) then (xD 0 (tA (uA us (zW us xK 1 (names.getD a [])).toNat) 2),xD 0 (tA (uA us (zW us xK 1 (names.getD a [])).toNat) 4)) else (0,1)):=rfl;generalize uK us names ins a=R at *;by_cases ha:a<ins
 ·have ia:(a:Int)<(ins:Int):=by omega
  have han:a<names.length:=by omega
  have ian:(a:Int)<(names.length:Int):=by omega
  obtain⟨gn,rfl,cn⟩:=zIO.atN han;have HF:=zA (fun w' (hb:Below w.heap.size w w')=>nO w' la lc ls us xK (names.getD a []) (zIT.below hb) hA);by_cases hk:0<=zW us xK 1 (names.getD a [])
  ·obtain⟨f,ef,hf,h5,n2,n4⟩:=GV hA hk
   have HR:Hid (R=(xD 0 (tA (uA us f) 2),xD 0 (tA (uA us f) 4))):=by unfold Hid;rw[HR0.out,tl ⟨ha,hk⟩,ef];rfl
   rw[ef]at HF;obtain⟨gl,g,o,cu,rfl,cl,zIA,-,-,hul⟩:=zIT.at hf;have hc2:=(zIA.tok (show 2<(uA us f).length by omega)).1;have hc4:=(zIA.tok (show 4<(uA us f).length by omega)).1;rw[show 2*3=6 from rfl]at hc2;rw[show 4*3=12 from rfl]at hc4;have HN2:=zA (fun w'=>bR (tA (uA us f) 2) w' n2);have HN4:=zA (fun w'=>bR (tA (uA us f) 4) w' n4);have il2:(2:Int)<((uA us f).length:Int):=by omega
   have il4:(4:Int)<((uA us f).length:Int):=by omega
   have ifl:(f:Int)<(us.length:Int):=by omega
   clear hB hA zIT zIO zIA HR0 ef hk n2 n4 zIK;generalize xD 0 (tA (uA us f) 4)=v4 at *;generalize xD 0 (tA (uA us f) 2)=v2 at *;generalize tA (uA us f) 2=t2 at *;generalize tA (uA us f) 4=t4 at *;generalize names.getD a []=nm at *;obtain⟨R1,R2⟩:=R;simp only[xK]at HF;simp only
   go_enter Tryz.func84,Tryz.ntmps84
   go_wp2_with fail
   go_quiet (first|(go_at_call 110;refine Calls.quiet_of_same (HF.out _ (yA (tj _ _) _))))
   have HBq:Hid (Below w.heap.size w (w.drewN nq)):=yA (tj _ _) nq;have e0:=(HBq.out.cell (p:=⟨b,0,none⟩) (zP c0)).trans c0;have el:=(HBq.out.cell (p:=⟨gl,f,none⟩) (zP cl)).trans cl;have e2:=(HBq.out.cell (p:=⟨g,o+6,none⟩) (zP hc2)).trans hc2;have e4:=(HBq.out.cell (p:=⟨g,o+12,none⟩) (zP hc4)).trans hc4;clear c0 cl hc2 hc4 c1 c2 cn;generalize w.drewN nq=wq at *;go_wp2_with fail
   go_quiet (first
    | (go_at_call_of 130 (Value.string ⟨t2.toArray⟩);refine Calls.quiet_of_same (HN2.out _))
    | (go_at_call_of 130 (Value.string ⟨t4.toArray⟩);refine Calls.quiet_of_same (HN4.out _)))
   go_wp2_with fail
   go_ret2
   have:=HR.out;simp only[Prod.mk.injEq]at this;rw[this.1,this.2];exact⟨rfl,yA HBq.out _⟩
  ·have HR:Hid (R=(0,1)):=by unfold Hid;rw[HR0.out,tg fun h=>hk h.2]
   have hneg:zW us xK 1 (names.getD a [])<0:=by omega
   clear hB hA zIT zIO HR0 hk zIK;generalize zW us xK 1 (names.getD a [])=f at *;generalize names.getD a []=nm at *;have hneg2:¬ 0<=f:=by omega
   obtain⟨R1,R2⟩:=R;simp only[xK]at HF;simp only
   go_enter Tryz.func84,Tryz.ntmps84
   go_wp2_with fail
   go_quiet (first|(go_at_call 110;refine Calls.quiet_of_same (HF.out _ (yA (tj _ _) _))))
   go_wp2_with fail
   go_ret2
   have:=HR.out;simp only[Prod.mk.injEq]at this;rw[this.1,this.2];exact⟨rfl,yA (tj _ _) _⟩
 ·have HR:Hid (R=(0,1)):=by unfold Hid;rw[HR0.out,tg fun h=>ha h.1]
  have ia:¬(a:Int)<(ins:Int):=by omega
  clear hB hA zIT zIO HR0 ha zIK c0 c1;obtain⟨R1,R2⟩:=R;simp only
  go_enter Tryz.func84,Tryz.ntmps84
  go_wp2_with fail
  go_ret2
  have:=HR.out;simp only[Prod.mk.injEq]at this;rw[this.1,this.2];exact⟨rfl,tj _ _⟩
def JB(us:List zG)(names:List Bs)(ins:Nat)(rr ss:List vS)(a:Nat):List Int:=if ((qK rr (a:Int) || qK ss (a:Int))&&tF us (names.getD a []))=true then [(uK us names ins a).1,(uK us names ins a).2] else []
def vX(l:List vS):List Int:=(l.filter fun y=>decide (y.kind=2)).map vS.n
def sQ(us:List zG)(names:List Bs)(ins:Nat)(rr ss:List vS)(i:Nat):List Int:=(List.range i).flatMap (JB us names ins rr ss)
def uJ(us:List zG)(names:List Bs)(ins:Nat)(rr ss:List vS):List Int:=sQ us names ins rr ss ins++vX rr++vX ss
theorem Qq(rr ss:List vS)(i:Nat):sQ us names ins rr ss (i+1)=sQ us names ins rr ss i++JB us names ins rr ss i:=by
 unfold sQ;rw[di,f9];simp
theorem JC(rr ss:List vS)(i:Nat):(sQ us names ins rr ss i).length<=2*i:=by
 induction i with
 | zero=>simp[sQ]
 | succ i ih=>rw[Qq,tq];unfold JB;split <;> simp <;> omega
theorem Qp(i:Nat)(h:i<l.length):vX (l.take (i+1))=vX (l.take i)++(if (l.getD i Xd).kind=2 then [(l.getD i Xd).n] else []):=by
 unfold vX;rw[dj,List.filter_append,List.map_append,pe h,show l.getD i Xd=l[i] by simp[List.getD,h]];congr 1
 show ([l[i]].filter _).map vS.n=_;rw[List.filter_cons,fd];by_cases h2:l[i].kind=2 <;> simp[h2]
theorem nQ:(vX l).length<=l.length:=by unfold vX;rw[ms];exact dg _ _
theorem wU{w w':World}{B k n:Nat}{t:TypeId}{v:Value}{xs:List Value}(h:w.ownsRow B t k v n xs)(hb:Below w.heap.size w w'):w'.ownsRow B t k v n xs:=⟨h.1,by
 rcases h.2 with q|⟨g',cap,yW,k1,k2,q3,k4⟩
 ·exact .inl q
 ·exact .inr ⟨g',cap,yW,k1,k2,by rw[hb.block g' (yK q3)];exact q3,k4⟩⟩
theorem ZH{w:World}{B k n:Nat}{t:TypeId}{v:Value}{xs:List Value}(h:w.ownsRow B t k v n xs)(m:Nat):(w.drewN m).ownsRow B t k v n xs:=wU h (yA (tj _ _) m)
theorem zAS(b:Nat)(ls:List zF)(us:List zG)(names:List Bs)(ins:Nat)(rs:List RX)(x y:RX)(hB:cU w b us names ins rs)(hA:yP ls us)(zIK:ins<=names.length)(hx:nU w x)(hy:nU w y) :
 Calls Tryz.prog 196 #[.pointer (some ⟨b,0,none⟩),Qm x,Qm y] w fun e w'=>∃v,e=.returned v/\w'.ownsRow w.heap.size 3 1 v (uJ us names ins x.1.steps y.1.steps).length (vD (uJ us names ins x.1.steps y.1.steps))/\Below w.heap.size w w':=by
 obtain⟨i0,hi0,hz0,hz1,hz2⟩:=dp dV;obtain⟨pa,pc,e1,-⟩:=hx.parts;obtain⟨sa,sc,e2,hs1⟩:=hx.steps;obtain⟨pa',pc',e3,-⟩:=hy.parts;obtain⟨sa',sc',e4,hs2⟩:=hy.steps;have hf1:=hx.few2;have hf2:=hy.few2;have HRd1:=zA (fun w' (hb:Below w.heap.size w w') (c:Nat)=>YQ w' sa sc x.1.steps (c:Int) (hs1.below hb) hf1);have HRd2:=zA (fun w' (hb:Below w.heap.size w w') (c:Nat)=>YQ w' sa' sc' y.1.steps (c:Int) (hs2.below hb) hf2);have HC1:=zA (fun w' (hb:Below w.heap.size w w')=>(hs1.below hb).cel);have HC2:=zA (fun w' (hb:Below w.heap.size w w')=>(hs2.below hb).cel);obtain⟨la,lc,c0,zIT⟩:=hB.lines;obtain⟨na,nc,c1,zIO⟩:=hB.nam;have c2:=hB.ins;have hfn:=zIO.few;have HRm:=zA (fun w' (hb:Below w.heap.size w w') (a:Nat)=>BJ w' b ls us names ins rs a (hB.down hb) hA zIK);have HNu:=zA (fun w' (hb:Below w.heap.size w w') (a:Nat)=>DQ w' la lc ls us (names.getD a []) (zIT.below hb) hA);have zJ0:=zA (fun w' (hb:Below w.heap.size w w')=>zIO.below hb);have HBk:=zA (fun w' (hb:Below w.heap.size w w')=>(show w'.cell? ⟨b,0,none⟩=some (.slice la us.length lc) from (hb.cell (p:=⟨b,0,none⟩) (zP c0)).trans c0));have HBk1:=zA (fun w' (hb:Below w.heap.size w w')=>(show w'.cell? ⟨b,1,none⟩=some (.slice na names.length nc) from (hb.cell (p:=⟨b,1,none⟩) (zP c1)).trans c1));have HBk2:=zA (fun w' (hb:Below w.heap.size w w')=>(show w'.cell? ⟨b,2,none⟩=some (.int .i64 (ins:Int)) from (hb.cell (p:=⟨b,2,none⟩) (zP c2)).trans c2));have hbl:=zP c0;obtain⟨⟨xl,xh,xp,xs⟩,xpv,xsv⟩:=x;obtain⟨⟨yl,yh,yp,ys⟩,ypv,ysv⟩:=y;simp only at e1 e2 e3 e4 HRd1 HRd2 HC1 HC2 hf1 hf2 ⊢;subst e1 e2 e3 e4;have HE0:Hid (uJ us names ins xs ys=sQ us names ins xs ys ins++vX xs++vX ys):=rfl;have HAl:=zA (fun i=>JC us names ins xs ys i);have HAs:=zA (fun i=>Qq us names ins xs ys i);have HAi:Hid (∀i,JB us names ins xs ys i=if ((qK xs (i:Int) || qK ys (i:Int))&&tF us (names.getD i []))=true then [(uK us names ins i).1,(uK us names ins i).2] else []):=fun i=>rfl;have HA0:Hid (sQ us names ins xs ys 0=[]):=rfl;simp only[Qm];clear hB hA hx hy hs1 hs2 zIT zIO c0 c1 c2;generalize uJ us names ins xs ys=ans at *;generalize sQ us names ins xs ys=BA at *
 go_enter Tryz.func196,Tryz.ntmps196
 go_wp2_with fail
 generalize hO1:Obj.cells #[.string ⟨xl.toArray⟩,.int .i64 xh,.slice pa xp.length pc,.slice sa xs.length sc] 115=O1 at *;generalize hO2:Obj.cells #[.string ⟨yl.toArray⟩,.int .i64 yh,.slice pa' yp.length pc',.slice sa' ys.length sc'] 115=O2 at *;have HB0:Hid (Below w.heap.size w ((w.alloc O1).alloc O2)):=(ge (t9 _) _).alloc (by simp) _;have hs0:((w.alloc O1).alloc O2).heap.size=w.heap.size+2:=by simp
 have HX3:Hid (((w.alloc O1).alloc O2).cell? ⟨w.heap.size,3,none⟩=some (.slice sa xs.length sc)):=by unfold Hid;rw[<-hO1];exact(zD (yJ (zM _ _)) 3).trans rfl
 have HY3:Hid (((w.alloc O1).alloc O2).cell? ⟨w.heap.size+1,3,none⟩=some (.slice sa' ys.length sc')):=by unfold Hid;rw[<-hO2];exact(zD (xX _ _ _ (by simp)) 3).trans rfl
 clear hO1 hO2;generalize (w.alloc O1).alloc O2=w0 at *;have hs0':w.heap.size+2<=w0.heap.size:=by omega
 have hs0'':w0.heap.size<=w.heap.size+2:=by omega
 clear hs0
 have HG:Hid (∀wr,Below w0.heap.size w0 wr->Below w.heap.size w wr/\wr.cell? ⟨w.heap.size,3,none⟩=some (.slice sa xs.length sc)/\wr.cell? ⟨w.heap.size+1,3,none⟩=some (.slice sa' ys.length sc')):=fun wr hb =>
  ⟨HB0.out.trans (hb.mono (by omega)),(hb.cell (p:=⟨w.heap.size,3,none⟩) (by show w.heap.size<_;omega)).trans HX3.out,(hb.cell (p:=⟨w.heap.size+1,3,none⟩) (by show w.heap.size+1<_;omega)).trans HY3.out⟩
 have HO0:Hid (w0.ownsRow w0.heap.size 3 1 (.slice none 0 0) (BA 0).length (vD (BA 0))):=by unfold Hid;rw[HA0.out];exact⟨rfl,.inl ⟨rfl,rfl⟩⟩
 clear HX3 HY3 HA0 HB0
 go_loopw [7,8] (fun ov iv wr=>∃(i:Nat),i<=ins/\iv=.int .i64 i/\Hid (Below w0.heap.size w0 wr)/\Hid (wr.ownsRow w0.heap.size 3 1 ov (BA i).length (vD (BA i)))) (fun _ iv _=>ins-(intOf iv).toNat)
 case atStart=>exact⟨0,tr _,rfl,zA (tj _ _),HO0⟩
 case round =>
  obtain⟨i,hi,rfl,HB,HO⟩:=hrel;have zIE:=HB.out.size;obtain⟨zJ6,k3,k3'⟩:=HG.out wr HB.out;have d2:=HBk2.out wr zJ6;obtain⟨oa,oc,rfl⟩:=yH HO.out;by_cases zI6:i<ins
  ·have ii:(i:Int)<(ins:Int):=by omega
   have hle:=HAl.out i;have HE:=zA (HAs.out i);rw[HAi.out i]at HE;have HR1:=zA (HRd1.out wr zJ6 i);have HR2:=zA (fun w' hb=>HRd2.out w' hb i);have HRm1:=zA (fun w' hb=>HRm.out w' hb i);have HNu1:=zA (fun w' hb=>HNu.out w' hb i);have hOb:=fun (w':World) (hb:Below wr.heap.size wr w')=>wU HO.out hb;have HOb:=zA hOb;have zJ2:=zA zJ6;have hszw:=zJ6.size;clear hOb zJ6;generalize qK xs (i:Int)=r1 at *;generalize qK ys (i:Int)=r2 at *;generalize tF us (names.getD i [])=nu at *;generalize uK us names ins i=rm at *;obtain⟨lo,hh⟩:=rm;simp only at HE HRm1;generalize BA i=B0 at *;have hiN:i<names.length:=by omega
   have iiN:(i:Int)<(names.length:Int):=by omega
   have zJ7:Hid (∀w3,Below wr.heap.size wr w3->Below w.heap.size w w3/\w3.cell? ⟨b,0,none⟩=some (.slice la us.length lc)/\w3.cell? ⟨b,1,none⟩=some (.slice na names.length nc)/\(∃g,na=some ⟨g,0,none⟩/\w3.cell? ⟨g,i,none⟩=some (.string ⟨(names.getD i []).toArray⟩))/\w3.cell? ⟨w.heap.size+1,3,none⟩=some (.slice sa' ys.length sc')/\Below w0.heap.size w0 w3/\w3.ownsRow w0.heap.size 3 1 (.slice oa B0.length oc) B0.length (vD B0)):=fun w3 hb=>by
    have h1:Below w.heap.size w w3:=zJ2.out.trans (hb.mono hszw);have h2:Below w0.heap.size w0 w3:=HB.out.trans (hb.mono zIE);exact⟨h1,HBk.out w3 h1,HBk1.out w3 h1,(zJ0.out w3 h1).atN hiN,(HG.out w3 h2).2.2,h2,HOb.out w3 hb⟩
   clear HRd1 HRd2 HRm HNu zJ0 HBk HBk1 HAs HAi HOb;generalize names.getD i []=nm at *
   go_upto_region 5 with fail
   go_cut [9] from 14 to 60 (fun v9 wx=>v9=.bool (r1 || r2)/\Hid (Below wr.heap.size wr wx))
   case first =>
    cases r1
    ·go_wp2_with fail
     refine HR1.out.mono ?_;rintro e w3 ⟨rfl,hb3⟩;obtain⟨q1,-,-,-,q5,-,-⟩:=zJ7.out w3 hb3;have HB3:=zA hb3;have HR3:=zA (HR2.out w3 q1);clear hb3 q1 k3 k3' d2;go_wp2_with fail
     refine HR3.out.mono ?_;rintro e w4 ⟨rfl,hb4⟩;have HB4:Hid (Below wr.heap.size wr w4):=HB3.out.trans (hb4.mono HB3.out.size);clear hb4;go_wp2_with fail
     go_meet
     exact⟨rfl,HB4⟩
    ·go_wp2_with fail
     refine HR1.out.mono ?_;rintro e w3 ⟨rfl,hb3⟩;have HB3:=zA hb3;clear hb3;go_wp2_with fail
     go_meet
     exact⟨rfl,HB3⟩
   case rest =>
    obtain⟨rfl,HBc⟩:=hcut;generalize (r1 || r2)=on at *;obtain⟨q1,q2,q3,⟨gn,rfl,q4⟩,q5,q6,q7⟩:=zJ7.out wc HBc.out;have HQ1:=zA q1;have HQ6:=zA q6;have HQ7:=zA q7;have hs4:=q6.size;have HNu2:=zA (fun n=>HNu1.out (wc.drewN n) (yA q1 n));have HRm2:=zA (fun n=>HRm1.out (wc.drewN n) (yA q1 n));clear q1 q6 q7 zJ7 HR1 HR2 HNu1 HRm1 k3 k3' d2 q5;cases on
    ·have HE2:Hid (BA (i+1)=B0):=by have:=HE.out;simpa[Hid] using this
     go_wp2_with fail
     go_quiet (fail)
     go_wp2_with fail
     go_roundw
     case rel=>exact⟨i+1,by omega,by go_num,zA (yA HQ6.out _),by rw[HE2.out];exact zA (ZH HQ7.out _)⟩
     case measure=>simp[intOf];omega
    ·cases nu
     ·have HE2:Hid (BA (i+1)=B0):=by have:=HE.out;simpa[Hid] using this
      go_wp2_with fail
      go_quiet (first|(go_at_call 236;refine Calls.quiet_of_same (HNu2.out _)))
      go_wp2_with fail
      go_roundw
      case rel=>exact⟨i+1,by omega,by go_num,zA (yA HQ6.out _),by rw[HE2.out];exact zA (ZH HQ7.out _)⟩
      case measure=>simp[intOf];omega
     ·have HE2:Hid (BA (i+1)=B0++[lo,hh]):=by have:=HE.out;simpa[Hid] using this
      go_wp2_with fail
      go_quiet (first|(go_at_call 236;refine Calls.quiet_of_same (HNu2.out _)))
      go_wp2_with fail
      refine(HRm2.out _).mono ?_;rintro e w5 ⟨rfl,hb5⟩;have HB5:Hid (Below w0.heap.size w0 w5):=(yA HQ6.out _).trans (hb5.mono hs4);have HO5:Hid (w5.ownsRow w0.heap.size 3 1 (.slice oa B0.length oc) B0.length (vD B0)):=wU (ZH HQ7.out _) hb5;have hs5:=HB5.out.size;clear hb5
      go_wp2_with (at_builtin;refine wpList_append_own _ rfl _ _ 59 rfl w0.heap.size 3 i0 _ 1 8 Tryz.underlying59 hi0 hz0 hz1 hz2 rfl (by decide) _ _ _ rfl (HO5.out.alloc _) ⟨w5.heap.size,0,none⟩ 1 1 [.int .i64 lo] rfl rfl ?c1k1 ?c1k2 ?c1k3 ?c1k4 ?c1k5 ?_)
      try (case c1k1=>first|exact zZ _ _ _ _ rfl|exact fun _ _ h=>h)
      try (case c1k2=>intro u hu;simp at hu;subst hu;rfl)
      try (case c1k3=>unfold maxLen;omega)
      try (case c1k4=>omega)
      try (case c1k5=>first|omega|(simp;omega))
      intro v6 w6 zIQ zIF _;have HB6:Hid (Below w0.heap.size w0 w6):=(HB5.out.alloc hs5 _).grown zIF (by simp;omega) (zN HO5.out);have HO6:Hid (w6.ownsRow w0.heap.size 3 1 v6 (B0.length+1) (vD (B0++[lo]))):=by unfold Hid;rw[dU];exact zIQ
      have hs6:=HB6.out.size;clear zIQ zIF
      go_wp2_with (at_builtin;refine wpList_append_own _ rfl _ _ 59 rfl w0.heap.size 3 i0 _ 1 8 Tryz.underlying59 hi0 hz0 hz1 hz2 rfl (by decide) _ _ _ rfl (HO6.out.alloc _) ⟨w6.heap.size,0,none⟩ 1 1 [.int .i64 hh] rfl rfl ?c2k1 ?c2k2 ?c2k3 ?c2k4 ?c2k5 ?_)
      try (case c2k1=>first|exact zZ _ _ _ _ rfl|exact fun _ _ h=>h)
      try (case c2k2=>intro u hu;simp at hu;subst hu;rfl)
      try (case c2k3=>unfold maxLen;omega)
      try (case c2k4=>omega)
      try (case c2k5=>first|omega|(simp;omega))
      intro v7 w7 hown7 hgrow7 _;have HB7:Hid (Below w0.heap.size w0 w7):=(HB6.out.alloc hs6 _).grown hgrow7 (by simp;omega) (zN HO6.out)
      have HO7:Hid (w7.ownsRow w0.heap.size 3 1 v7 (BA (i+1)).length (vD (BA (i+1)))):=by
       unfold Hid;rw[HE2.out,show B0++[lo,hh]=(B0++[lo])++[hh] by simp,dU,tq,tq];exact hown7
      clear hown7 hgrow7;go_wp2_with fail
      go_roundw
      case rel=>exact⟨i+1,by omega,by go_num,HB7,HO7⟩
      case measure=>simp[intOf];omega
  ·obtain rfl:i=ins:=by omega
   have ii:¬(i:Int)<(i:Int):=by omega
   have hle:=HAl.out i
   have HO1:Hid (wr.ownsRow w0.heap.size 3 1 (.slice oa (BA i).length oc) (BA i++vX (xs.take 0)).length (vD (BA i++vX (xs.take 0)))):=by
    have:=HO.out;unfold Hid;simpa[vX] using this
   clear HAs HAi HRd1 HRd2 HRm HNu zJ0 HBk HBk1 zJ6;generalize BA i=BI at *;generalize hwr:wr=wq at *;clear hwr;go_wp2_with fail
   go_loopw [7,12] (fun ov iv wr=>∃(j:Nat),j<=xs.length/\iv=.int .i64 j/\Hid (Below w0.heap.size w0 wr)/\Hid (wr.ownsRow w0.heap.size 3 1 ov (BI++vX (xs.take j)).length (vD (BI++vX (xs.take j))))) (fun _ iv _=>xs.length-(intOf iv).toNat)
   case atStart=>exact⟨0,tr _,rfl,HB,HO1⟩
   case round =>
    obtain⟨j,hj,rfl,HBj,HOj⟩:=hrel;have hszj:=HBj.out.size;obtain⟨zJ6,k3,k3'⟩:=HG.out wr HBj.out;obtain⟨va,vc,rfl⟩:=yH HOj.out;have hlj:(BI++vX (xs.take j)).length<=2*i+j:=by rw[tq];have:=nQ (xs.take j);simp at this;omega
    by_cases hltj:j<xs.length
    ·have jj:(j:Int)<(xs.length:Int):=by omega
     have zJ1:=HC1.out wr zJ6;obtain⟨gp,rfl,q0⟩:=zJ1.at ((zV mH 5 (fun _=>rfl) Xd xs j 0 hltj (by decide)).trans rfl);have q4:=(zJ1.at ((zV mH 5 (fun _=>rfl) Xd xs j 4 hltj (by decide)).trans rfl)).elim fun g' h=>(show gp=g' by simpa using h.1) ▸ h.2;rw[pq]at q0;have HTk:=zA (Qp xs j hltj);clear zJ1 zJ6;generalize xs.getD j Xd=st at *;obtain⟨sk,s1,s2,sm,sn⟩:=st;simp only at q0 q4 HTk;by_cases k2:sk=2
     ·subst k2
      rw[tl rfl]at HTk;have HE2:Hid (BI++vX (xs.take (j+1))=(BI++vX (xs.take j))++[sn]):=by unfold Hid;rw[HTk.out,mn]
      clear HTk;generalize BI++vX (xs.take j)=B0 at *
      go_wp2_with (at_builtin;refine wpList_append_own _ rfl _ _ 59 rfl w0.heap.size 3 i0 _ 1 8 Tryz.underlying59 hi0 hz0 hz1 hz2 rfl (by decide) _ _ _ rfl (HOj.out.alloc _) ⟨wr.heap.size,0,none⟩ 1 1 [.int .i64 sn] rfl rfl ?c3k1 ?c3k2 ?c3k3 ?c3k4 ?c3k5 ?_)
      try (case c3k1=>first|exact zZ _ _ _ _ rfl|exact fun _ _ h=>h)
      try (case c3k2=>intro u hu;simp at hu;subst hu;rfl)
      try (case c3k3=>unfold maxLen;omega)
      try (case c3k4=>omega)
      try (case c3k5=>first|omega|(simp;omega))
      intro v6 w6 zIQ zIF _;have HB6:Hid (Below w0.heap.size w0 w6):=(HBj.out.alloc hszj _).grown zIF (by simp;omega) (zN HOj.out);have HO6:Hid (w6.ownsRow w0.heap.size 3 1 v6 (BI++vX (xs.take (j+1))).length (vD (BI++vX (xs.take (j+1))))):=by unfold Hid;rw[HE2.out,dU,tq];exact zIQ
      clear zIQ zIF;go_wp2_with fail
      go_roundw
      case rel=>exact⟨j+1,by omega,by go_num,HB6,HO6⟩
      case measure=>simp[intOf];omega
     ·rw[tg k2,ce]at HTk
      have b2:(sk==2)=false:=by simpa using k2
      clear k2;go_wp2_with fail
      go_roundw
      case rel=>exact⟨j+1,by omega,by go_num,HBj,by rw[HTk.out];exact HOj⟩
      case measure=>simp[intOf];omega
    ·obtain rfl:j=xs.length:=by omega
     have jj:¬(xs.length:Int)<(xs.length:Int):=by omega
     have HO2:Hid (wr.ownsRow w0.heap.size 3 1 (.slice va (BI++vX (xs.take xs.length)).length vc) (BI++vX xs++vX (ys.take 0)).length (vD (BI++vX xs++vX (ys.take 0)))):=by
      have:=HOj.out;rw[lj]at this ⊢;have e:BI++vX xs++vX (ys.take 0)=BI++vX xs:=by simp[vX]
      unfold Hid;rw[e];exact this
     have hlx:(BI++vX xs).length<=2*i+xs.length:=by rw[tq];have:=nQ xs;omega
     generalize (BI++vX (xs.take xs.length)).length=vn at *;generalize BI++vX xs=BX at *;generalize hwz:wr=wz at *;clear hwz zJ6 hlj;go_wp2_with fail
     go_loopw [7,13] (fun ov iv wr=>∃(j:Nat),j<=ys.length/\iv=.int .i64 j/\Hid (Below w0.heap.size w0 wr)/\Hid (wr.ownsRow w0.heap.size 3 1 ov (BX++vX (ys.take j)).length (vD (BX++vX (ys.take j))))) (fun _ iv _=>ys.length-(intOf iv).toNat)
     case atStart=>exact⟨0,tr _,rfl,HBj,HO2⟩
     case round =>
      obtain⟨j,hj,rfl,HBj,HOj⟩:=hrel;have hszj:=HBj.out.size;obtain⟨zJ6,k3,k3'⟩:=HG.out wr HBj.out;obtain⟨va,vc,rfl⟩:=yH HOj.out;have hlj:(BX++vX (ys.take j)).length<=2*i+xs.length+j:=by rw[tq];have:=nQ (ys.take j);simp at this;omega
      by_cases hltj:j<ys.length
      ·have jj:(j:Int)<(ys.length:Int):=by omega
       have zJ1:=HC2.out wr zJ6;obtain⟨gp,rfl,q0⟩:=zJ1.at ((zV mH 5 (fun _=>rfl) Xd ys j 0 hltj (by decide)).trans rfl);have q4:=(zJ1.at ((zV mH 5 (fun _=>rfl) Xd ys j 4 hltj (by decide)).trans rfl)).elim fun g' h=>(show gp=g' by simpa using h.1) ▸ h.2;rw[pq]at q0;have HTk:=zA (Qp ys j hltj);clear zJ1 zJ6;generalize ys.getD j Xd=st at *;obtain⟨sk,s1,s2,sm,sn⟩:=st;simp only at q0 q4 HTk;by_cases k2:sk=2
       ·subst k2
        rw[tl rfl]at HTk;have HE2:Hid (BX++vX (ys.take (j+1))=(BX++vX (ys.take j))++[sn]):=by unfold Hid;rw[HTk.out,mn]
        clear HTk;generalize BX++vX (ys.take j)=B0 at *
        go_wp2_with (at_builtin;refine wpList_append_own _ rfl _ _ 59 rfl w0.heap.size 3 i0 _ 1 8 Tryz.underlying59 hi0 hz0 hz1 hz2 rfl (by decide) _ _ _ rfl (HOj.out.alloc _) ⟨wr.heap.size,0,none⟩ 1 1 [.int .i64 sn] rfl rfl ?c4k1 ?c4k2 ?c4k3 ?c4k4 ?c4k5 ?_)
        try (case c4k1=>first|exact zZ _ _ _ _ rfl|exact fun _ _ h=>h)
        try (case c4k2=>intro u hu;simp at hu;subst hu;rfl)
        try (case c4k3=>unfold maxLen;omega)
        try (case c4k4=>omega)
        try (case c4k5=>first|omega|(simp;omega))
        intro v6 w6 zIQ zIF _;have HB6:Hid (Below w0.heap.size w0 w6):=(HBj.out.alloc hszj _).grown zIF (by simp;omega) (zN HOj.out);have HO6:Hid (w6.ownsRow w0.heap.size 3 1 v6 (BX++vX (ys.take (j+1))).length (vD (BX++vX (ys.take (j+1))))):=by unfold Hid;rw[HE2.out,dU,tq];exact zIQ
        clear zIQ zIF;go_wp2_with fail
        go_roundw
        case rel=>exact⟨j+1,by omega,by go_num,HB6,HO6⟩
        case measure=>simp[intOf];omega
       ·rw[tg k2,ce]at HTk
        have b2:(sk==2)=false:=by simpa using k2
        clear k2;go_wp2_with fail
        go_roundw
        case rel=>exact⟨j+1,by omega,by go_num,HBj,by rw[HTk.out];exact HOj⟩
        case measure=>simp[intOf];omega
      ·obtain rfl:j=ys.length:=by omega
       have jj:¬(ys.length:Int)<(ys.length:Int):=by omega
       have HEn:Hid (BX++vX (ys.take ys.length)=ans):=by unfold Hid;rw[lj];exact HE0.out.symm
       have HFn:Hid (wr.ownsRow w.heap.size 3 1 (.slice va (BX++vX (ys.take ys.length)).length vc) ans.length (vD ans)):=by
        have h9:=xC HOj.out (show w.heap.size<=w0.heap.size by omega);unfold Hid;rw[<-HEn.out];exact h9
       have zJ2:=zA zJ6;clear HOj HEn zJ6 hlj;generalize (BX++vX (ys.take ys.length)).length=vn at *;go_wp2_with fail
       go_ret
       exact⟨_,rfl,HFn.out,zJ2.out⟩
end Go.Proofs.YtnbpdffdnphbeaaGreatDoor
