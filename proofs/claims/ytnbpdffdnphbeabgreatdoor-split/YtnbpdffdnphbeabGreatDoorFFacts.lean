import Derived.Test.YtnbpdffdnphbeabGreatDoorFView
import Derived.Test.YtnbpdffdnphbeabGreatDoorPHear
set_option maxHeartbeats 800000
set_option maxRecDepth 100000
namespace Go.Proofs.YtnbpdffdnphbeabGreatDoor
open Go.RowKit
theorem zIS(v:FV)(j:Nat)(h:j<3->0<=v.inn j/\v.inn j<=9998):Zs v j≠[59]/\(Zs v j).length<=4:=by
 by_cases hj:j<3
 ·have h1:=nW (h hj).1 (by have:=(h hj).2;omega)
  unfold Zs;rw[tl hj];refine⟨fun e=>?_,h1.2.2.1⟩;have:=h1.2.1 59 (by rw[e];simp);exact absurd this (by decide)
 ·rcases gJ (v:=v) hj with ⟨e,-⟩|⟨e,-⟩ <;> rw[e] <;> exact⟨by decide,by decide⟩
theorem zF4(v:FV)(s i:Nat)(hi:i<5)(h:Zs v ((i+s)%5)≠[59]):wU ((Jh v s).take (i+1))=wU ((Jh v s).take i)++yD ((i+s)%5)++[32,61,32]++Zs v ((i+s)%5)++[59,10]:=by
 have hl:(Jh v s).length=5:=by unfold Jh;simp
 rw[K5 _ i (by omega)];have e:(Jh v s).getD i []=[yD ((i+s)%5),[61],Zs v ((i+s)%5),[59]]:=by unfold Jh;simp[List.getD,hi]
 rw[e];simp only[mU,DZ];rw[tb (by decide),tb h,tl trivial];simp
theorem zAR(w:World)(g:Nat)(v:FV)(c:Int)(hV:wW w g v)(hR:∀j,j<3->0<=v.inn j/\v.inn j<=9998)(hc:jA c)(hT:rL w) :
 Calls Tryz.prog 14 #[.pointer (some ⟨g,0,none⟩),.int .i64 c] w fun e w'=>e=.returned (.string ⟨(eO v (wV c 5).toNat).toArray⟩)/\Below w.heap.size w w':=by
 obtain⟨pb0,pb1⟩:=qQ c 5 (by omega)
 have HPk:Hid (∀w':World,Calls Tryz.prog 41 #[.int .i64 c,.int .i64 5] w' fun e w''=>e=.returned (.int .i64 (((wV c 5).toNat:Nat):Int))/\w''=w'):=fun w'=>by
  have:=Yt w' c 5 hc (by omega) (by omega);rw[show (((wV c 5).toNat:Nat):Int)=wV c 5 by omega];exact this
 have hp:(wV c 5).toNat<5:=by omega
 generalize (wV c 5).toNat=p at *;have HVb:=zA (fun w' (hb:Below w.heap.size w w')=>hV.below hb);have HTb:=zA (fun w' (hb:Below w.heap.size w w')=>hT.below hb);have HR:=zA hR;have HEnd:Hid (eO v p=wU ((Jh v p).take 5)):=by unfold Hid eO;rw[dw (by unfold Jh;simp)]
 clear hV hR hc hT pb0 pb1;generalize eO v p=R at *
 go_enter Tryz.func14,Tryz.ntmps14
 go_wp2_with fail
 go_loopw [5,6] (fun sv iv wr=>∃(i:Nat) (t:Bs),i<=5/\sv=.string ⟨t.toArray⟩/\iv=.int .i64 i/\t.length<=i*20/\Hid (t=wU ((Jh v p).take i))/\Hid (Below w.heap.size w wr)) (fun _ iv _=>5-(intOf iv).toNat)
 case atStart=>exact⟨0,[],p7 _,rfl,rfl,by simp,zA rfl,zA (tg _ _)⟩
 case round =>
  obtain⟨i,t,hi5,rfl,rfl,ht,HE,HB⟩:=hrel;by_cases zKZ:i<5
  ·have c1:(i:Int)<5:=by omega
   have hj5:(i+p)%5<5:=Nat.mod_lt _ (by decide)
   have hmod:((i:Int)+(p:Int)).tmod 5=(((i+p)%5:Nat):Int):=by
    rw[show ((i:Int)+(p:Int))=((i+p:Nat):Int) by omega];rfl
   have hmod2:((i:Int)+(p:Int))%5=(((i+p)%5:Nat):Int):=by omega
   obtain⟨n59,l4⟩:=zIS v ((i+p)%5) (fun h=>HR.out _ h);have HS:Hid (wU ((Jh v p).take (i+1))=t++yD ((i+p)%5)++[32,61,32]++Zs v ((i+p)%5)++[59,10]):=by unfold Hid;rw[HE.out];exact zF4 v p i zKZ n59
   have l2:(yD ((i+p)%5)).length=2:=(show ∀j,j<5->(yD j).length=2 by decide) _ hj5;have zLS:=zA (fun w'=>dD w' ((i+p)%5) hj5);clear n59;generalize (i+p)%5=j at *;generalize yD j=nj at *;go_wp2_with fail
   refine(HPk.out _).mono ?_;rintro e w' ⟨rfl,hw⟩;obtain rfl:=hw.symm;go_wp2_with fail
   refine(zLS.out _).mono ?_;rintro e w2 ⟨rfl,hb2⟩;have HB2:Hid (Below w.heap.size w w2):=HB.out.trans (hb2.mono HB.out.size);have m0:=(HVb.out w2 HB2.out).cells.1 j hj5;clear hb2 HE zLS HPk hmod hmod2;by_cases h3:j<3
   ·have c3:(j:Int)<3:=by omega
    obtain⟨r0,r1⟩:=HR.out j h3;have HIt:=zA (wC w2 (v.inn j) r0 (by omega) (HTb.out w2 HB2.out));have HS2:Hid (wU ((Jh v p).take (i+1))=t++nj++[32,61,32]++Lib.itoa (v.inn j)++[59,10]):=by have:=HS.out;unfold Zs at this;rw[tl h3]at this;exact this
    have l5:(Lib.itoa (v.inn j)).length<=4:=by unfold Zs at l4;rw[tl h3]at l4;exact l4
    clear HS l4;generalize v.inn j=z at *;generalize Lib.itoa z=tz at *;go_wp2_with fail
    refine HIt.out.mono ?_;rintro e w3 ⟨rfl,hb3⟩;have HB3:Hid (Below w.heap.size w w3):=HB2.out.trans (hb3.mono HB2.out.size);clear hb3 HIt;go_wp2_with fail
    go_roundw
    case rel=>exact⟨i+1,t++nj++[32,61,32]++tz++[59,10],by omega,by rw[<-jQ,<-jQ,<-jQ,<-jQ],by go_num,by simp;omega,zA HS2.out.symm,HB3⟩
    case measure=>simp[intOf];omega
   ·have c3:¬(j:Int)<3:=by omega
    rcases gJ (v:=v) h3 with ⟨e,e1⟩|⟨e,e1⟩
    ·rw[e]at HS
     rw[e1]at m0;clear e e1 l4;go_wp2_with fail
     go_roundw
     case rel=>exact⟨i+1,t++nj++[32,61,32]++[121,101,115]++[59,10],by omega,by rw[<-jQ,<-jQ,<-jQ,<-jQ],by go_num,by simp;omega,zA HS.out.symm,HB2⟩
     case measure=>simp[intOf];omega
    ·rw[e]at HS
     have b1:(v.inn j==1)=false:=by rw[mq];exact e1
     clear e e1 l4;generalize v.inn j=z at *;go_wp2_with fail
     go_roundw
     case rel=>exact⟨i+1,t++nj++[32,61,32]++[110,111]++[59,10],by omega,by rw[<-jQ,<-jQ,<-jQ,<-jQ],by go_num,by simp;omega,zA HS.out.symm,HB2⟩
     case measure=>simp[intOf];omega
  ·obtain rfl:i=5:=by omega
   have HF:Hid (t=R):=by unfold Hid;rw[HE.out,HEnd.out]
   clear HE HEnd;go_wp2_with fail
   go_ret
   exact⟨by rw[HF.out];rfl,HB.out⟩
end Go.Proofs.YtnbpdffdnphbeabGreatDoor
