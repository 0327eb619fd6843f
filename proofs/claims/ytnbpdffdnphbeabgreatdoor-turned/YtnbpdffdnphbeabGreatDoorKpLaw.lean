import Derived.Test.YtnbpdffdnphbeabGreatDoorSoLaw
import Derived.Test.YtnbpdffdnphbeabGreatDoorPHear
set_option maxHeartbeats 800000
set_option maxRecDepth 100000
namespace Go.Proofs.YtnbpdffdnphbeabGreatDoor
open Go.RowKit
variable {M:yB} {G:Nat->GR}
def zLD(HB:World->Nat->Prop)(w w':World)(e:Ending):Prop:=∃b:Nat,e=.returned (.tuple #[.pointer (some ⟨b,0,none⟩),.int .i64 0])/\HB w' b/\Below w.heap.size w w'
theorem zJJ(v:FV)(j:Nat)(h:j<3->0<=v.inn j/\v.inn j<=9998):ZK v j≠[59]/\(ZK v j).length<=4:=by
 by_cases hj:j<3
 ·have h1:=oJ (h hj).1 (by have:=(h hj).2;omega)
  unfold ZK;rw[tl hj];refine⟨fun e=>?_,h1.2.2.1⟩;have:=h1.2.1 59 (by rw[e];simp);exact absurd this (by decide)
 ·rcases gL (v:=v) hj with ⟨e,-⟩|⟨e,-⟩ <;> rw[e] <;> exact⟨by decide,by decide⟩
theorem zFS(v:FV)(s i:Nat)(hi:i<5)(h:ZK v ((i+s)%5)≠[59]):gY ((J4 v s).take (i+1))=gY ((J4 v s).take i)++yD ((i+s)%5)++[32,61,32]++ZK v ((i+s)%5)++[59,10]:=by
 have hl:(J4 v s).length=5:=by unfold J4;simp
 rw[KV _ i (by omega)];have e:(J4 v s).getD i []=[yD ((i+s)%5),[61],ZK v ((i+s)%5),[59]]:=by unfold J4;simp[List.getD,hi]
 rw[e];simp only[mV,F7];rw[tb (by decide),tb h,tl trivial];simp
theorem Uq(w:World)(g:Nat)(v:FV)(c:Int)(hV:YI w g v)(hR:∀j,j<3->0<=v.inn j/\v.inn j<=9998)(hc:qS c)(hT:aN w) :
 Calls Tryz.prog 14 #[.pointer (some ⟨g,0,none⟩),.int .i64 c] w fun e w'=>e=.returned (.string ⟨(aK v (sS c 5).toNat).toArray⟩)/\Below w.heap.size w w':=by
 obtain⟨pb0,pb1⟩:=uO c 5 (by omega)
 have HPk:Hid (∀w':World,Calls Tryz.prog 41 #[.int .i64 c,.int .i64 5] w' fun e w''=>e=.returned (.int .i64 (((sS c 5).toNat:Nat):Int))/\w''=w'):=fun w'=>by
  have:=wT w' c 5 hc (by omega) (by omega);rw[show (((sS c 5).toNat:Nat):Int)=sS c 5 by omega];exact this
 have hp:(sS c 5).toNat<5:=by omega
 generalize (sS c 5).toNat=p at *;have HVb:=zA (fun w' (hb:Below w.heap.size w w')=>hV.below hb);have HTb:=zA (fun w' (hb:Below w.heap.size w w')=>hT.below hb);have HR:=zA hR;have HEnd:Hid (aK v p=gY ((J4 v p).take 5)):=by unfold Hid aK;rw[di (by unfold J4;simp)]
 clear hV hR hc hT pb0 pb1;generalize aK v p=R at *
 go_enter Tryz.func14,Tryz.ntmps14
 go_wp2_with fail
 go_loopw [5,6] (fun sv iv wr=>∃(i:Nat) (t:Bs),i<=5/\sv=.string ⟨t.toArray⟩/\iv=.int .i64 i/\t.length<=i*20/\Hid (t=gY ((J4 v p).take i))/\Hid (Below w.heap.size w wr)) (fun _ iv _=>5-(intOf iv).toNat)
 case atStart=>exact⟨0,[],tx _,rfl,rfl,by simp,zA rfl,zA (tg _ _)⟩
 case round =>
  obtain⟨i,t,hi5,rfl,rfl,ht,HE,HB⟩:=hrel;by_cases zLL:i<5
  ·have c1:(i:Int)<5:=by omega
   have hj5:(i+p)%5<5:=Nat.mod_lt _ (by decide)
   have hmod:((i:Int)+(p:Int)).tmod 5=(((i+p)%5:Nat):Int):=by
    rw[show ((i:Int)+(p:Int))=((i+p:Nat):Int) by omega];rfl
   have hmod2:((i:Int)+(p:Int))%5=(((i+p)%5:Nat):Int):=by omega
   obtain⟨n59,l4⟩:=zJJ v ((i+p)%5) (fun h=>HR.out _ h);have HS:Hid (gY ((J4 v p).take (i+1))=t++yD ((i+p)%5)++[32,61,32]++ZK v ((i+p)%5)++[59,10]):=by unfold Hid;rw[HE.out];exact zFS v p i zLL n59
   have l2:(yD ((i+p)%5)).length=2:=(show ∀j,j<5->(yD j).length=2 by decide) _ hj5;have zM9:=zA (fun w'=>dC w' ((i+p)%5) hj5);clear n59;generalize (i+p)%5=j at *;generalize yD j=nj at *;go_wp2_with fail
   refine(HPk.out _).mono ?_;rintro e w' ⟨rfl,hw⟩;obtain rfl:=hw.symm;go_wp2_with fail
   refine(zM9.out _).mono ?_;rintro e w2 ⟨rfl,hb2⟩;have HB2:Hid (Below w.heap.size w w2):=HB.out.trans (hb2.mono HB.out.size);have m0:=(HVb.out w2 HB2.out).cells.1 j hj5;clear hb2 HE zM9 HPk hmod hmod2;by_cases h3:j<3
   ·have c3:(j:Int)<3:=by omega
    obtain⟨r0,r1⟩:=HR.out j h3;have HIt:=zA (Zh w2 (v.inn j) r0 (by omega) (HTb.out w2 HB2.out));have HS2:Hid (gY ((J4 v p).take (i+1))=t++nj++[32,61,32]++Lib.itoa (v.inn j)++[59,10]):=by have:=HS.out;unfold ZK at this;rw[tl h3]at this;exact this
    have l5:(Lib.itoa (v.inn j)).length<=4:=by unfold ZK at l4;rw[tl h3]at l4;exact l4
    clear HS l4;generalize v.inn j=z at *;generalize Lib.itoa z=tz at *;go_wp2_with fail
    refine HIt.out.mono ?_;rintro e w3 ⟨rfl,hb3⟩;have HB3:Hid (Below w.heap.size w w3):=HB2.out.trans (hb3.mono HB2.out.size);clear hb3 HIt;go_wp2_with fail
    go_roundw
    case rel=>exact⟨i+1,t++nj++[32,61,32]++tz++[59,10],by omega,by rw[<-jZ,<-jZ,<-jZ,<-jZ],by go_num,by simp;omega,zA HS2.out.symm,HB3⟩
    case measure=>simp[intOf];omega
   ·have c3:¬(j:Int)<3:=by omega
    rcases gL (v:=v) h3 with ⟨e,e1⟩|⟨e,e1⟩
    ·rw[e]at HS
     rw[e1]at m0;clear e e1 l4;go_wp2_with fail
     go_roundw
     case rel=>exact⟨i+1,t++nj++[32,61,32]++[121,101,115]++[59,10],by omega,by rw[<-jZ,<-jZ,<-jZ,<-jZ],by go_num,by simp;omega,zA HS.out.symm,HB2⟩
     case measure=>simp[intOf];omega
    ·rw[e]at HS
     have b1:(v.inn j==1)=false:=by rw[ml];exact e1
     clear e e1 l4;generalize v.inn j=z at *;go_wp2_with fail
     go_roundw
     case rel=>exact⟨i+1,t++nj++[32,61,32]++[110,111]++[59,10],by omega,by rw[<-jZ,<-jZ,<-jZ,<-jZ],by go_num,by simp;omega,zA HS.out.symm,HB2⟩
     case measure=>simp[intOf];omega
  ·obtain rfl:i=5:=by omega
   have HF:Hid (t=R):=by unfold Hid;rw[HE.out,HEnd.out]
   clear HE HEnd;go_wp2_with fail
   go_ret
   exact⟨by rw[HF.out];rfl,HB.out⟩
variable {M:yB}
theorem ya(w:World)(td:Bs)(HB:World->Nat->Prop)(hL:Calls Tryz.prog 27 #[.string ⟨td.toArray⟩,.bool false] w fun e w'=>zLD HB w w' e) :
 Calls Tryz.prog 11 #[.string ⟨td.toArray⟩] w fun e w'=>∃b:Nat,e=.returned (.tuple #[.pointer (some ⟨b,0,none⟩),.bool true])/\HB w' b/\Below w.heap.size w w':=by
 have HL:=zA hL;clear hL
 go_enter Tryz.func11,Tryz.ntmps11
 go_wp2_with fail
 refine HL.out.mono ?_;rintro e w1 ⟨b,rfl,hB,hb⟩;have HHB:=zA hB;have HBl:=zA hb;clear hB hb HL;go_wp2_with fail
 go_ret2
 exact⟨b,rfl,HHB.out,HBl.out⟩
end Go.Proofs.YtnbpdffdnphbeabGreatDoor
