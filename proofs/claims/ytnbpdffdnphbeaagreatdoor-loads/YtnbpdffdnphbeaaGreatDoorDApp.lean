import Derived.Test.YtnbpdffdnphbeaaGreatDoorDHolds
set_option maxHeartbeats 2000000
set_option maxRecDepth 100000
namespace Go.Proofs.YtnbpdffdnphbeaaGreatDoor
open Go.RowKit
variable{l:List Int}{g:Nat}{w:World}
def zGT:kK:=⟨0,0⟩
def Q5(x:RX):Value:=.agg #[.string ⟨x.1.label.toArray⟩,.int .i64 x.1.head,x.2.1,x.2.2]
def bN(ins:Nat)(vs:List Int)(l:List kK):Bool:=l.all fun p => !(decide ((ins:Int)<=p.a)&&(YZ vs p.a != 1))
def kB(ins:Nat)(vs:List Int)(r:pT):Bool:=bN ins vs r.parts&&bV vs r.steps
def Zw(ins:Nat)(vs:List Int)(r:pT):Prop:=(∀p∈r.parts,(ins:Int)<=p.a->C2 vs p.a)/\eA vs r.steps []
theorem UF{α:Type}(p:α->Bool)(d:α)(l:List α)(i:Nat)(h:i<l.length):(l.drop i).all p=(p (l.getD i d)&&(l.drop (i+1)).all p):=by
 rw[pb h,List.all_cons];simp[List.getD,h]
theorem Zs{α:Type}{l:List α}{i:Nat}(d:α)(h:i<l.length):l.getD i d∈l:=by simp[List.getD,h]
theorem JO(w:World)(b:Nat)(x:RX)(ins:Nat)(va:Option Addr)(vc:Nat)(vs:List Int)(hx:nO w x)(hi:w.cell? ⟨b,2,none⟩=some (.int .i64 (ins:Int)))(hv:lD w va vs)(zIV:Zw ins vs x.1) :
 Calls Tryz.prog 43 #[.pointer (some ⟨b,0,none⟩),Q5 x,.slice va vs.length vc] w fun e w'=>e=.returned (.bool (kB ins vs x.1))/\Below w.heap.size w w':=by
 obtain⟨pa,pc,e1,hp⟩:=hx.parts;obtain⟨sa,sc,e2,hs⟩:=hx.steps;have hfp:=hx.few1;have HHo:=zA (fun w' (hb:Below w.heap.size w w')=>zER w' sa va sc vc x.1.steps vs (hs.cel.below hb) hx.few2 (hv.below hb) zIV.2);have HP:=zA hp.cel;have HV:=zA hv;have HOk:=zA zIV.1;have HR:Hid (kB ins vs x.1=(bN ins vs x.1.parts&&bV vs x.1.steps)):=rfl;have hbl:=zT hi;have nb:w.heap.size≠b:=by omega
 obtain⟨⟨lab,hd,ps,ss⟩,pv,sv⟩:=x;simp only at e1 e2 HHo HP HOk hfp HR;subst e1 e2;simp only[Q5];clear hx hp hs hv zIV;generalize bV vs ss=hh at *;generalize kB ins vs ⟨lab,hd,ps,ss⟩=ans at *
 go_enter Tryz.func43,Tryz.ntmps43
 go_wp2_with fail
 go_loop [7] (fun iv=>∃(i:Nat),i<=ps.length/\iv=.int .i64 i/\Hid ((bN ins vs (ps.drop i)&&hh)=ans)) (fun iv=>ps.length-(intOf iv).toNat)
 case atStart=>exact⟨0,tr _,rfl,zA HR.out.symm⟩
 case round =>
  obtain⟨i,hii,rfl,HE⟩:=hrel;by_cases zIB:i<ps.length
  ·obtain⟨gp,rfl,q0⟩:=HP.out.at ((zW gJ 2 (fun _=>rfl) zGT ps i 0 zIB (by decide)).trans rfl)
   rw[pq]at q0;have hE:=HE.out;unfold bN at hE;rw[UF _ zGT _ i zIB]at hE;have zIR:=HOk.out _ (Zs zGT zIB);have HE2:=zA hE;have lgp:=zT q0;have mgp:w.heap.size≠gp:=by omega
   clear HE hE;generalize ps.getD i zGT=p at *;obtain⟨pa,pn⟩:=p;simp only at q0 zIR HE2;by_cases k1:(ins:Int)<=pa
   ·obtain⟨j1,j2⟩:=zIR k1
    obtain⟨na,rfl⟩:∃n:Nat,pa=(n:Int):=⟨pa.toNat,by omega⟩;obtain⟨gv,rfl,cv⟩:=HV.out.at (show na<vs.length by omega);have lgv:=zT cv;have mgv:w.heap.size≠gv:=by omega
    have hna:na<vs.length:=by omega
    simp only[YZ,Int.toNat_natCast]at HE2;generalize vs.getD na 0=xv at *;clear zIR j1 j2;by_cases k2:xv=1
    ·have HE3:Hid ((bN ins vs (ps.drop (i+1))&&hh)=ans):=by have:=HE2.out;rw[show (xv != 1)=false by simpa using k2]at this;simpa[bN,Hid] using this
     have b2:(xv != 1)=false:=by simpa using k2
     clear HE2 k2;go_wp2_with fail
     go_round
     case rel=>exact⟨i+1,by omega,by go_num,HE3⟩
     case measure=>simp[intOf];omega
    ·have HE3:Hid (ans=false):=by
      have:=HE2.out;rw[tm k1,show (xv != 1)=true by simpa using k2]at this;simpa[Hid] using this.symm
     have b2:(xv != 1)=true:=by simpa using k2
     have b3:(xv==1)=false:=by simpa using k2
     clear HE2 k2;go_wp2_with fail
     go_ret
     exact⟨zE HE3.out.symm,gj (t9 _) _⟩
   ·have HE3:Hid ((bN ins vs (ps.drop (i+1))&&hh)=ans):=by have:=HE2.out;rw[th k1]at this;simpa[bN,Hid] using this
    clear HE2 zIR;go_wp2_with fail
    go_round
    case rel=>exact⟨i+1,by omega,by go_num,HE3⟩
    case measure=>simp[intOf];omega
  ·have HE3:Hid (hh=ans):=by have:=HE.out;rw[tu (by omega)]at this;simpa[bN,Hid] using this
   clear HE;go_wp2_with fail
   refine(HHo.out _ (gj (t9 _) _)).mono ?_;rintro e w2 ⟨rfl,hb2⟩;have HB2:Hid (Below w.heap.size w w2):=(gj (t9 _) _).trans (hb2.mono (by simp));clear hb2;go_wp2_with fail
   go_ret
   exact⟨zE HE3.out,HB2.out⟩
def iC(l:List Int):Array Value:=(vC l).toArray
theorem zA8{k:Nat}(hk:k<l.length):(iC l)[k]? = some (.int .i64 (l.getD k 0)):=by
 unfold iC;rw[cy];exact bU l k hk
def bG(w:World)(g:Nat)(l:List Int):Prop:=w.heap[g]? = some (.cells (iC l) 3 (0,0))
theorem bG.cell(h:bG w g l){k:Nat}(hk:k<l.length):w.cell? ⟨g,k,none⟩=some (.int .i64 (l.getD k 0)):=(zD h k).trans (zA8 hk)
theorem bG.free(h:bG w g l)(k:Nat):w.frozen? ⟨g,k,none⟩=false:=by simp[World.frozen?,show w.heap[g]? = _ from h]
theorem bG.lt(h:bG w g l):g<w.heap.size:=yI h
theorem bG.set(h:bG w g l)(k:Nat)(b:Int):bG (w.setCell ⟨g,k,none⟩ (.int .i64 b)) g (l.set k b):=by
 unfold bG at h ⊢;rw[setCell_eq_setRow w g k _ _ _ _ h,lk w g (iC l) _ _ _ h];congr 2
 unfold iC vC;simp[List.map_set]
theorem bG.below{w':World}(h:bG w g l)(hb:Below w.heap.size w w'):bG w' g l:=by
 have hl:=h.lt;unfold bG at h ⊢;rw[hb.block g hl];exact h
theorem bG.other(h:bG w g l){p:Addr}(hp:g≠p.block)(u:Value):bG (w.setCell p u) g l:=by
 unfold bG at h ⊢;rw[ly _ _ _ _ hp];exact h
theorem bG.ints(h:bG w g l)(hf:l.length<=10000):lD w (some ⟨g,0,none⟩) l:=by
 refine⟨?_,hf⟩;rcases Nat.eq_zero_or_pos l.length with h0|h0
 ·exact .inl (by rw[mu h0];rfl)
 ·exact .inr ⟨g,rfl,fun j hj=>by rw[G7]at hj;rw[h.cell hj,bU l j hj]⟩
theorem Jp(n:Nat):madeCells #[Value.int .i64 0] n=iC (List.replicate n 0):=by
 apply Array.ext
 ·simp[madeCells,iC,vC]
 ·intro i h1 h2
  simp[madeCells,iC,vC,Nat.mod_one]
theorem nE:(Tryz.prog.info? 3).map (fun i=>(i.zero,i.size,i.bytes))=some (some (.int .i64 0),1,8):=by kernel_rfl
structure zFB where
 rules:List Int
 kinds:List Int
 vals:List Int
structure zB9(w:World)(ra ka va:Option Addr)(W:zFB):Prop where
 rules:lD w ra W.rules
 kinds:lD w ka W.kinds
 vals:lD w va W.vals
theorem zB9.below{w':World}{ra ka va:Option Addr}{W:zFB}(h:zB9 w ra ka va W)(hb:Below w.heap.size w w'):zB9 w' ra ka va W:=⟨h.rules.below hb,h.kinds.below hb,h.vals.below hb⟩
theorem zAI{a b:List Int}(hl:a.length=b.length)(h:∀j,j<a.length->a.getD j 0=b.getD j 0):a=b:=by
 apply List.ext_getElem?
 intro j;rcases po j a.length with h1|h1
 ·have:=h j h1
  simp only[List.getD,pe h1,pe (show j<b.length by omega),Option.getD_some]at this;rw[pe h1,pe (show j<b.length by omega),this]
 ·rw[gf h1,gf (by omega)]
theorem aM(l:List Int)(i j:Nat)(x:Int)(hi:i<l.length):(l.set i x).getD j 0=if j=i then x else l.getD j 0:=by
 simp only[List.getD,List.getElem?_set];by_cases h:j=i
 ·subst h;simp[hi]
 ·rw[tg (fun e=>h e.symm),tg h]
end Go.Proofs.YtnbpdffdnphbeaaGreatDoor
