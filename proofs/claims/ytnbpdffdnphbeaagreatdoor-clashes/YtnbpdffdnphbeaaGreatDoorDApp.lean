import Derived.Test.YtnbpdffdnphbeaaGreatDoorDHolds
set_option maxHeartbeats 2000000
set_option maxRecDepth 100000
namespace Go.Proofs.YtnbpdffdnphbeaaGreatDoor
open Go.RowKit
variable{l:List Int}{g:Nat}{w:World}
def zGN:kN:=⟨0,0⟩
def Qm(x:RX):Value:=.agg #[.string ⟨x.1.label.toArray⟩,.int .i64 x.1.head,x.2.1,x.2.2]
def bO(ins:Nat)(vs:List Int)(l:List kN):Bool:=l.all fun p => !(decide ((ins:Int)<=p.a)&&(Xf vs p.a != 1))
def qR(ins:Nat)(vs:List Int)(r:pU):Bool:=bO ins vs r.parts&&bX vs r.steps
def Zw(ins:Nat)(vs:List Int)(r:pU):Prop:=(∀p∈r.parts,(ins:Int)<=p.a->CC vs p.a)/\eB vs r.steps []
theorem UJ{α:Type}(p:α->Bool)(d:α)(l:List α)(i:Nat)(h:i<l.length):(l.drop i).all p=(p (l.getD i d)&&(l.drop (i+1)).all p):=by
 rw[pb h,List.all_cons];simp[List.getD,h]
theorem nN{α:Type}{l:List α}{i:Nat}(d:α)(h:i<l.length):l.getD i d∈l:=by simp[List.getD,h]
theorem aS(w:World)(b:Nat)(x:RX)(ins:Nat)(va:Option Addr)(vc:Nat)(vs:List Int)(hx:nU w x)(hi:w.cell? ⟨b,2,none⟩=some (.int .i64 (ins:Int)))(hv:mM w va vs)(zIP:Zw ins vs x.1) :
 Calls Tryz.prog 43 #[.pointer (some ⟨b,0,none⟩),Qm x,.slice va vs.length vc] w fun e w'=>e=.returned (.bool (qR ins vs x.1))/\Below w.heap.size w w':=by
 obtain⟨pa,pc,e1,hp⟩:=hx.parts;obtain⟨sa,sc,e2,hs⟩:=hx.steps;have hfp:=hx.few1;have HHo:=zA (fun w' (hb:Below w.heap.size w w')=>zEJ w' sa va sc vc x.1.steps vs (hs.cel.below hb) hx.few2 (hv.below hb) zIP.2);have HP:=zA hp.cel;have HV:=zA hv;have HOk:=zA zIP.1;have HR:Hid (qR ins vs x.1=(bO ins vs x.1.parts&&bX vs x.1.steps)):=rfl;have hbl:=zP hi;have nb:w.heap.size≠b:=by omega
 obtain⟨⟨lab,hd,ps,ss⟩,pv,sv⟩:=x;simp only at e1 e2 HHo HP HOk hfp HR;subst e1 e2;simp only[Qm];clear hx hp hs hv zIP;generalize bX vs ss=hh at *;generalize qR ins vs ⟨lab,hd,ps,ss⟩=ans at *
 go_enter Tryz.func43,Tryz.ntmps43
 go_wp2_with fail
 go_loop [7] (fun iv=>∃(i:Nat),i<=ps.length/\iv=.int .i64 i/\Hid ((bO ins vs (ps.drop i)&&hh)=ans)) (fun iv=>ps.length-(intOf iv).toNat)
 case atStart=>exact⟨0,tr _,rfl,zA HR.out.symm⟩
 case round =>
  obtain⟨i,hii,rfl,HE⟩:=hrel;by_cases zI6:i<ps.length
  ·obtain⟨gp,rfl,q0⟩:=HP.out.at ((zV gM 2 (fun _=>rfl) zGN ps i 0 zI6 (by decide)).trans rfl)
   rw[pq]at q0;have hE:=HE.out;unfold bO at hE;rw[UJ _ zGN _ i zI6]at hE;have zIK:=HOk.out _ (nN zGN zI6);have HE2:=zA hE;have lgp:=zP q0;have mgp:w.heap.size≠gp:=by omega
   clear HE hE;generalize ps.getD i zGN=p at *;obtain⟨pa,pn⟩:=p;simp only at q0 zIK HE2;by_cases k1:(ins:Int)<=pa
   ·obtain⟨j1,j2⟩:=zIK k1
    obtain⟨na,rfl⟩:∃n:Nat,pa=(n:Int):=⟨pa.toNat,by omega⟩;obtain⟨gv,rfl,cv⟩:=HV.out.at (show na<vs.length by omega);have lgv:=zP cv;have mgv:w.heap.size≠gv:=by omega
    have hna:na<vs.length:=by omega
    simp only[Xf,Int.toNat_natCast]at HE2;generalize vs.getD na 0=xv at *;clear zIK j1 j2;by_cases k2:xv=1
    ·have HE3:Hid ((bO ins vs (ps.drop (i+1))&&hh)=ans):=by have:=HE2.out;rw[show (xv != 1)=false by simpa using k2]at this;simpa[bO,Hid] using this
     have b2:(xv != 1)=false:=by simpa using k2
     clear HE2 k2;go_wp2_with fail
     go_round
     case rel=>exact⟨i+1,by omega,by go_num,HE3⟩
     case measure=>simp[intOf];omega
    ·have HE3:Hid (ans=false):=by
      have:=HE2.out;rw[tm k1,show (xv != 1)=true by simpa using k2]at this;simpa[Hid] using this.symm
     have b2:(xv != 1)=true:=by simpa using k2
     have b3:(xv==1)=false:=by simpa using k2
     clear HE2 k2;go_wp2_with fail
     go_ret
     exact⟨zE HE3.out.symm,ge (t9 _) _⟩
   ·have HE3:Hid ((bO ins vs (ps.drop (i+1))&&hh)=ans):=by have:=HE2.out;rw[th k1]at this;simpa[bO,Hid] using this
    clear HE2 zIK;go_wp2_with fail
    go_round
    case rel=>exact⟨i+1,by omega,by go_num,HE3⟩
    case measure=>simp[intOf];omega
  ·have HE3:Hid (hh=ans):=by have:=HE.out;rw[tu (by omega)]at this;simpa[bO,Hid] using this
   clear HE;go_wp2_with fail
   refine(HHo.out _ (ge (t9 _) _)).mono ?_;rintro e w2 ⟨rfl,hb2⟩;have HB2:Hid (Below w.heap.size w w2):=(ge (t9 _) _).trans (hb2.mono (by simp));clear hb2;go_wp2_with fail
   go_ret
   exact⟨zE HE3.out,HB2.out⟩
def iC(l:List Int):Array Value:=(vD l).toArray
theorem zA3{k:Nat}(hk:k<l.length):(iC l)[k]? = some (.int .i64 (l.getD k 0)):=by
 unfold iC;rw[cy];exact bW l k hk
def tT(w:World)(g:Nat)(l:List Int):Prop:=w.heap[g]? = some (.cells (iC l) 3 (0,0))
theorem tT.cell(h:tT w g l){k:Nat}(hk:k<l.length):w.cell? ⟨g,k,none⟩=some (.int .i64 (l.getD k 0)):=(zD h k).trans (zA3 hk)
theorem tT.free(h:tT w g l)(k:Nat):w.frozen? ⟨g,k,none⟩=false:=by simp[World.frozen?,show w.heap[g]? = _ from h]
theorem tT.lt(h:tT w g l):g<w.heap.size:=yK h
theorem tT.set(h:tT w g l)(k:Nat)(b:Int):tT (w.setCell ⟨g,k,none⟩ (.int .i64 b)) g (l.set k b):=by
 unfold tT at h ⊢;rw[setCell_eq_setRow w g k _ _ _ _ h,ly w g (iC l) _ _ _ h];congr 2
 unfold iC vD;simp[List.map_set]
theorem tT.below{w':World}(h:tT w g l)(hb:Below w.heap.size w w'):tT w' g l:=by
 have hl:=h.lt;unfold tT at h ⊢;rw[hb.block g hl];exact h
theorem tT.other(h:tT w g l){p:Addr}(hp:g≠p.block)(u:Value):tT (w.setCell p u) g l:=by
 unfold tT at h ⊢;rw[lq _ _ _ _ hp];exact h
theorem tT.ints(h:tT w g l)(hf:l.length<=10000):mM w (some ⟨g,0,none⟩) l:=by
 refine⟨?_,hf⟩;rcases Nat.eq_zero_or_pos l.length with h0|h0
 ·exact .inl (by rw[mu h0];rfl)
 ·exact .inr ⟨g,rfl,fun j hj=>by rw[GB]at hj;rw[h.cell hj,bW l j hj]⟩
theorem ZK(n:Nat):madeCells #[Value.int .i64 0] n=iC (List.replicate n 0):=by
 apply Array.ext
 ·simp[madeCells,iC,vD]
 ·intro i h1 h2
  simp[madeCells,iC,vD,Nat.mod_one]
theorem dV:(Tryz.prog.info? 3).map (fun i=>(i.zero,i.size,i.bytes))=some (some (.int .i64 0),1,8):=by kernel_rfl
structure zF4 where
 rules:List Int
 kinds:List Int
 vals:List Int
structure zB2(w:World)(ra ka va:Option Addr)(W:zF4):Prop where
 rules:mM w ra W.rules
 kinds:mM w ka W.kinds
 vals:mM w va W.vals
theorem zB2.below{w':World}{ra ka va:Option Addr}{W:zF4}(h:zB2 w ra ka va W)(hb:Below w.heap.size w w'):zB2 w' ra ka va W:=⟨h.rules.below hb,h.kinds.below hb,h.vals.below hb⟩
theorem Uy{a b:List Int}(hl:a.length=b.length)(h:∀j,j<a.length->a.getD j 0=b.getD j 0):a=b:=by
 apply List.ext_getElem?
 intro j;rcases po j a.length with h1|h1
 ·have:=h j h1
  simp only[List.getD,pe h1,pe (show j<b.length by omega),Option.getD_some]at this;rw[pe h1,pe (show j<b.length by omega),this]
 ·rw[fw h1,fw (by omega)]
theorem nM(l:List Int)(i j:Nat)(x:Int)(hi:i<l.length):(l.set i x).getD j 0=if j=i then x else l.getD j 0:=by
 simp only[List.getD,List.getElem?_set];by_cases h:j=i
 ·subst h;simp[hi]
 ·rw[tg (fun e=>h e.symm),tg h]
end Go.Proofs.YtnbpdffdnphbeaaGreatDoor
