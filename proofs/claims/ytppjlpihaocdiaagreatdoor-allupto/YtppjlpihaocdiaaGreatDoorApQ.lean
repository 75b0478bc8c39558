import Derived.Test.YtppjlpihaocdiaaGreatDoorAiQ
import Derived.Test.YtppjlpihaocdiaaGreatDoorAgQ
set_option linter.all false
set_option maxRecDepth 100000
set_option maxHeartbeats 16000000
namespace Go.Proofs.YtppjlpihaocdiaaGreatDoor
open Go.RowKit Go.Proofs.Tryz
variable{w u v:ae}{a b c d e:Nat}{s t:ag}{x y z:af}{p D:Int}{l:List af}{f:Bool}{g:List Nat}{h:Nat->Prop}{o:Option Addr}{r:List UInt8}{A:Nat->Bool}{B:Nat->Nat->Bool}{C:Nat->Nat->Prop}(i:Nat)(S T:ag)(V X:af)(j k m n:Nat)(Z:Int)(W:ae)
section
def ady:(prog.info? 3).map (λa=>(a.zero,a.size,a.bytes))=some (some<|I 0,1,8):=qF
section
variable {ch:bs->bs×Nat} {s:ag}
def Oz(a:bs)(c:Nat)(b:Nd):a.l.length<=(cp a c b).1.l.length:=by simp[cp]
def ape(b:∀a,a.l.length<=(ch a).1.l.length)(a:bs):a.l.length<=(qv ch s a).1.l.length:=by
 unfold qv;simp only
 (repeat' split)<;>first|exact Oz _ _ _|exact bq (b ⟨a.H+1,a.g+1,a.l⟩)<|Oz _ _ _
def adf(c:∀a,a.l.length<=(ch a).1.l.length)(a:bs):a.l.length<=(xc ch s a).1.l.length:=by
 have b:=ape (s:=s) c a;unfold xc;simp only
 (repeat' split)<;>first|exact bq b (Oz _ _ _)|exact b
def ade(b:List Nat)(a:bs):a.l.length<=(joinF i b a).1.l.length:=by
 unfold joinF;split
 .exact ah
 exact Oz _ _ _
def Uq(c:∀a,a.l.length<=(ch a).1.l.length):∀(f:Nat)(a:bs)(b:List Nat),a.l.length<=(wayL ch s f a b).1.l.length
 |0,a,b=>ah
 |f+1,a,b=>by
  have d:=adf (s:=s) c a;unfold wayL;simp only;split
  .exact bq d<|Uq c f _ _
  exact bq d<|ade _ _ _
def adc(c:∀a,a.l.length<=(ch a).1.l.length):∀(f:Nat)(a:bs)(b:List Nat),a.l.length<=(wy ch s f a b).1.l.length
 |0,a,b=>ah
 |f+1,a,b=>by
  have d:a.l.length<=(wt ch s a).1.l.length:=Uq c _ _ _;unfold wy;simp only;split
  .exact bq d<|adc c f ⟨(wt ch s a).1.H+1,(wt ch s a).1.g,(wt ch s a).1.l⟩ _
  exact bq d<|ade _ _ _
end
def Up(s:ag):∀(n:Nat)(a:bs),a.l.length<=(ml s n a).1.l.length
 |0,a=>ah
 |n+1,a=>adc (Up s n) _ _ _
structure Zs(w wr:ae)(b i o:Nat)(n:NX)(s:ag)(nv kv:af)(j g':Nat)(n':NX)(nv':af)(zs:List Nat)(st:St):Prop where
 rd:Qqk wr b s j o g' nv' n'
 fr:Qql b nv nv' w wr
 kd:Qqt wr w.heap.size nv' kv zs
 run:run s j=some st
 o:st.o=o
 a:st.a=g'
 ij:i+zs.length<=j
 nn:n'.l.length+zs.length+2*i<=n.l.length+2*j
 X:n'.X=λk=>n.X k\/kv.ownBlock=some k
 zn:∀z∈zs,z<n'.l.length
def ou.ofX{xs:List af}{e:NX}(k:ou w a x xs e)(o:∀b,b<w.heap.size->b≠a->some b≠x.ownBlock->¬e.X b->u.heap[b]?=w.heap[b]?):ou u a x xs e:=λb j hd=>by
 let⟨l,m,n,p,q,r,t,c,v,y⟩:=k b j hd;refine⟨l,m,n,p,q,r,t,?_,v,y⟩;obtain c|⟨d,z,f,g,h,A⟩:=c
 .exact .inl c
 refine .inr ⟨d,z,f,g,h,λb B C=>?_⟩;have:=A b B C;exact(ac b<|o d (dw w _ this) f (λi=>g i.symm) h).trans this
theorem ad8{l wr d:ae}{b v:Nat}{s:ag}{B j:af}{t r:Nat}{u p:NX}{i:af}{m:List Nat}{o:Nat}{g y:Nat}
  (a5:b<l.heap.size) (C:Qqk wr b s t v r i p) (a2:p.X=λa=>u.X a\/j.ownBlock=some a) (k:Qql b B i l wr) (z:Qqt wr l.heap.size i j m)
  (H:d.ownsRow l.heap.size 3 1 (aa g (m.length+1) y) (m.length+1) ((m.map λo:Nat=>I o)++[I o]))
  (q:(wr.alloc<|.cells #[I o] 3).grownBy d j.ownBlock) (D:j.ownBlock=some g\/g=wr.heap.size+1):
  Qqk d b s t v r i ⟨p.l,λa=>u.X a\/(aa g (m.length+1) y).ownBlock=some a⟩/\Qql b B i l d/\Qqt d l.heap.size i (aa g (m.length+1) y) (m++[o]):=by
 have a6:(wr.alloc<|.cells #[I o] 3).heap.size=wr.heap.size+1:=qD
 have w:∀a,a<wr.heap.size->some a≠j.ownBlock->d.heap[a]?=wr.heap[a]? :=λa c K=>by
  rw[q.block a Q K,im _ _ _ c]
 have E:∀a,j.ownBlock=some a->l.heap.size<=a/\a<wr.heap.size:=λa c=>z.own.lt a c
 have a7:=q.size;refine⟨?_,?_,?_⟩
 .have L:Qqk wr b s t v r i ⟨p.l,λa=>(u.X a\/j.ownBlock=some a)\/g=a⟩:=Qqk.tu C _ (λa c e=>by
   grind)
  let⟨⟨F,M,P,qa,R⟩,S,T,U,V,W,X,⟨xs,x,Z⟩,a0⟩:=L;have a1:b<wr.heap.size:=dw wr _ F;have A:=w b a1 (λf=>qE);have h:∀a,d.cell? (O b a)=wr.cell? (O b a):=λa=>ac a A
  have n:∀a,d.frozen? (O b a)=wr.frozen? (O b a):=λa=>ad a A
  have a3:Qqk d b s t v r i ⟨p.l,λa=>(u.X a\/j.ownBlock=some a)\/g=a⟩:=⟨⟨(h 0).trans F,(h 1).trans M,(n 1).trans P,qa,R⟩,(h 2).trans S,(h 3).trans T,(h 4).trans U,(n 2).trans V,(n 3).trans W,(n 4).trans X,⟨xs,
   Qqo x λa c=>w a (x.lt a c).2<|λf=>z.ne a f.symm c,Z.ofX λa c _ _ a4=>w a c<|λf=>a4<|.inl<|.inr f.symm⟩,a0⟩
  exact Qqk.tu a3 _ (λa _ e=>by
   obtain e|e:=e
   .grind
   exact .inr<|by simpa[Value.ownBlock]using e)
 .refine⟨q.os.trans k.os,q.tape.trans k.tape,q.output.trans k.output,by have:=k.size;omega,λa c h n=>?_,k.km⟩;rw[w a (by have:=k.size;omega) (λf=>qE)];exact k.block a c h n
 refine⟨?_,λa c=>?_⟩
 .grind
 have h:g=a:=by simpa[Value.ownBlock]using c
 subst h;obtain f|f:=D
 .exact z.ne g f
 intro e
 let⟨xs,x,_⟩:=C.own;have:=(x.lt g e).2;omega
def Va{e:Nat}{c:List Nat}{d:bs}(f:2<=c.length):joinF e c d=cp d d.H (ct e c):=by
 match c,f with
 |a::b::l,_=>rfl
theorem Za(a5:Hj i)(j k C t:Nat)(d:NX)(s:ag)(T:af)(z:St)(m:ae)(f:Cl i m j k C t d s T z):
  Calls prog 99 #[.pointer (some ⟨j,0,none⟩)] m fun B b7=>∃(E:Int) (U:Bool),B= .returned (.tuple #[.int .i64 E, .bool U])/\ul j s k C d T m (aal s) (wt (ml s i) s ⟨k,t,d.l⟩) E U b7:=by
 generalize a:wt (ml s i) s ⟨k,t,d.l⟩=b8;have a6:=J a;clear a;have a7:=f.rd;have b9:=f.n2;have bA:=f.rd.rc.li;have bD:=f.N;have H:j<m.heap.size:=dw m _ f.rd.rc.c0;have aN:=J a5;obtain ⟨aO,aP,aQ,aR,aS⟩:=info_parts ady;clear a5;go_in;go_wp21;go_loopw [4] (fun aT wr=>∃o D p P e z a8,Zs m wr j k C d s T aT o D p P e z/\s.size<=a8+o/\Y (wayL (ml s i) s s.size ⟨k,t,d.l⟩ []=wayL (ml s i) s a8 ⟨o,D,p.l⟩ e)/\z.m<=2/\(z.m=0\/ue s o=true)) (fun _ wr=>s.size-Qqx wr j)
 case atStart=>exact ⟨k,t,⟨d.l,fun g=>d.X g\/(Value.slice none 0 0).ownBlock=some g⟩,T, [],z,s.size,⟨Qqk.tu a7 _ (fun g _ u=>u.elim id fun u=>by cases u),Qql.refl _ _ _,⟨World.ownsRow_nil _ _ _ _,fun g aU=>by cases aU⟩,f.run,f.o,f.a,qD,qD,rfl,fun E a9=>by cases a9⟩,Q,rfl,f.m2,f.st⟩
 obtain ⟨o,D,p,P,e,qa,v,a,bE,V,R,c⟩:=hrel;have aV:Y (∀K,p.X K->K<wr.heap.size):=fun K y=>by
  rw [a.X] at y;obtain y|y:=y
  .exact ew (f.X K y) a.fr.size
  exact (a.kd.own.lt K y).2
 have bF:=a.ij;have aW:=a.nn;have bG:=a.rd.rc.le;have aX:=J (Qqy a.rd.rc.c1);have aY:Y (Cl i wr j o C D p s P qa):=⟨a.rd,Q,aV,a.run,a.o,a.a,R,c,Q⟩;clear R c;go_wp21;go_call Wr i aN j o C D p s P qa _ aY as B aA ⟨E,U,rfl,aZ⟩;obtain⟨rfl,c,aB,l,q,b0,w,L,x,M,W,X,bH,bI,aC,aD,rfl,aE,Z⟩|⟨rfl,c,L,x,M⟩:=aZ
 .have aF:=a.kd.fr x H;have aG:=a.fr.trans x;have a0:=J M;have a1:=J aC;have aH:=L.rc.le;have bJ:=aG.size;have a9:e.length<=400:=Q
  have b1:Y (l.X=fun g=>d.X g\/u4.ownBlock=some g):=by rw [Y,aD];exact a.X
  have b2:Y (p.l.length<=l.l.length):=by
   have:=adf (s:=s) (Up s i) ⟨o,D,p.l⟩;rw [Z] at this;exact this
  have a2:Y _:=Z;clear x M aC aD Z;go_wp2_with (at_builtin;refine wpList_append_lies _ rfl _ _ 56 rfl m.heap.size 3 aO (I 0) 1 8 underlying56 aP aQ aR aS rfl Q u4 e.length (e.map fun E:Nat=>I (E:Int)) rfl (aF.own.alloc _) (O aA.heap.size 0) 1 1 [I (w:Int)] rfl rfl (cell_one_new _ _ _) (fun aI aJ=>by simp at aJ;subst aJ;rfl) Q qH Q qB (aA.heap.size+1) qD ?_;intro b3 b4 bK h n r A);have b:=ad8 H L b1 aG aF h n r;have aK:Y (∀S∈e++ [w],S<l.l.length):=fun S F=>by
   obtain F|F:=og.1 F
   .exact ew (a.zn S F) b2
   grind
  have a3:=b.1;have aL:=b.2.1;have aM:=b.2.2;clear b h n r A;refine (Ym j s c _ a3.rc).mono ?_;obtain hs|hs:=df (ue s c)
  .have h:=J hs;rw [hs];clear hs;rintro B w3 ⟨rfl,b⟩;have n:=Mv.Qqp b a3 aH;have r:=aL.trans (Mv.Qqn b q);have A:=aM.fr (Mv.Qqn b q) H;clear b;go_wp21;go_roundw
   case rel=>exact ⟨c,aB,⟨l.l,fun g=>d.X g\/(aa b3 (e.length+1) b4).ownBlock=some g⟩,q,e++ [w],b0,v-1,⟨n,r,A,a0,W,X,qB,qB,rfl,aK⟩,Q,by rw [V.out,show v=(v-1)+1 from Q,wayL];(try simp only);rw [a2.out];(try simp only);rw [G (show om s c=true from h.out)];rfl,by obtain aI|aI:=a1<;>omega, .inr h⟩
   have qa:=Qqy n.rc.c1;have R:=aX;rw [qa,R];omega
  have h:=J hs;rw [hs];clear hs;rintro B w3 ⟨rfl,b⟩;have n:=Mv.Qqp b a3 aH;have r:=aL.trans (Mv.Qqn b q);have A:=aM.fr (Mv.Qqn b q) H;clear b;go_wp21;by_cases b:e= []
  .subst b;go_call ad6 j q _ m.heap.size _ w _ A as B w4 ⟨rfl,a4⟩;subst a4;go_wp21;go_ret2;simp only [List.length_nil] at aW;exact ⟨_,true,rfl, .inl ⟨rfl,_,_,_,q,_,w,(Qqk.tu n d.X (fun g _ u=> .inl u)),r,a0,W,X,Q,qE,⟨a1,h⟩,rfl,rfl,aE,by rw [←a6.out];show wayL (ml s i) s s.size ⟨k,t,d.l⟩ []=_;rw [V.out,show v=(v-1)+1 from Q,wayL];(try simp only);rw [a2.out];(try simp only);rw [N (show ¬om s c=true from by rw [show om s c=ue s c from rfl,h.out];simp)];rfl⟩⟩
  have bL:1<=e.length:=by cases e with|nil=>exact cb rfl b|cons bM bN=>simp
  go_call ad5 j c C aB ⟨l.l,d.X⟩ s q _ m.heap.size _ 5 (e++ [w]) _ (Qqk.tu n d.X (fun g _ u=> .inl u)) qE A qB qB Q rfl f.X H aK as B w4 ⟨a4,rfl,b5,b6⟩;go_wp21;go_ret2;exact ⟨_,true,rfl, .inl ⟨rfl,_,_,_,a4,_,l.l.length,b5,r.trans b6,a0,W,X,Q,by rw [oc];grind,⟨a1,h⟩,rfl,rfl,by rw [oc];grind,by rw [←a6.out];show wayL (ml s i) s s.size ⟨k,t,d.l⟩ []=_;rw [V.out,show v=(v-1)+1 from Q,wayL];(try simp only);rw [a2.out];(try simp only);rw [N (show ¬om s c=true from by rw [show om s c=ue s c from rfl,h.out];simp)];rw [Va qB];rfl⟩⟩
 have b:=J L;have h:=(a.fr.below a7).trans M;have F:=J x;clear L x M;go_wp21;go_ret2;exact ⟨_,false,rfl, .inr ⟨rfl,c,b,F,h⟩⟩
theorem Yo{a:St}(c:a.m=1\/a.m=2):step a 124=some ⟨0,a.o,a.a,a.l⟩:=by
 let⟨d,e,f,g⟩:=a;have h:¬(bn xr 124=true):=by rw[Eh];omega
 simp only at c;have i:step ⟨d,e,f,g⟩ 124=nr ⟨d,e,f,g⟩ 124:=by
  rw[step,N qC,G c]
 rw[i];grind[nr]
theorem alz(aB:Hj i)(f h B t:Nat)(b:NX)(s:ag)(a0:af)(y:St)(n:ae)(k:Cl i n f h B t b s a0 y)(aR:y.m=0):
  Calls prog 64 #[.pointer (some ⟨f,0,none⟩)] n fun P bF=>∃(F:Int) (a1:Bool),P= .returned (.tuple #[.int .i64 F, .bool a1])/\ul f s h B b a0 n (Rm s) (Ta (ml s i) s ⟨h,t,b.l⟩) F a1 bF:=by
 generalize a:Ta (ml s i) s ⟨h,t,b.l⟩=bG;have aC:=J a;clear a;have aD:=k.rd;have bH:=k.n2;have bI:=k.rd.rc.li;have bJ:=k.N;have H:f<n.heap.size:=dw n _ k.rd.rc.c0;have aS:=J aB;obtain ⟨aT,aU,aV,aW,aX⟩:=info_parts ady;clear aB;go_in;go_wp21;go_loopw [4] (fun aY wr=>∃m p l qa c y aE,Zs n wr f h B b s a0 aY m p l qa c y/\s.size<=aE+m/\Y (wy (ml s i) s s.size ⟨h,t,b.l⟩ []=wy (ml s i) s aE ⟨m,p,l.l⟩ c)/\y.m=0) (fun _ wr=>s.size-Qqx wr f)
 case atStart=>exact ⟨h,t,⟨b.l,fun e=>b.X e\/(Value.slice none 0 0).ownBlock=some e⟩,a0, [],y,s.size,⟨Qqk.tu aD _ (fun e _ u=>u.elim id fun u=>by cases u),Qql.refl _ _ _,⟨World.ownsRow_nil _ _ _ _,fun e aZ=>by cases aZ⟩,k.run,k.o,k.a,qD,qD,rfl,fun F aF=>by cases aF⟩,Q,rfl,aR⟩
 obtain ⟨m,p,l,qa,c,R,w,a,bK,a2,S⟩:=hrel;have b0:Y (∀C,l.X C->C<wr.heap.size):=fun C v=>by
  rw [a.X] at v;obtain v|v:=v
  .exact ew (k.X C v) a.fr.size
  exact (a.kd.own.lt C v).2
 have bL:=a.ij;have b1:=a.nn;have bM:=a.rd.rc.le;have b2:=J (Qqy a.rd.rc.c1);have b3:Y (Cl i wr f m B p l s qa R):=⟨a.rd,Q,b0,a.run,a.o,a.a,Q, .inl S,Q⟩;clear S;go_wp21;go_call Za i aS f m B p l s qa R _ b3 as P aG ⟨F,a1,rfl,b4⟩;obtain⟨rfl,U,aH,g,q,a3,x,K,E,M,a4,a5,bN,bO,aI,aJ,rfl,aK,a6⟩|⟨rfl,U,K,E,M⟩:=b4
 .have aL:=a.kd.fr E H;have aM:=a.fr.trans E;have a7:=J M;have a8:=J aI;have b5:=K.rc.le;have bP:=aM.size;have aF:c.length<=400:=Q
  have b6:Y (g.X=fun e=>b.X e\/u4.ownBlock=some e):=by rw [Y,aJ];exact a.X
  have b7:Y (l.l.length<=g.l.length):=by
   have:=Uq (s:=s) (Up s i) s.size ⟨m,p,l.l⟩ [];rw [show wayL (ml s i) s s.size ⟨m,p,l.l⟩ []=wt (ml s i) s ⟨m,p,l.l⟩ from rfl,a6] at this;exact this
  have a9:Y _:=a6;clear E M aI aJ a6;go_wp2_with (at_builtin;refine wpList_append_lies _ rfl _ _ 56 rfl n.heap.size 3 aT (I 0) 1 8 underlying56 aU aV aW aX rfl Q u4 c.length (c.map fun F:Nat=>I (F:Int)) rfl (aL.own.alloc _) (O aG.heap.size 0) 1 1 [I (x:Int)] rfl rfl (cell_one_new _ _ _) (fun L aN=>by simp at aN;subst aN;rfl) Q qH Q qB (aG.heap.size+1) qD ?_;intro b8 b9 bQ j o r z);have d:=ad8 H K b6 aM aL j o r;have aO:Y (∀V∈c++ [x],V<g.l.length):=fun V D=>by
   obtain D|D:=og.1 D
   .exact ew (a.zn V D) b7
   grind
  have aA:=d.1;have aP:=d.2.1;have aQ:=d.2.2;clear d j o r z;go_call Nk f s U 124 _ aA.rc Q as P w3 ⟨C,T,rfl,d,bA⟩;obtain⟨rfl,j,r⟩|⟨rfl,j,r⟩:=bA
  .obtain ⟨Z,A⟩:=Qqw (c:=124) j;have X:Y (run s T=some ⟨0,a3.o,a3.a,a3.l⟩):=by
    rw [r,Y,lf a7.out,A];exact Yo (by
     obtain L|L:=a8.1
     all_goals omega)
   have o:=Mv.Qqp d aA Q;have z:=aP.trans (Mv.Qqn d q);have W:=aQ.fr (Mv.Qqn d q) H;go_wp21;go_roundw
   case rel=>exact ⟨T,aH,⟨g.l,fun e=>b.X e\/(aa b8 (c.length+1) b9).ownBlock=some e⟩,q,c++ [x],_,w-1,⟨o,z,W,X,a4,a5,qB,qB,rfl,aO⟩,Q,by rw [a2.out,show w=(w-1)+1 from Q,wy];(try simp only);rw [a9.out];(try simp only);rw [G (show pk s U=124 from j),r];rfl,rfl⟩
   have R:=Qqy o.rc.c1;have S:=b2;rw [R,S];omega
  have A:=J j;subst r;have o:=Mv.Qqp d aA b5;have z:=aP.trans (Mv.Qqn d q);have W:=aQ.fr (Mv.Qqn d q) H;clear j;go_wp21;by_cases X:c= []
  .subst X;go_call ad6 f q _ n.heap.size _ x _ W as P w4 ⟨rfl,Z⟩;subst Z;go_wp21;go_ret2;simp only [List.length_nil] at b1;exact ⟨_,true,rfl, .inl ⟨rfl,_,_,_,q,_,x,(Qqk.tu o b.X (fun e _ u=> .inl u)),z,a7,a4,a5,Q,qE,⟨a8,A⟩,rfl,rfl,aK,by rw [←aC.out];show wy (ml s i) s s.size ⟨h,t,b.l⟩ []=_;rw [a2.out,show w=(w-1)+1 from Q,wy];(try simp only);rw [a9.out];(try simp only);rw [N (show ¬pk s T=124 from A.out)];rfl⟩⟩
  have bR:1<=c.length:=by cases c with|nil=>exact cb rfl X|cons bS bT=>simp
  go_call ad5 f T B aH ⟨g.l,b.X⟩ s q _ n.heap.size _ 4 (c++ [x]) _ (Qqk.tu o b.X (fun e _ u=> .inl u)) qE W qB qB Q rfl k.X H aO as P w4 ⟨Z,rfl,bD,bE⟩;go_wp21;go_ret2;exact ⟨_,true,rfl, .inl ⟨rfl,_,_,_,Z,_,g.l.length,bD,z.trans bE,a7,a4,a5,Q,by rw [oc];grind,⟨a8,A⟩,rfl,rfl,by rw [oc];grind,by rw [←aC.out];show wy (ml s i) s s.size ⟨h,t,b.l⟩ []=_;rw [a2.out,show w=(w-1)+1 from Q,wy];(try simp only);rw [a9.out];(try simp only);rw [N (show ¬pk s T=124 from A.out)];rw [Va qB];rfl⟩⟩
 have d:=J K;have D:=(a.fr.below aD).trans M;have j:=J E;clear K E M;go_wp21;go_ret2;exact ⟨_,false,rfl, .inr ⟨rfl,U,d,j,D⟩⟩
def aa4:∀a,Hj a
 |0=>by
  intro c d e f g s h i j _ _ _ _ _ _ _ b
  omega
 |a+1=>by
  intro c d e f g s h i j k l m n b o p q
  exact alz a (aa4 a) c d e f g s h i j ⟨k,l,m,n,o,p,Q,.inl b,q⟩ b
end
structure Tr(w:ae)(N:Nat)(v0 v1 v2:af):Prop where
 c0:w.cell? (O N 0)=some v0
 c1:w.cell? (O N 1)=some v1
 c2:w.cell? (O N 2)=some v2
 f0:w.frozen? (O N 0)=false
 f1:w.frozen? (O N 1)=false
 f2:w.frozen? (O N 2)=false
def Tr.below(d:Tr w a x y z)(h:Below b w u)(i:a<b:=by omega):Tr u a x y z:=by
 have g:=h.block a i;have e:∀c,u.cell? (O a c)=w.cell? (O a c):=λc=>ac c g
 have f:∀c,u.frozen? (O a c)=w.frozen? (O a c):=λc=>ad c g
 exact⟨(e 0).trans d.c0,(e 1).trans d.c1,(e 2).trans d.c2,(f 0).trans d.f0,(f 1).trans d.f1,(f 2).trans d.f2⟩
def Dv(w:ae)(lo hi nb:Nat)(bc:List Nd)(eu:Nat):Prop:=
 hi<=w.heap.size/\∀w':ae,(∀k,lo<k->k<hi->w'.heap[k]?=w.heap[k]?)->hi<=w'.heap.size->yl w' nb bc eu
def Dv.of{i:List Nd}(k:Dv w a b c i d)(g:∀e,a<e->e<b->u.heap[e]?=w.heap[e]?)(l:b<=u.heap.size:=by omega):Dv u a b c i d:=
 ⟨l,λj m n=>k.2 j (λe f h=>(m e f h).trans<|g e f h) n⟩
def Rd.awq{q R i r T:Nat}{d:NX}(t:Qqk w q s R i r x d)(u:0<d.l.length)(v:∀a,a<=T->d.X a)(a3:T<q):
  ∃b j,x= aa b d.l.length j/\(d.l.length<=200->∀e:ae,(∀a,T<a->a<w.heap.size->e.heap[a]?=w.heap[a]?)->w.heap.size<=e.heap.size->yl e b d.l r):=by
 let⟨xs,k,S⟩:=t.own;obtain⟨b,j,rfl,X,Z⟩:=k.form Q;refine⟨b,j,rfl,λy e n a0=>⟨λg h hd=>?_,t.wf,y,u⟩⟩;let⟨z,qa,A,B,C,D,E,l,F,H⟩:=S g h hd;refine⟨z,qa,A,B,C,D,E,?_,F,λi U K=>?_⟩
 .obtain l|⟨c,L,a1,a2,M,o⟩:=l
  .exact .inl l
  by_cases p:h.ba=[]
  .exact .inl p
  obtain⟨f,m⟩:∃f,h.ba[0]?=some f:=by
   cases hd:h.ba with
   |nil=>exact cb hd p
   |cons g P=>exact⟨g,rfl⟩
  have V:c<w.heap.size:=dw w _<|o 0 f m;have W:T<c:=by
   by_cases P:T<c
   .exact P
   exact cb (v c Q) M
  exact .inr ⟨c,L,Q,λa f m=>(ac a<|n c W V).trans<|o a f m⟩
 have c:=H i U K;have f:=(k.lt b rfl);obtain⟨p,_⟩|⟨V,P,m,o,_,L,_,_,_,M⟩:=k.2
 .cases p
 cases o
 rw[ac (g*9+i)<|n b Q f.2,yya w b _ m 151 (0,0) L];rw[<-M,Cg]at c;split at c
 .simpa using c
 cases c
def afv(aA:S.size<=400)(aS:S.size<i):
  Calls prog 42 #[.string S] W λy e=>∃(K:Option Addr)(P w:Nat)(T L:Int)(qa:Int)(n:Bool),y=.returned (.tuple #[.agg #[.slice K P w,.int .i64 T,.int .i64 L],.int .i64 qa,.bool n])/\
   ((n=true/\iu S/\L=(eo S:Nat)/\∃f:Nat,K=some (O f 0)/\P=(ml S i ⟨0,0,[]⟩).1.l.length/\T=((ml S i ⟨0,0,[]⟩).2:Nat)/\(ml S i ⟨0,0,[]⟩).1.g=eo S/\(ml S i ⟨0,0,[]⟩).2<(ml S i ⟨0,0,[]⟩).1.l.length/\eo S<=9/\(S.size<=40->Dv e W.heap.size e.heap.size f (ml S i ⟨0,0,[]⟩).1.l (eo S)))\/(n=false/\∃c:Nat,qa=c/\kw S c))/\Below W.heap.size W e:=by
 obtain⟨E,rfl⟩:∃E,i=E:=⟨i,rfl⟩;go_in;go_wp21;have j:Qqk ((W.alloc<|.cells #[.slice none 0 0,I 0,I 0] 88).alloc<|.cells #[.string S,I 0,I 0,I 0,.slice none 0 0] 140) (W.heap.size+1) S 0 0 0 (.slice none 0 0) ⟨[],λa=>a<=W.heap.size⟩:=
  ⟨⟨qI,qI,qI,ey _,aA⟩,qI,qI,qI,qI,qI,qI,⟨[],yyc _ _ _ _,λa b hd=>by cases hd⟩,λH b hd=>by cases hd⟩
 have k:Tr ((W.alloc<|.cells #[.slice none 0 0,I 0,I 0] 88).alloc<|.cells #[.string S,I 0,I 0,I 0,.slice none 0 0] 140) W.heap.size (.slice none 0 0) (I 0) (I 0):=by
  constructor<;>go_simp
 have l:Below W.heap.size W ((W.alloc<|.cells #[.slice none 0 0,I 0,I 0] 88).alloc<|.cells #[.string S,I 0,I 0,I 0,.slice none 0 0] 140):=((bp _ _).alloc ah _).alloc qD _;have V:W.heap.size<((W.alloc<|.cells #[.slice none 0 0,I 0,I 0] 88).alloc<|.cells #[.string S,I 0,I 0,I 0,.slice none 0 0] 140).heap.size:=qB
 generalize((W.alloc<|.cells #[.slice none 0 0,I 0,I 0] 88).alloc<|.cells #[.string S,I 0,I 0,I 0,.slice none 0 0] 140)=aY at j k l V;go_call aa4 i (W.heap.size+1) 0 0 0 ⟨[],λa=>a<=W.heap.size⟩ S (.slice none 0 0) ⟨0,0,0,0⟩ _ j qD (λaT a9=>by simp only at a9;omega) rfl rfl rfl rfl Q as y F ⟨z,n,rfl,a7⟩;have C:W.heap.size<W.heap.size+1:=Q
 obtain⟨rfl,c,o,t,aI,aD,aH,g,u,b,v,aB,aU,aC,p,R,rfl,X,D⟩|⟨rfl,c,g,u,b⟩:=a7
 .have d:=u.below j;have A:=k.below d C;have r:=l.trans (d.mono Q);have B:=g.rc.le;have Z:o<=9:=by have:=(Me b).2.2.1;omega
  have m:=J D;have s:S.size<=40->t.l.length<=200:=λh=>by have a6:=aC;simp only[List.length_nil]at a6;omega
  obtain⟨f,a0,rfl,q⟩:=Rd.awq (T:=W.heap.size) g Q (λa a8=>by rw[R];exact a8) Q;have a1:Y (S.size<=40->∀e:ae,(∀a,W.heap.size<a->a<F.heap.size->e.heap[a]?=F.heap[a]?)->F.heap.size<=e.heap.size->yl e f t.l o):=λh=>q<|s h
  have a2:=J aB;clear q R D s;obtain⟨⟨aV,aW,aX,a3,aJ⟩,aM,aN,aO,aP,aQ,aR,q,s⟩:=g;obtain⟨aE,aF,aG,u0,u1,u2⟩:=A;have aK:W.heap.size+1≠W.heap.size:=Q
  clear q s j k l u d;by_cases aL:c<S.size
  .have s:=J (kw.here b a3 (λh=>aiw p h<|.inr v)<|λy=>Q);clear b p;go_wp21;go_region
   all_goals go_wp2
   all_goals exact yyd (v:=.tuple #[.agg #[.slice none 0 0,I 0,I 0],I c,.bool false]) (by simp[results,results42,go_sem, *]) rfl ⟨_,_,_,_,_,_,false,rfl,.inr ⟨rfl,c,rfl,s⟩,(((r.setCell ah _).setCell ah _).setCell ah _).drew⟩
  have B:c=S.size:=Q
  have q:Y (eo S=o):=by
   rw[B]at b;rw[Y,eo,b];exact a2
  have U:Y (iu S):=by
   rw[B]at b;refine⟨aD,b,?_⟩;obtain x|x:=p.1.1
   .simp[whole,v,x.1]
   simp[whole,v,x]
  clear b p;go_wp21;refine yyd (v:=.tuple #[.agg #[aa f t.l.length a0,I aH,I o],I 0,.bool true]) (by simp[results,results42,go_sem, *]) rfl ⟨_,_,_,_,_,_,true,rfl,.inl ⟨rfl,U,by rw[q.out],f,rfl,by rw[m.out],by rw[m.out],by rw[m.out,q.out],by rw[m.out];exact X,by rw[q.out];exact Z,λh=>?_⟩,((r.setCell ah _).setCell ah _).setCell ah _⟩;rw[m.out,q.out];refine⟨ah,λa4 a5 M=>a1 h a4 (λa H w=>?_)<|by rw[kg,kg,kg]at M;exact M⟩;rw[a5 a H<|by rw[kg,kg,kg];exact w,er _ _ _ _ qC,er _ _ _ _ qC,er _ _ _ _ qC]
 have d:=b;have A:=k.below d C;have r:=l.trans (d.mono Q);have s:=J g;obtain⟨aE,aF,aG,u0,u1,u2⟩:=A;clear j k l g d b;go_wp21;go_region
 all_goals go_wp2
 all_goals exact yyd (v:=.tuple #[.agg #[.slice none 0 0,I 0,I 0],I c,.bool false]) (by simp[results,results42,go_sem, *]) rfl ⟨_,_,_,_,_,_,false,rfl,.inr ⟨rfl,c,rfl,s⟩,(((r.setCell ah _).setCell ah _).setCell ah _).drew⟩
def jz(w:ae)(lo hi:Nat)(t:ag)(v0 v1 v2:af):Prop:=
 v2=I (eo t:Nat)/\eo t<=9/\(t.size<=40->∃nb cap:Nat,v0= aa nb (il t).1.l.length cap/\v1=I ((il t).2:Nat)/\(il t).1.g=eo t/\(il t).2<(il t).1.l.length/\Dv w lo hi nb (il t).1.l (eo t))
def Ik{t:ag}:∀(f c:Nat)(a:St),run t c=some a->f+c=t.size->(∀d,Ij t f c a=some d->kw t d)/\(Ij t f c a=none->iu t)
 |0,c,a,h,e=>by
  obtain rfl:c=t.size:=Q
  unfold Ij;split
  .rename_i g;exact⟨λd b=>(by cases b),λ_=>⟨a,h,g⟩⟩
  rename_i g;refine⟨λd b=>?_,λb=>(by cases b)⟩;cases b
  exact⟨a,h,ah,λi=>cb i Q,λ_=>qK g⟩
 |f+1,c,a,h,e=>by
  unfold Ij;cases g:step a (au t c)with
  |some j=>
   simp only;exact Ik f (c+1) j (by rw[lf h,g]) Q
  |none=>
   simp only;refine⟨λd b=>?_,λb=>(by cases b)⟩;cases b
   exact⟨a,h,Q,λ_=>g,λi=>cb i Q⟩
def ach(c:kw s a):uu s=some a:=by
 let⟨d,e⟩:=Ik s.size 0 ⟨0,0,0,0⟩ (t:=s) rfl Q;cases b:uu s with
 |some f=>rw[(d f b).unique c]
 |none=>exact(c.Gv<|e b).elim
def aci(c:iu s):uu s=none:=by
 let⟨a,e⟩:=Ik s.size 0 ⟨0,0,0,0⟩ (t:=s) rfl Q;cases b:uu s with
 |some d=>exact((a d b).Gv c).elim
 |none=>rfl
def afw(p:S.size<=400):
  Calls prog 42 #[.string S] W λm h=>∃(i:Option Addr)(k g:Nat)(l j:Int)(e:Int)(c:Bool),m=.returned (.tuple #[.agg #[.slice i k g,.int .i64 l,.int .i64 j],.int .i64 e,.bool c])/\
   ((c=true/\uu S=none/\jz h W.heap.size h.heap.size S (.slice i k g) (I l) (I j))\/(c=false/\∃d:Nat,e=d/\d<=S.size/\uu S=some d))/\Below W.heap.size W h:=by
 by_cases o:S.size<=40
 .go_call afv 41 S W p Q as m h ⟨i,k,g,l,j,e,c,rfl,b,f⟩;refine⟨_,_,_,_,_,e,c,rfl,?_,f⟩;obtain⟨rfl,a,rfl,q,rfl,rfl,rfl,r,s,n,t⟩|⟨rfl,d,rfl,a⟩:=b
  .exact .inl ⟨rfl,aci a,rfl,n,λ_=>⟨q,g,rfl,rfl,r,s,t o⟩⟩
  exact .inr ⟨rfl,d,rfl,by let⟨_,_,b,_⟩:=a;exact b,ach a⟩
 go_call afv 401 S W p Q as m h ⟨i,k,g,l,j,e,c,rfl,b,f⟩;refine⟨_,_,_,_,_,e,c,rfl,?_,f⟩;obtain⟨rfl,a,rfl,q,rfl,rfl,rfl,r,s,n,t⟩|⟨rfl,d,rfl,a⟩:=b
 .exact .inl ⟨rfl,aci a,rfl,n,λb=>cb b o⟩
 exact .inr ⟨rfl,d,rfl,by let⟨_,_,b,_⟩:=a;exact b,ach a⟩
def ty(a:j+m<k:=by omega):au (S.extract j k) m=au S (j+m):=by
 unfold au;rw[yz,yz,Lib.extract_data,Cg,G,zya]
theorem Yg(a:ag)(b:Nat)(i:b<=a.size):∀(f c:Nat),ic (a.extract b a.size) f c+b=ic a f (b+c)
 |0,c=>by simp[ic,lw];omega
 |f+1,c=>by
  unfold ic;have g:(a.extract b a.size).size=a.size-b:=by simp[lw]
  by_cases h:c<a.size-b
  .rw[G<|by rw[g];exact h,G (show b+c<a.size from Q),ty a b a.size c];by_cases d:au a (b+c)=47
   .grind
   rw[N d,N d];by_cases e:au a (b+c)=92
   .rw[G e,G e,Yg a b i f<|c+2];rfl
   rw[N e,N e,Yg a b i f<|c+1];rfl
  grind
def Ye(d:ag):∀(f c a:Nat),d.size<f+a->d.size<c+a->ic d f a=ic d c a
 |0,0,a,_,_=>rfl
 |0,c+1,a,h,b=>by unfold ic;rw[N]
 |f+1,0,a,h,b=>by unfold ic;rw[N]
 |f+1,c+1,a,h,b=>by
  unfold ic;split
  .split
   .rfl
   split
   .exact Ye d f c (a+2) Q Q
   exact Ye d f c (a+1) Q Q
  rfl
def Es(b:ag):∀(f a:Nat),a<=b.size->a<=ic b f a
 |0,a,h=>h
 |f+1,a,h=>by
  unfold ic;split
  .split
   .exact ah
   split
   .by_cases c:a+2<=b.size
    .have:=Es b f (a+2) c;omega
    have d:ic b f (a+2)=b.size:=by
     cases f with
     |zero=>rfl
     |succ f=>rw[ic,N]
    omega
   have:=Es b f (a+1) Q;omega
  omega
theorem ash(a:j<=S.size):(S.extract j S.size).extract 0 (bw (S.extract j S.size) 0)=S.extract j (bw S j):=by
 have b:=Yg S j a ((S.extract j S.size).size+1) 0;have e:(S.extract j S.size).size=S.size-j:=by simp[lw]
 have c:ic S ((S.extract j S.size).size+1) (j+0)=bw S j:=Ye S _ _ _ Q Q;rw[c]at b;have d:bw (S.extract j S.size) 0=bw S j-j:=by unfold bw at*;omega
 have f:j<=bw S j:=Es S _ j a;have g:bw S j<=S.size:=Er S _ _;rw[d];apply va;simp_all
def Ws(b:j<=S.size):(S.extract j<|bw S j).size=bw S j-j:=by
 have a:bw S j<=S.size:=Er S _ _;simp[lw];omega
structure Cu(w:ae)(b:Nat)(s:ag)(i:Nat)(lg:Int):Prop where
 rc:Rc w b s i
 c5:w.cell? (O b 5)=some (I lg)
 f5:w.frozen? (O b 5)=false
structure Mw(b:Nat)(w w':ae):Prop where
 os:w'.os=w.os
 tape:w'.tape=w.tape
 output:w'.output=w.output
 size:w.heap.size<=w'.heap.size
 block:∀k,k<w.heap.size->k≠b->w'.heap[k]?=w.heap[k]?
 cell:∀k,k≠1->k≠5->w'.cell? (O b k)=w.cell? (O b k)
 cd:∀k,w'.frozen? (O b k)=w.frozen? (O b k)
def Mw.refl:Mw i W W:=⟨rfl,rfl,rfl,ah,λ_ _ _=>rfl,λ_ _ _=>rfl,λ_=>rfl⟩
def Mw.trans{b:Nat}{i j k:ae}(a:Mw b i j)(d:Mw b j k):Mw b i k:=
 ⟨d.os.trans a.os,d.tape.trans a.tape,d.output.trans a.output,bq a.size d.size,λc e f=>(d.block c (ew e a.size) f).trans<|a.block c e f,λc g h=>(d.cell c g h).trans<|a.cell c g h,λc=>(d.cd c).trans<|a.cd c⟩
def Mw.mv(c:Mv a w u b):Mw a w u:=
 ⟨c.only.os,c.only.tape,c.only.output,by rw[c.only.size];exact ah,λd _ e=>c.only.block d e,λd f _=>c.cell d f,c.cd⟩
def Mw.below(b:Below w.heap.size w u)(d:a<w.heap.size:=by omega):Mw a w u:=
 ⟨b.os,b.tape,b.output,b.size,λc e _=>b.block c e,λc _ _=>b.cell (p:=O a c) d,λc=>b.frozen (p:=O a c) d⟩
def Mw.drewN(b:Mw a w u)(c:Nat):Mw a w (u.drewN c):=b.trans ⟨rfl,rfl,rfl,ah,λ_ _ _=>rfl,λ_ _ _=>rfl,λ_=>rfl⟩
theorem Mw.sg(f:Mw a w u)(g:af):Mw a w (u.setCell (O a 1) g):=
 f.trans ⟨rfl,rfl,rfl,by rw[kg];exact ah,λc _ d=>er _ _ _ _ d,λc e _=>jm (h:=λb=>e qE) ..,λc=>jf ..⟩
theorem Mw.Xw(f:Mw a w u)(g:af):Mw a w (u.setCell (O a 5) g):=
 f.trans ⟨rfl,rfl,rfl,by rw[kg];exact ah,λc _ d=>er _ _ _ _ d,λc _ e=>jm (h:=λb=>e qE) ..,λc=>jf ..⟩
def Mw.alloc{a:Nat}{b e:ae}(c:Mw a b e)(f:a<b.heap.size)(d:Obj):Mw a b (e.alloc d):=
 c.trans (Mw.below ((bp _ _).alloc ah d)<|ew f c.size)
theorem Mw.fi(d:Mw a w u)(m:w.heap.size<=b)(n:a<w.heap.size)(l:af):Mw a w (u.setCell (O b c) l):=by
 have g:a≠b:=Q
 exact⟨d.os,d.tape,d.output,by rw[kg];exact d.size,λe i h=>by rw[er _ _ _ _ qC];exact d.block e i h,λe j k=>by rw[jm (h:=λf=>g qE)];exact d.cell e j k,λe=>by rw[jf];exact d.cd e⟩
def Cu.lt(c:Cu w a s b p):a<w.heap.size:=dw w _ c.rc.c0
def Cu.below(h:Cu w a s b p)(e:Below w.heap.size w u):Cu u a s b p:=by
 have f:=h.lt;let⟨⟨k,l,m,i,j⟩,n,o⟩:=h;have d:∀c,u.cell? (O a c)=w.cell? (O a c):=λc=>e.cell (p:=O a c) f
 have g:∀c,u.frozen? (O a c)=w.frozen? (O a c):=λc=>e.frozen (p:=O a c) f
 exact⟨⟨(d 0).trans k,(d 1).trans l,(g 1).trans m,i,j⟩,(d 5).trans n,(g 5).trans o⟩
def Cu.mv(e:Cu w a s b p)(d:Mv a w u c)(f:c<=s.size:=by omega):Cu u a s c p:=
 ⟨d.rc e.rc f,(d.cell 5 Q).trans e.c5,(d.cd 5).trans e.f5⟩
def Cu.drewN{g:ae}{b:Nat}{f:ag}{c:Nat}{d:Int}(a:Cu g b f c d)(e:Nat):Cu (g.drewN e) b f c d:=⟨a.rc.drewN e,a.c5,a.f5⟩
def Cu.alloc{f:ae}{a:Nat}{e:ag}{b:Nat}{c:Int}(g:Cu f a e b c)(d:Obj):Cu (f.alloc d) a e b c:=g.below<|(bp _ _).alloc ah d
theorem Cu.fi(m:Cu w a s d p)(l:a≠b)(h:af):Cu (w.setCell (O b c) h) a s d p:=by
 let⟨⟨n,o,q,j,k⟩,r,t⟩:=m;have f:∀e,(w.setCell (O b c) h).cell? (O a e)=w.cell? (O a e):=λe=>jm (h:=λg=>l qE) ..
 have i:∀e,(w.setCell (O b c) h).frozen? (O a e)=w.frozen? (O a e):=λe=>jf ..
 exact⟨⟨(f 0).trans n,(f 1).trans o,(i 1).trans q,j,k⟩,(f 5).trans r,(i 5).trans t⟩
def Cu.put{h:ae}{b:Nat}{d:ag}{i:Nat}{f:Int}(e:Cu h b d i f){g:Int}(a:Nat)(j:g=a:=by omega)(c:a<=d.size:=by omega):Cu (h.setCell (O b 1)<|I g) b d a f:=e.mv (.put e.rc.c1 a j) c
def Cu.agq(f:Cu w a s b p)(c:Int):Cu (w.setCell (O a 5)<|I c) a s b c:=by
 let⟨⟨g,h,i,d,e⟩,j,k⟩:=f;exact⟨⟨qI,qI,qI,d,e⟩,qI,qI⟩
structure Th(w:ae)(N:Nat)(v0 v1 v2:af):Prop where
 c0:w.cell? (O N 0)=some v0
 c1:w.cell? (O N 1)=some v1
 c2:w.cell? (O N 2)=some v2
 f0:w.frozen? (O N 0)=false
 f1:w.frozen? (O N 1)=false
 f2:w.frozen? (O N 2)=false
def Th.of(c:Th w a x y z)(g:u.heap[a]?=w.heap[a]?):Th u a x y z:=by
 have d:∀b,u.cell? (O a b)=w.cell? (O a b):=λb=>ac b g
 have e:∀b,u.frozen? (O a b)=w.frozen? (O a b):=λb=>ad b g
 exact⟨(d 0).trans c.c0,(d 1).trans c.c1,(d 2).trans c.c2,(e 0).trans c.f0,(e 1).trans c.f1,(e 2).trans c.f2⟩
def jz.of{w d:ae}{c a:Nat}{i:ag}{e f h:af}(m:jz w c a i e f h)(l:∀b,c<b->b<a->d.heap[b]?=w.heap[b]?)(g:a<=d.heap.size:=by omega):jz d c a i e f h:=by
 let⟨n,o,p⟩:=m;refine⟨n,o,λj=> ?_⟩;let⟨q,k,r,s,t,u,v⟩:=p j;exact⟨q,k,r,s,t,u,v.of l g⟩
def jz.wide(g:jz w a b s x y z)(D:c<=a)(v:b<=d)(h:d<=w.heap.size):jz w c d s x y z:=by
 let⟨i,k,l⟩:=g;refine⟨i,k,λe=> ?_⟩;let⟨m,f,n,o,p,q,r⟩:=l e;exact⟨m,f,n,o,p,q,h,λt u A=>r.2 t (λj B C=>u j Q Q) Q⟩
structure du(lo hi:Nat)(u w:ae):Prop where
 same:∀k,lo<k->k<hi->w.heap[k]?=u.heap[k]?
 size:hi<=w.heap.size
def du.refl(c:b<=w.heap.size):du a b w w:=⟨λ_ _ _=>rfl,c⟩
def du.set(e:du a b w u){v:af}(i:c<=a\/b<=c:=by omega):du a b w (u.setCell (O c d) v):=
 ⟨λh f g=>by rw[er _ _ _ _ qC];exact e.same h f g,by rw[kg];exact e.size⟩
def du.alloc(c:du a b w u){g:Obj}:du a b w (u.alloc g):=
 ⟨λf e d=>by rw[im _ _ _<|ew d c.size];exact c.same f e d,by have:=c.size;simp;omega⟩
def du.drewN(c:du a b w u)(d:Nat):du a b w (u.drewN d):=⟨c.same,c.size⟩
def jz.kept(d:jz w a b s x y z)(c:du a b w u):jz u a b s x y z:=d.of c.same c.size
def jz.keep(f:jz w a c s x y z)(d:du a c w u)(e:b<=a:=by omega):jz u b u.heap.size s x y z:=(f.of d.same d.size).wide e d.size ah
def Mw.vp(c:Mk a w u b):Mw a w u:=⟨c.os,c.tape,c.output,c.size,c.block,λd e _=>c.cell d e,c.cd⟩
def Cu.vp(e:Cu w a s b p)(d:Mk a w u c)(f:c<=s.size):Cu u a s c p:=
 ⟨d.rc e.rc f,(d.cell 5 Q).trans e.c5,(d.cd 5).trans e.f5⟩
def Cu.drew(c:Cu w a s b p):Cu w.drew a s b p:=⟨⟨c.rc.c0,c.rc.c1,c.rc.f1,c.rc.le,c.rc.li⟩,c.c5,c.f5⟩
def Lj(b:j<=S.size:=by omega):(dx S j Z).1<=S.size/\j<=(dx S j Z).1:=by
 have f:j<=bw S j:=Es S _ j b;have g:bw S j<=S.size:=Er S _ _;have h:=Ws S j b;unfold dx;simp only;cases c:uu (S.extract j<|bw S j)with
 |some d=>
  simp only;obtain⟨a,e⟩:=Ik (S.extract j<|bw S j).size 0 ⟨0,0,0,0⟩ (t:=S.extract j<|bw S j) rfl Q;obtain⟨_,_,i,_⟩:=a d c;omega
 |none=>
  simp only;split
  .rename_i a;obtain⟨e,_⟩:=ho (s:=S) (i:=j+(S.extract j<|bw S j).size) (by rw[a];decide);simp only;omega
  simp only;omega
def xxa{d:ae}{r q:Int}{a:ag}{i j n:Nat}(A:Cu d i S j q)(M:Mw i W d)(K:jz d W.heap.size n a x y z)(k:Th d W.heap.size (.slice none 0 0) (I 0) (I 0))(t:r=q)(f:j+a.size<=S.size)(g:W.heap.size<d.heap.size)(h:i<W.heap.size)(p:d.heap.size=n):Cu ((d.setCell (O i 1)<|I<|(j:Int)+a.size).alloc<|.cells #[x,y,z] 88) i S (j+a.size) r/\Mw i W ((d.setCell (O i 1)<|I<|(j:Int)+a.size).alloc<|.cells #[x,y,z] 88)/\jz ((d.setCell (O i 1)<|I<|(j:Int)+a.size).alloc<|.cells #[x,y,z] 88) W.heap.size n a x y z/\Th ((d.setCell (O i 1)<|I<|(j:Int)+a.size).alloc<|.cells #[x,y,z] 88) n x y z/\Th ((d.setCell (O i 1)<|I<|(j:Int)+a.size).alloc<|.cells #[x,y,z] 88) W.heap.size (.slice none 0 0) (I 0) (I 0)/\n<=((d.setCell (O i 1)<|I<|(j:Int)+a.size).alloc<|.cells #[x,y,z] 88).heap.size:=by
 subst t p;obtain⟨v,w,u,u0,u1,u2⟩:=k
 refine⟨(A.put (j+a.size) Q f).alloc _,(M.sg _).alloc h _,K.kept<|((du.refl ah).set Q).alloc,?_,?_,by simp[World.setCell]⟩<;>constructor<;>go_simp
def Ps(a3:Cu W i S j Z):
  Calls prog 226 #[.pointer<|some ⟨i,0,none⟩] W λm a5=>∃(b:Option Addr)(g c:Nat)(e f:Int),m=.returned (.tuple #[.agg #[.slice b g c,.int .i64 e,.int .i64 f],.bool (dx S j Z).2.2.2])/\Mw i W a5/\Cu a5 i S (dx S j Z).1 (dx S j Z).2.2.1/\
   ((dx S j Z).2.2.2=true->jz a5 W.heap.size a5.heap.size (dx S j Z).2.1 (.slice b g c) (I e) (I f)):=by
 have aD:=J a3;have q:=a3.lt;have aE:=Lj S j Z a3.rc.le;obtain⟨⟨C,D,E,a6,aL⟩,F,H⟩:=a3;have aM:(0:Int)<=j:=Q
 have aN:(j:Int)<=S.size:=Q
 generalize hF:dx S j Z=K at aE;have L:=J hF;clear hF;have aF:=J<|ash S j a6;have aG:=J<|Ws S j a6;have aO:bw S j<=S.size:=Er S _ _;have aP:j<=bw S j:=Es S _ j a6;go_in;go_wp21;refine(aww (S.extract j S.size) _<|by simp[lw];omega).mono ?_;rw[aF.out];rintro m aQ ⟨rfl,aB,rfl⟩;obtain⟨a,a4⟩:∃a,S.extract j (bw S j)=a:=⟨_,rfl⟩;have aH:Y (a.size=bw S j-j):=by rw[Y,<-a4];exact aG
 have P:j+a.size<=S.size:=by rw[aH.out];omega
 rw[a4];go_wp21;go_call afw a _ Q as m d ⟨b,g,c,e,f,p,ok,rfl,aI,h⟩;have l:Below W.heap.size W ((W.alloc<|.cells #[.slice none 0 0, I 0, I 0] 88).drewN aB):=⟨rfl,rfl,rfl,qD,λaR aJ=>im _ _ _ aJ⟩;have k:=l.trans (h.mono qD);have M:=J<|Mw.below k q;have A:=J<|aD.below k;have aS:W.heap.size+1<=d.heap.size:=by have:=h.size;simp at this;omega
 have aK:Y (Th d W.heap.size (.slice none 0 0) (I 0)<|I 0):=by
  refine Th.of (w:=W.alloc _) ?_ ((h.block W.heap.size qD).trans rfl);constructor<;>go_simp
 have aT:Y (((W.alloc<|.cells #[.slice none 0 0, I 0, I 0] 88).drewN aB).heap.size=W.heap.size+1):=by simp[Y]
 clear h k l C D E F H;obtain⟨⟨C,D,E,_,_⟩,F,H⟩:=A.out;obtain⟨v,w,x,u0,u1,u2⟩:=aK;have aU:i<d.heap.size:=Q
 have aV:W.heap.size<d.heap.size:=Q
 have aW:i≠W.heap.size:=Q
 obtain⟨rfl,a7,a8⟩|⟨rfl,a9,rfl,aX,a7⟩:=aI
 .obtain⟨B,R⟩:∃B,B=(if 40<a.size/\Z=-1 then(j:Int)else Z):=⟨_,rfl⟩;have y:Y (K=if pk S (j+a.size)=47 then(j+a.size+1,a,B,true)else(j+a.size,a,B,false)):=by
   rw[Y,<-L.out,dx,R];simp only[a4,a7]
  have aA:(40<a.size/\Z=-1/\B=j)\/B=Z/\(a.size<=40\/40<a.size/\(Z==-1)=false):=by
   rw[R];split
   .rename_i k;exact .inl ⟨k.1,k.2,rfl⟩
   refine .inr ⟨rfl,?_⟩;by_cases k:a.size<=40
   .exact .inl k
   exact .inr ⟨Q,hh Q⟩
  have qa:Y (jz d W.heap.size d.heap.size a (.slice b g c) (I e)<|I f):=a8.wide qD ah ah;clear a8 R;obtain⟨aA,rfl,t⟩|⟨t,aA|⟨aY,aZ⟩⟩:=aA
  all_goals
   first
   |(have h:=xxa S W (A.agq (j:Int)) (M.Xw _) (qa.kept<|(du.refl ah).set Q) (by constructor<;>go_simp) t P qB q qD;have h:=J h;go_wp21;generalize((d.setCell (O i 5)<|I j).setCell (O i 1)<|I<|(j:Int)+a.size).alloc (.cells #[.slice b g c, I e, I f] 88)=T at h|-)
   |(have h:=J<|xxa S W A M qa ⟨v,w,x,u0,u1,u2⟩ t P aV q rfl;go_wp21;generalize(d.setCell (O i 1)<|I<|(j:Int)+a.size).alloc (.cells #[.slice b g c, I e, I f] 88)=T at h|-)
   clear C D E F H v w x u0 u1 u2;obtain⟨h,l,r,n,o,s⟩:=h;obtain⟨V,X,a0,_,_,_⟩:=n;obtain⟨v,w,x,u0,u1,u2⟩:=o;have a1:i≠d.heap.size:=Q
   have a2:W.heap.size≠d.heap.size:=Q
   by_cases k:pk S (j+a.size)=((47:Nat):Int)
   .have z:=J k;obtain⟨aC,_⟩:=ho (s:=S) (i:=j+a.size) (by rw[k];decide);have u:Y (K=((j+a.size+1),a,B,true)):=by rw[Y,y.out,G<|by rw[k];rfl]
    clear k y t;go_region_with (go_at_call 100;go_call Bh i S (j+a.size) 47 _ (by first|exact h.rc|exact h.drew.rc|exact(h.drewN _).rc|(refine Cu.rc (lg:=B) ?_;repeat first|exact h|refine Cu.drewN ?_ _|refine Cu.drew ?_|refine Cu.fi ?_ Q _)) Q z as m w3 ⟨rfl,U,rfl⟩)
    all_goals go_wp21
    all_goals rw[u.out]
    all_goals refine bodyPost_ret (v:=.tuple #[.agg #[.slice b g c, I e, I f],.bool true]) (by simp[results,results226,go_sem, *]) rfl ⟨b,g,c,e,f,rfl,?_,?_,λ_=>r.keep ?_ ah⟩
    all_goals first
     |((repeat first|refine Mw.sg ?_ _|refine Mw.fi ?_ Q q _|refine Mw.drewN ?_ _|refine Mw.drew ?_|exact l);done)
     |(show Cu _ i S (j+a.size+1) B;(repeat first|refine Cu.fi ?_ Q _|refine Cu.drewN ?_ _|refine Cu.drew ?_|refine Cu.put (i:=j+a.size) ?_ (j+a.size+1) Q Q|exact h);done)
     |((repeat first|refine du.set ?_ Q|refine du.drewN ?_ _|refine du.drew ?_|exact du.refl s);done)
   have z:=J k;have u:Y (K=((j+a.size),a,B,false)):=by rw[Y,y.out,N<|λm=>k<|by rw[m];rfl]
   clear k y t;go_region_with (go_at_call 100;go_call tq i S (j+a.size) 47 _ (by first|exact h.rc|exact h.drew.rc|exact(h.drewN _).rc|(refine Cu.rc (lg:=B) ?_;repeat first|exact h|refine Cu.drewN ?_ _|refine Cu.drew ?_|refine Cu.fi ?_ Q _)) Q z as m w3 ⟨rfl,U,rfl⟩)
   all_goals go_wp21
   all_goals rw[u.out]
   all_goals refine bodyPost_ret (v:=.tuple #[.agg #[.slice b g c, I e, I f],.bool false]) (by simp[results,results226,go_sem, *]) rfl ⟨b,g,c,e,f,rfl,?_,?_,λB=>(by cases B)⟩
   all_goals first
    |((repeat first|refine Mw.sg ?_ _|refine Mw.fi ?_ Q q _|refine Mw.drewN ?_ _|refine Mw.drew ?_|exact l);done)
    |(show Cu _ i S (j+a.size) B;(repeat first|refine Cu.fi ?_ Q _|refine Cu.drewN ?_ _|refine Cu.drew ?_|exact h);done)
 have u:Y (K=(j+a9,fo,Z,false)):=by
  rw[Y,<-L.out,dx];simp only[a4,a7]
 have h:=J A;go_wp21;rw[u.out];refine bodyPost_ret (v:=.tuple #[.agg #[.slice b g c, I e, I f],.bool false]) (by simp[results,results226,go_sem, *]) rfl ⟨b,g,c,e,f,rfl,?_,?_,λB=>(by cases B)⟩
 . (repeat first|refine Mw.sg ?_ _|refine Mw.Xw ?_ _|refine Mw.fi ?_ Q q _|refine Mw.drewN ?_ _|refine Mw.alloc ?_ q _|exact M)
 show Cu _ i S (j+a9) Z
 (repeat first|refine Cu.fi ?_ Q _|refine Cu.alloc ?_ _|refine Cu.drewN ?_ _|refine Cu.put (i:=j) ?_ (j+a9) Q Q|exact A)
def dS(s:ag):Int×Int:=if 40<s.size then(1,0)else match uu s with|none=>(0,0)|some j=>(2,(j:Int))
def dW(s:S.size<=maxLen):Calls prog 97 #[.string S] W λg w=>g=.returned (.tuple #[.int .i64 (dS S).1,.int .i64 (dS S).2])/\Below W.heap.size W w:=by
 unfold maxLen at s;by_cases m:40<S.size
 .have d:Y (dS S=(1,0)):=G m;go_in;go_wp21;go_ret2;rw[d.out];exact⟨rfl,bp _ _⟩
 have d:Y (dS S=match uu S with|none=>(0,0)|some v=>(2,(v:Int))):=N m;go_in;go_wp21;go_loopw [5] (λi wr=>∃(a:Nat)(b:St),a<=S.size/\i=I a/\Y (run S a=some b)/\Qqa 0 wr W.heap.size b/\Below W.heap.size W wr) (λi _=>S.size-(intOf i).toNat)
 .exact⟨0,⟨0,0,0,0⟩,ey _,rfl,rfl,by constructor<;>go_simp,(bp _ _).alloc ah _⟩
 obtain⟨a,b,r,rfl,e,f,c⟩:=hrel;have k:=J f;have h:=J c;by_cases o:a<S.size
 .have l:=J<|Cx S a o;go_wp21;refine(Qjh W.heap.size b (S[a]'o).toNat _ (yxj _) (Me e.out) k).mono ?_;rintro g x ⟨z,rfl,c,t⟩;have j:=J (h.trans ⟨c.os,c.tape,c.output,by rw[c.size];exact ah,λu y=>c.block u Q⟩);obtain⟨p,f,rfl,n⟩|⟨f,rfl⟩:=t
  .have c:Y (run S (a+1)=some p):=by rw[Y,lf e.out,<-l.out];exact f
   have q:=J n;go_wp21;go_roundw
   .exact⟨a+1,p,Q,qJ,c,q,j⟩
   simp[intOf];omega
  have c:=J (d.trans<|by rw[ach (show kw S a from⟨b,e.out,r,λ_=>by rw[<-l.out];exact f,λg=>Q⟩)]);go_wp21;go_ret2;rw[c.out];exact⟨rfl,j⟩
 have j:a=S.size:=Q
 subst j;go_wp21;refine(aw1 W.heap.size b _ k).mono ?_;rintro g x ⟨rfl,l⟩;subst l;rcases df (whole b)with hw|hw
 .have c:=J (d.trans<|by rw[aci ⟨b,e.out,hw⟩]);rw[hw];go_wp21;go_ret2;rw[c.out];exact⟨rfl,h⟩
 have c:=J (d.trans<|by rw[ach (show kw S S.size from⟨b,e.out,ah,λf=>cb f<|Nat.lt_irrefl _,λ_=>hw⟩)]);rw[hw];go_wp21;go_ret2;rw[c.out];exact⟨rfl,h⟩
