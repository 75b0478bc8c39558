import Derived.Lib.SlBytesConst
import Derived.Lib.BufferWrite
import Derived.Test.YtppjlpihaocdiaaGreatDoorAgQ
set_option linter.all false
set_option maxRecDepth 100000
set_option maxHeartbeats 16000000
namespace Go.Proofs.YtppjlpihaocdiaaGreatDoor
open Go.RowKit Go.Proofs.Tryz
variable{w u v:ae}{a b c d e:Nat}{s t:ag}{x y z:af}{p D:Int}{l:List af}{f:Bool}{g:List Nat}{h:Nat->Prop}{o:Option Addr}{r:List UInt8}{A:Nat->Bool}{B:Nat->Nat->Bool}{C:Nat->Nat->Prop}(i:Nat)(S T:ag)(V X:af)(j k m n:Nat)(Z:Int)(W:ae)
def arj(e:List Nat)(b:ae)(p:b.ownsRow i 5 1 V e.length (py e))(v:∀y∈e,y<256):
  Calls prog 254 #[V] b λk P=>k=.returned (.bool<|vm e)/\Below b.heap.size b P:=by
 have C:Y (∀s,Below b.heap.size b s->s.ownsRow i 5 1 V e.length (py e)):=λs D=>da p λa w=>D.block a (p.lt a w).2
 have E:=J v;clear p v;have qa:=λ(b:ae) (A:Array af) (M c:Nat)=>Lib.run_convert_bytes_const (P:=prog) b 99 5 A M c underlying99 underlying5
 go_in;go_wp21;go_loopw [8] (λq wr=>∃a:Nat,q=I a/\a<=3/\Below b.heap.size b wr/\wr.cell? (O b.heap.size 0)=some (.int .u8 10)/\wr.cell? (O b.heap.size 1)=some (.int .u8 92)/\wr.cell? (O b.heap.size 2)=some (.int .u8 47)/\Y (∀g c,g<a-> [10,92,47][g]?=some c->e.contains c=true)) (λq _=>3-(intOf q).toNat)
 case atStart=>
  refine⟨0,rfl,Q,(bp _ _).alloc ah _,yya _ b.heap.size 0 _ 5 (3,4)<|yyb b _,yya _ b.heap.size 1 _ 5 (3,4)<|yyb b _,yya _ b.heap.size 2 _ 5 (3,4)<|yyb b _,λg c l=>Q⟩
 obtain⟨a,rfl,w,j,r,t,u,m⟩:=hrel;have HOr:=J<|C _ j;by_cases z:a=3
 .subst z;have n:Y (vm e=true):=by
   have d:=m 0 10 Q rfl;have f:=m 1 92 Q rfl;have h:=m 2 47 Q rfl;simp[Y,vm]at d f h|-;exact⟨⟨d,f⟩,h⟩
  go_wp21;go_ret;exact⟨pp n.symm,j⟩
 obtain⟨c,d,S⟩:∃c:Nat,[10,92,47][a]?=some c/\wr.cell? (O b.heap.size a)=some (.int .u8 c):=by
  have h:a=0\/a=1\/a=2:=Q
  obtain rfl|rfl|rfl:=h
  .exact⟨10,rfl,r⟩
  .exact⟨92,rfl,t⟩
  exact⟨47,rfl,u⟩
 have L:c<256:=by
  have h:a=0\/a=1\/a=2:=Q
  obtain rfl|rfl|rfl:=h<;>(simp at d;omega)
 have x:=J d;have o:Y (wr.cell? (O b.heap.size 0)=some (.int .u8 10)/\wr.cell? (O b.heap.size 1)=some (.int .u8 92)/\wr.cell? (O b.heap.size 2)=some (.int .u8 47)):=⟨r,t,u⟩
 have U:(a:Int)<3:=Q
 clear d r t u;go_wp21;go_call Nv i V e c _ HOr E L as k W ⟨y,rfl,R,F⟩;subst F;obtain⟨d,B⟩|⟨d,B⟩:=R
 .have H:=J d;go_wp21;go_roundw
  case rel=>
   refine⟨a+1,rfl,Q,j,o.1,o.2.1,o.2.2,λg K X f=> ?_⟩;by_cases k:g=a
   .subst k;rw[x.out]at f;cases f
    exact H
   exact m g K Q f
  simp[intOf];omega
 have n:Y (vm e=false):=by
  have h:a=0\/a=1\/a=2:=Q
  have f:=x;obtain rfl|rfl|rfl:=h
  .simp at f;subst f;simp[Y,vm]at d|-;intro l;exact cb l d
  .simp at f;subst f;simp[Y,vm]at d|-;intro _ l;exact cb l d
  simp at f;subst f;simp[Y,vm]at d|-;intro _ _;exact d
 go_wp21;go_ret;exact⟨pp n.symm,j⟩
def ag2(b:br s mg a=true):a<s.size/\(au s a=110\/au s a=92\/au s a=47):=by
 simp[br]at b;refine⟨b.1,?_⟩;have c:=b.2;simp[bn,mg]at c;omega
def ant(m:af)(a:List Nat)(n:ae)(o:Rc n i S j)(t:pk S j=92)(a0:i<k)(U:n.ownsRow k 5 1 m a.length (py a))(P:∀D∈a,D<256):
  Calls prog 244 #[.pointer<|some ⟨i,0,none⟩,m] n λf Z=>f=.returned (.tuple #[.int .u8 ((fa S a j).2.1:Int),.bool (fa S a j).2.2])/\Mk i n Z (fa S a j).1:=by
 have a4:=Rc.lt o;have a1:=o.le;have a5:=o.li;have v:=J U;have w:=J P;let⟨a2,_⟩:=ho (s:=S) (i:=j) (by rw[t];decide);have x:Y (fa S a j=if vm a=true then(j,0,false)else if br S mg (j+1)=true then(if a.contains (val<|au S<|j+1)=true then(j+1,0,false)else(j+2,val<|au S<|j+1,true))else(j+1,0,false)):=by rw[Y,fa,G t]
 generalize b:fa S a j=c;have qa:=J b;go_in;go_wp21;go_call arj k m a _ v.out w.out as f C ⟨rfl,b⟩;have F:=(Mk.ee o).below b;have H:=J<|Rc.below o b;have K:=J<|da v λr y=>b.block r (v.lt r y).2;let⟨a8,a9,aA,_,_⟩:=H.out;rcases df (vm a)with A|A
 .have b:Y (c=(j,0,false)):=by rw[Y,<-qa.out,x.out,G A]
  rw[A];go_wp21;go_ret2;rw[b.out];exact⟨rfl,F⟩
 rw[A];have s:Y (c=if br S mg (j+1)=true then(if a.contains (val<|au S<|j+1)=true then(j+1,0,false)else(j+2,val<|au S<|j+1,true))else(j+1,0,false)):=by rw[Y,<-qa.out,x.out,A];rfl
 have B:Rc (C.setCell (O i 1)<|I<|(j:Int)+1) i S (j+1):=H.put (j+1);have L:Mk i n (C.setCell (O i 1)<|I<|(j:Int)+1) (j+1):=F.set (j+1);rcases df (br S mg<|j+1)with h|h
 .have p:=J h;let⟨R,V⟩:=ag2 h;have e:=J<|oz S (j+1) R;have W:((S[j+1]).toNat:Int)=(au S (j+1):Int):=oz S (j+1) R;have d:Y (c=if a.contains (val<|au S<|j+1)=true then(j+1,0,false)else(j+2,val<|au S<|j+1,true)):=by rw[Y,s.out,G h]
  generalize au S (j+1)=b at d V W;have a6:(0:Int)<=j+1:=Q
  have a7:(j:Int)+1<(S.size:Int):=Q
  have X:b<256:=Q
  have q:Y (∀l,Mk i n ((C.setCell (O i 1)<|I<|(j:Int)+1).drewN l)<|j+1):=λl=>L.drewN l
  have M:Y (∀l,((C.setCell (O i 1)<|I<|(j:Int)+1).drewN l).ownsRow k 5 1 m a.length<|py a):=λl=>da K λr y=>er _ _ _ _ (by have:=(K.lt r y).1;simp only;omega)
  by_cases z:b=110
  .subst z;go_wp21;refine(oj i S mg (j+1) _ B).mono ?_;rw[p.out];rintro f w3 ⟨rfl,T,rfl⟩;go_wp21;go_quiet (fail);go_wp21;go_call Nv k m a 10 _ (M.out _) w.out Q as f w4 ⟨D,rfl,h,u⟩;subst u;obtain⟨e,E⟩|⟨e,E⟩:=h
   .have g:Y (c=(j+1,0,false)):=by rw[Y,d.out,show val 110=10 from rfl,G e]
    go_wp21;go_ret2;rw[g.out];exact⟨rfl,q _⟩
   have g:Y (c=(j+2,10,true)):=by rw[Y,d.out,show val 110=10 from rfl,e];rfl
   go_wp21;go_ret2;rw[g.out];exact⟨rfl,(q _).set (j+2)⟩
  have a3:((b:Int)==110)=false:=hh Q;go_wp21;refine(oj i S mg (j+1) _ B).mono ?_;rw[p.out];rintro f w3 ⟨rfl,T,rfl⟩;go_wp21;go_quiet (fail);go_wp21;go_call Nv k m a b _ (M.out _) w.out X as f w4 ⟨D,rfl,h,u⟩;subst u;obtain⟨e,E⟩|⟨e,E⟩:=h
  .have g:Y (c=(j+1,0,false)):=by rw[Y,d.out,show val b=b from N z,G e]
   go_wp21;go_ret2;rw[g.out];exact⟨rfl,q _⟩
  have g:Y (c=(j+2,b,true)):=by rw[Y,d.out,show val b=b from N z,e];rfl
  go_wp21;go_ret2;rw[g.out];exact⟨rfl,(q _).set (j+2)⟩
 have p:=J h;have d:Y (c=(j+1,0,false)):=by rw[Y,s.out,h];rfl
 go_wp21;refine(oj i S mg (j+1) _ B).mono ?_;rw[p.out];rintro f w3 ⟨rfl,T,rfl⟩;go_wp21;go_ret2;rw[d.out];exact⟨rfl,L.drewN _⟩
def ag5(e:Nat)(b:ag)(a r:Nat)(s:af)(d:List Nat)(o:ae)(n:Rc o e b a)(H:e<r)(D:o.ownsRow r 5 1 s d.length (py d))(x:∀F∈d,F<256):
  Calls prog 232 #[.pointer<|some ⟨e,0,none⟩,s] o λg L=>g=.returned (.tuple #[.int .u8 ((fa b d a).2.1:Int),.bool (fa b d a).2.2])/\Mk e o L (fa b d a).1:=by
 have c:=J n;have T:=n.li;have y:=J D;have z:=J x;by_cases l:pk b a=92
 .have j:=J l;generalize m:fa b d a=k;have h:=J m;let⟨w,v,q⟩:=k;go_in;go_wp21;refine(iz e b a _ c.out).mono ?_;rw[j.out];rintro g u ⟨rfl,i,rfl⟩;go_wp21;refine(ant e b a r s d _ (c.drewN i) j.out H y.out z.out).mono ?_;rw[h.out];rintro g A ⟨rfl,f⟩;have p:=((Mk.ee c).drewN i).trans f;simp only;go_wp21;go_ret2;exact⟨rfl,p⟩
 have f:Y (fa b d a=if pk b a=-1\/br b yr a=true\/d.contains (au b a)=true then(a,0,false)else(a+1,au b a,true)):=by rw[Y,fa,N l]
 generalize m:fa b d a=k at f;by_cases m:pk b a=-1
 .have j:=J m;have h:Y (k=(a,0,false)):=by rw[Y,f.out,G<|.inl m]
  go_in;go_wp21;refine(iz e b a _ c.out).mono ?_;rw[j.out];rintro g u ⟨rfl,i,rfl⟩;go_wp21;go_ret2;rw[h.out];exact⟨rfl,(Mk.ee c).drewN i⟩
 let⟨R,q⟩:=ho m;have B:=ms b a;generalize au b a=p at q B f;have j:=J q;have U:((p:Int)==-1)=false:=hh;have V:((p:Int)==92)=false:=hh (by rw[<-q];exact l)
 let⟨W,X,Z,_,_⟩:=c.out;rcases df (br b yr a)with t|t
 .have v:=J t;have h:Y (k=(a,0,false)):=by rw[Y,f.out,G<|.inr<|.inl t]
  go_in;go_wp21;refine(iz e b a _ c.out).mono ?_;rw[j.out];rintro g u ⟨rfl,i,rfl⟩;go_wp21;refine(oj e b yr a _<|c.drewN i).mono ?_;rw[v.out];rintro g A ⟨rfl,C,rfl⟩;go_wp21;go_ret2;rw[h.out];exact⟨rfl,(Mk.ee c).drewN _⟩
 have v:=J t;go_in;go_wp21;refine(iz e b a _ c.out).mono ?_;rw[j.out];rintro g u ⟨rfl,i,rfl⟩;go_wp21;refine(oj e b yr a _<|c.drewN i).mono ?_;rw[v.out];rintro g A ⟨rfl,C,rfl⟩;go_wp21;go_call Nv r s d p (o.drewN<|i+C) y.out z.out B as g w4 ⟨F,rfl,S,E⟩;subst E;obtain⟨w,K⟩|⟨w,K⟩:=S
 .have h:Y (k=(a,0,false)):=by rw[Y,f.out,G<|.inr<|.inr w]
  go_wp21;go_ret2;rw[h.out];exact⟨rfl,(Mk.ee c).drewN _⟩
 have h:Y (k=(a+1,p,true)):=by rw[Y,f.out,N<|by rw[t,w];simp;exact m]
 go_wp21;go_ret2;rw[h.out];exact⟨rfl,((Mk.ee c).drewN _).set (a+1)⟩
def Hd(b:List Nat)(a:Nat)(h:a<=S.size):(fa S b a).1<=S.size/\a<=(fa S b a).1/\(fa S b a).2.1<256/\((fa S b a).2.2=true->a<(fa S b a).1):=by
 unfold fa;split
 .rename_i c;let⟨d,_⟩:=ho (s:=S) (i:=a) (by rw[c];decide);split
  .simp;omega
  split
  .rename_i e;let⟨f,g⟩:=ag2 e;split
   .simp;omega
   have:val (au S<|a+1)<256:=by unfold val;split<;>omega
   simp;omega
  simp;omega
 split
 .simp;omega
 rename_i c;let⟨d,_⟩:=ho (s:=S) (i:=a)<|λe=>c<|.inl e;have:=ms S a;simp;omega
theorem Gb(a:List Nat)(c:ae)(g:c.ownsRow i 5 1 V a.length (py a))(n:∀r∈a,r<256):(convert 99 9 V).run prog c=.ok (.string<|iy a) c:=by
 obtain⟨s,h⟩:=g;obtain⟨rfl,j⟩|⟨d,k,l,rfl,_,m,t,_,u,o⟩:=h
 .have:a=[]:=Ex.1 j;subst this;rw[run_convert_bytes_string (P:=prog) c 99 9 5 none 0 0 underlying99 underlying5 underlying9];rfl
 have:=run_convert_bytes_back (P:=prog) c 99 9 5 (O d 0) k (a.map Nat.toUInt8) underlying99 underlying5 underlying9 (λb p=>by
  have f:b<a.length:=qK p
  have q:((O d 0):Addr).add b=(O d b):=by unfold Addr.add;split<;>simp_all
  rw[q,cell_of_row c d b l 5 (0,0) m];have e:(py a)[b]?=some (.int .u8 ((a.map Nat.toUInt8)[b].toNat:Int)):=by
   have v:=n a[b]<|List.getElem_mem f;simp[py,dy f];omega
  rw[<-o,Cg]at e;split at e
  .simpa using e
  cases e)
 rw[List.length_map]at this;exact this
def awu(b:List Nat)(a:Nat):py (b++[a])=py b++[Value.int .u8 a]:=by simp[py]
structure Ri(w wr:ae)(b j:Nat)(v:af)(l:List Nat):Prop where
 mv:Mk b w wr j
 own:wr.ownsRow w.heap.size 5 1 v l.length (py l)
def Ri.move{f wr h:ae}(d:Ri f wr a b x g)(k:a<f.heap.size)(i:Mk a wr h c):Ri f h a c x g:=
 ⟨d.mv.trans i,da d.own λe j=>i.block e (d.own.lt e j).2 (by have:=(d.own.lt e j).1;omega)⟩
def Ri.below{i wr b:ae}{c f:Nat}{h:af}{g:List Nat}(a:Ri i wr c f h g)(d:Below wr.heap.size wr b):Ri i b c f h g:=
 ⟨a.mv.below d,da a.own λe j=>d.block e (a.own.lt e j).2⟩
def Ri.grown(h:Ri w u a b x g)(s:a<w.heap.size)
  (n:v.ownsRow w.heap.size 5 1 (aa c (g.length+1) d) (g.length+1) (py g++[Value.int .u8 e])) (i:u.grownBy v x.ownBlock):
  Ri w v a b (aa c (g.length+1) d) (g++[e]):=by
 have o:a<u.heap.size:=dw u _ h.mv.c1;have p:some a≠x.ownBlock:=λk=>by have:=(h.own.lt a k.symm).1;omega
 have l:=i.block a o p;have m:∀f,v.cell? (O a f)=u.cell? (O a f):=λf=>ac f l
 have q:∀f,v.frozen? (O a f)=u.frozen? (O a f):=λf=>ad f l
 refine⟨⟨i.os.trans h.mv.os,i.tape.trans h.mv.tape,i.output.trans h.mv.output,bq h.mv.size i.size,λf j r=> ?_,(m 1).trans h.mv.c1,λf j=>(m f).trans<|h.mv.cell f j,λf=>(q f).trans<|h.mv.cd f⟩,?_⟩
 .rw[i.block f (ew j h.mv.size) (λk=>by have:=(h.own.lt f k.symm).1;omega)];exact h.mv.block f j r
 rw[awu,ga];exact n
def Ei:(prog.info? 5).map (λa=>(a.zero,a.size,a.bytes))=some (some<|.int .u8 0,1,1):=qF
def ahc(e:ag):∀(f c:Nat)(g:List Nat),c<=e.size->g.length<=c->(∀i∈g,i<256)->(rowL e f c g).1<=e.size/\(rowL e f c g).2.1.length<=e.size/\∀i∈(rowL e f c g).2.1,i<256
 |0,c,g,h,d,b=>by simp[rowL];exact⟨h,Q,b⟩
 |f+1,c,g,h,d,b=>by
  unfold rowL;split
  .rename_i a;obtain⟨j,_⟩:=ho (s:=e) (i:=c) (by rw[a];decide);exact⟨qC,qC,b⟩
  obtain⟨j,m,n,k⟩:=Hd e g c h;split
  .rename_i l;refine ahc e f _ _ j (by have:=k l;simp;omega)<|λi a=> ?_;obtain a|a:=og.1 a
   .exact b i a
   simp at a;omega
  exact⟨j,qD,λi a=>by simp at a⟩
def Qzp(H:Rc W i S j):
  Calls prog 200 #[.pointer<|some ⟨i,0,none⟩] W λg b1=>∃k aD,g=.returned (.tuple #[.string k,.string aD,.bool (jo S j).2.2.2])/\Mk i W b1 (jo S j).1/\(jo S j).1<=S.size/\((jo S j).2.2.2=true->k=(jo S j).2.1/\aD=(jo S j).2.2.1):=by
 have b2:=Rc.lt H;have aO:=H.le;have b3:=H.li;obtain⟨aE,aF,aG,aH,aI⟩:=info_parts Ei;generalize a:jo S j=w;have a7:=J a;clear a;by_cases n:pk S j=((47:Nat):Int)
 .have a8:=J n;obtain⟨b4,_⟩:=ho (s:=S) (i:=j) (by rw[n];decide);have P:Y (w=if(rowL S (S.size+1) (j+1) []).2.2=true then(if(mp S (rowL S (S.size+1) (j+1) []).2.1.length (rowL S (S.size+1) (j+1) []).1 []).2.2=true then(if pk S (mp S (rowL S (S.size+1) (j+1) []).2.1.length (rowL S (S.size+1) (j+1) []).1 []).1=47 then((mp S (rowL S (S.size+1) (j+1) []).2.1.length (rowL S (S.size+1) (j+1) []).1 []).1+1,iy (rowL S (S.size+1) (j+1) []).2.1,iy (mp S (rowL S (S.size+1) (j+1) []).2.1.length (rowL S (S.size+1) (j+1) []).1 []).2.1,true)else((mp S (rowL S (S.size+1) (j+1) []).2.1.length (rowL S (S.size+1) (j+1) []).1 []).1,iy (rowL S (S.size+1) (j+1) []).2.1,iy (mp S (rowL S (S.size+1) (j+1) []).2.1.length (rowL S (S.size+1) (j+1) []).1 []).2.1,false))else((mp S (rowL S (S.size+1) (j+1) []).2.1.length (rowL S (S.size+1) (j+1) []).1 []).1,fo,fo,false))else((rowL S (S.size+1) (j+1) []).1,fo,fo,false)):=by
   rw[Y,<-a7.out,jo,G<|by rw[n];rfl]
  clear n a7;generalize hF:rowL S (S.size+1) (j+1) []=u at P;have aP:=J hF;have a:u.1<=S.size/\u.2.1.length<=S.size/\∀k∈u.2.1,k<256:=by rw[<-hF];exact ahc S _ _ _ Q qD qD
  have b5:=J a;clear hF a;go_in;go_wp21;go_call sr i S j 47 _ H Q a8 as g C ⟨rfl,h⟩;have X:=h.rc H Q;have K:Y (Mk i W C<|j+1):=.mv h;have b6:=h.only.size;clear h;go_wp21;go_loopw [5] (λa9 wr=>∃(e v:Nat)(a:List Nat),Ri C wr i e a9 a/\e<=S.size/\a.length+j+1<=e/\S.size+1<=v+e/\Y (∀k∈a,k<256)/\Y (u=rowL S v e a)) (λ_ wr=>S.size-xi wr i)
  case atStart=>exact⟨j+1,S.size+1,[],⟨Mk.ee X,World.ownsRow_nil _ _ _ _⟩,Q,qD,Q,λk p=>by simp at p,aP.symm⟩
  obtain⟨e,v,a,Z,aA,b7,b8,qa,aQ⟩:=hrel;have aJ:=Z.mv.rc X aA;have aR:=J<|pu Z.mv.c1;have a0:Y (u=if pk S e=47 then(e+1,a,true)else if(fa S a e).2.2=true then rowL S (v-1) (fa S a e).1 (a++[(fa S a e).2.1])else((fa S a e).1,[],false)):=by
   rw[Y,aQ.out]
   conv=>lhs;rw[show v=(v-1)+1 from Q,rowL]
  by_cases n:pk S e=((47:Nat):Int)
  .have aB:=J n;obtain⟨b9,_⟩:=ho (s:=S) (i:=e) (by rw[n];decide);have x:Y (u=(e+1,a,true)):=by rw[Y,a0.out,G<|by rw[n];rfl]
   clear n a0;go_wp21;go_call sr i S e 47 _ aJ Q aB as g o ⟨rfl,h⟩;have q:=Z.move Q<|.mv h;clear h;obtain⟨R,T,rfl⟩:∃R T,u5=.slice R a.length T:=by
    obtain⟨g,c⟩|⟨d,y,_,g,_⟩:=q.own.2
    .exact⟨none,0,by rw[g,c]⟩
    exact⟨_,_,g⟩
   have U:i<o.heap.size:=dw o _ q.mv.c1;have bA:a.length<=400:=Q
   have aK:=q.mv.rc X Q;generalize c:mp S a.length (e+1) []=r;have aS:=J c;have aL:Y (w=if r.2.2=true then(if pk S r.1=47 then(r.1+1,iy a,iy r.2.1,true)else(r.1,iy a,iy r.2.1,false))else(r.1,fo,fo,false)):=by
    rw[Y,P.out,x.out];simp only[c];rfl
   clear c;go_wp21;go_loopw [6,35] (λaT aU aV=>∃(c f:Nat)(d:List Nat),Ri o aV i c aT d/\aU=I f/\f<=a.length/\Y (d.length=f)/\c<=S.size/\Y (∀k∈d,k<256)/\Y (r=mp S (a.length-f) c d)) (λ_ a9 _=>a.length-(intOf a9).toNat)
   case atStart=>exact⟨e+1,0,[],⟨Mk.ee aK,World.ownsRow_nil _ _ _ _⟩,rfl,Q,rfl,Q,λk p=>by simp at p,aS.symm⟩
   obtain⟨c,f,d,b,rfl,E,aM,aC,a1,aN⟩:=hrel;have bD:d.length<=400:=by rw[aM.out];omega
   have F:=b;have A:=b.mv.rc aK aC;have a2:=J (da q.own λf E=>b.mv.block f (q.own.lt f E).2 (by have:=(q.own.lt f E).1;omega));clear b;by_cases aW:f=a.length
   .subst aW;have B:Y (r=(c,d,true)):=by rw[Y,aN.out,xx];rfl
    have z:Y (w=if pk S c=47 then(c+1,iy a,iy d,true)else(c,iy a,iy d,false)):=by rw[Y,aL.out,B.out];rfl
    have L:∀b,(convert 99 9<|.slice R a.length T).run prog (wr.drewN b)=.ok (.string<|iy a) (wr.drewN b):=λb=>Gb C.heap.size _ a _ a2 qa.out
    have M:∀b,(convert 99 9 u6).run prog (wr.drewN b)=.ok (.string<|iy d) (wr.drewN b):=λb=>Gb o.heap.size _ d _ F.own a1.out
    have V:(convert 99 9<|.slice R a.length T).run prog wr.drew=.ok (.string<|iy a) wr.drew:=Gb C.heap.size _ a _ a2 qa.out;have a3:(convert 99 9 u6).run prog wr.drew=.ok (.string<|iy d) wr.drew:=Gb o.heap.size _ d _ F.own a1.out;by_cases l:pk S c=((47:Nat):Int)
    .have s:=J l;obtain⟨a4,_⟩:=ho (s:=S) (i:=c) (by rw[l];decide);have t:Y (w=(c+1,iy a,iy d,true)):=by rw[Y,z.out,G<|by rw[l];rfl]
     clear l;have a5:∀b m,(convert 99 9<|.slice R a.length T).run prog ((wr.setCell (O i 1) m).drewN b)=.ok (.string<|iy a) ((wr.setCell (O i 1) m).drewN b):=λb m=>Gb C.heap.size _ a _ (da a2 λf E=>er _ _ _ _ (by have:=(a2.lt f E).1;simp only;omega)) qa.out
     have a6:∀b m,(convert 99 9 u6).run prog ((wr.setCell (O i 1) m).drewN b)=.ok (.string<|iy d) ((wr.setCell (O i 1) m).drewN b):=λb m=>Gb o.heap.size _ d _ (da F.own λf E=>er _ _ _ _ (by have:=(F.own.lt f E).1;simp only;omega)) a1.out
     go_wp21;go_region_with (go_at_call 100;go_call Bh i S c 47 _ (by first|exact A|exact A.drewN _|exact A.drewN 1) Q s as g w3 ⟨rfl,D,rfl⟩)
     all_goals go_wp21
     all_goals rw[t.out]
     all_goals exact bodyPost_ret (v:=.tuple #[.string<|iy a,.string<|iy d,.bool true]) (by simp[results,results200,go_sem]) rfl ⟨_,_,rfl,(K.trans q.mv).trans<|(F.mv.set (c+1) Q).drewN _,qC,λ_=>⟨rfl,rfl⟩⟩
    have s:=J l;have t:Y (w=(c,iy a,iy d,false)):=by rw[Y,z.out,N<|λg=>l<|by rw[g];rfl]
    clear l;go_wp21;go_region_with (go_at_call 100;go_call tq i S c 47 _ (by first|exact A|exact A.drewN _|exact A.drewN 1) Q s as g w3 ⟨rfl,D,rfl⟩)
    all_goals go_wp21
    all_goals rw[t.out]
    all_goals exact bodyPost_ret (v:=.tuple #[.string<|iy a,.string<|iy d,.bool false]) (by simp[results,results200,go_sem]) rfl ⟨_,_,rfl,(K.trans q.mv).trans<|F.mv.drewN _,qC,λ_=>⟨rfl,rfl⟩⟩
   have bE:f<a.length:=Q
   have bF:(f:Int)<a.length:=Q
   have s:Y (r=if(fa S [] c).2.2=true then mp S (a.length-(f+1)) (fa S [] c).1 (d++[(fa S [] c).2.1])else((fa S [] c).1,[],false)):=by
    rw[Y,aN.out]
    conv=>lhs;rw[show a.length-f=(a.length-(f+1))+1 from Q,mp]
   have t:=Hd S [] c aC;go_wp21;refine(ag5 i S c o.heap.size (.slice none 0 0) [] _ A U (World.ownsRow_nil _ _ _ _)<|λk p=>by simp at p).mono ?_;generalize fa S [] c=a3 at s t|-;obtain⟨B,y,a4⟩:=a3;simp only at t s|-;rintro g w3 ⟨rfl,h⟩;have l:=F.move U h;have aX:=l.mv.size;clear h;cases a4 with
   |false=>
    have a5:Y (r=(B,[],false)):=by rw[Y,s.out];rfl
    have z:Y (w=(B,fo,fo,false)):=by rw[Y,aL.out,a5.out];rfl
    clear s;go_wp21;rw[z.out];exact bodyPost_ret (v:=.tuple #[.string fo,.string fo,.bool false]) (by simp[results,results200,go_sem];rfl) rfl ⟨_,_,rfl,(K.trans q.mv).trans l.mv,t.1,λb=>(by cases b)⟩
   |true=>
    have a5:Y (r=mp S (a.length-(f+1)) B (d++[y])):=by rw[Y,s.out];rfl
    have aY:=t.2.2.1;have D:Y (∀m,Below w3.heap.size w3 m->Ri o m i B u6 d):=λm b=>l.below b
    clear s;go_wp2_with (at_builtin;refine wpList_append_lies _ rfl _ _ 99 rfl o.heap.size 5 aE (.int .u8 0) 1 1 underlying99 aF aG aH aI rfl Q u6 d.length (py d) rfl (D _<|(bp _ _).alloc ah _).own (O w3.heap.size 0) 1 1 [Value.int .u8 y] rfl rfl (cell_one_new _ _ _) (λk p=>by simp at p;subst p;rfl) Q qH Q qB (w3.heap.size+1) qD ?_;intro aZ b0 w4 L M a6 s;have V:=(D _<|(bp _ _).alloc ah _).grown U L M;clear L M a6 s);go_roundw
    case rel=>exact⟨B,f+1,d++[y],V,rfl,Q,(by rw[Y,ga,aM.out];rfl),t.1,λk p=>by obtain b|b:=og.1 p;exact a1.out k b;simp at b;omega,a5⟩
    simp[intOf];omega
  have aB:=J n;have x:Y (u=if(fa S a e).2.2=true then rowL S (v-1) (fa S a e).1 (a++[(fa S a e).2.1])else((fa S a e).1,[],false)):=by rw[Y,a0.out,N<|λg=>n<|by rw[g];rfl]
  clear n a0;have d:=Hd S a e aA;go_wp21;go_call qq i S e 47 _ aJ Q aB as g o ⟨rfl,h⟩;have q:=Z.move Q<|.mv h;clear h;go_wp21;refine(ag5 i S e C.heap.size u5 a _ (q.mv.rc X aA) Q q.own qa.out).mono ?_;generalize fa S a e=a3 at x d|-;obtain⟨c,y,a4⟩:=a3;simp only at d x|-;rintro g w3 ⟨rfl,h⟩;have l:=q.move Q h;have aX:=l.mv.size;clear h;cases a4 with
  |false=>
   have f:Y (u=(c,[],false)):=by rw[Y,x.out];rfl
   have z:Y (w=(c,fo,fo,false)):=by rw[Y,P.out,f.out];rfl
   clear x;go_wp21;rw[z.out];exact bodyPost_ret (v:=.tuple #[.string fo,.string fo,.bool false]) (by simp[results,results200,go_sem];rfl) rfl ⟨_,_,rfl,K.trans l.mv,d.1,λb=>(by cases b)⟩
  |true=>
   have f:Y (u=rowL S (v-1) c (a++[y])):=by rw[Y,x.out];rfl
   have aC:=d.2.2.2 rfl;have aY:=d.2.2.1;have D:Y (∀m,Below w3.heap.size w3 m->Ri C m i c u5 a):=λm b=>l.below b
   clear x;go_wp2_with (at_builtin;refine wpList_append_lies _ rfl _ _ 99 rfl C.heap.size 5 aE (.int .u8 0) 1 1 underlying99 aF aG aH aI rfl Q u5 a.length (py a) rfl (D _<|(bp _ _).alloc ah _).own (O w3.heap.size 0) 1 1 [Value.int .u8 y] rfl rfl (cell_one_new _ _ _) (λk p=>by simp at p;subst p;rfl) Q qH Q qB (w3.heap.size+1) qD ?_;intro aZ b0 w4 L M a6 s;have V:=(D _<|(bp _ _).alloc ah _).grown Q L M;clear L M a6 s);go_roundw
   case rel=>exact⟨c,v-1,a++[y],V,d.1,qB,Q,λk p=>by obtain b|b:=og.1 p;exact qa.out k b;simp at b;omega,f⟩
   have P:=pu V.mv.c1;have U:=aR;rw[P,U];omega
 have a8:=J n;have z:Y (w=(j,fo,fo,false)):=by rw[Y,<-a7.out,jo,N<|λg=>n<|by rw[g];rfl]
 clear n;go_in;go_wp21;go_call qq i S j 47 _ H Q a8 as g C ⟨rfl,h⟩;have K:Y (Mk i W C j):=.mv h;clear h;go_wp21;rw[z.out];exact bodyPost_ret (v:=.tuple #[.string fo,.string fo,.bool false]) (by simp[results,results200,go_sem];rfl) rfl ⟨_,_,rfl,K,aO,λb=>(by cases b)⟩
def Uw(d:UInt8):∀e:List UInt8,(Lib.indexByte e d=-1/\∀c∈e,c≠d)\/∃f,f<e.length/\Lib.indexByte e d=(f:Int)/\e[f]?=some d/\∀g c,g<f->e[g]?=some c->c≠d
 | []=> .inl ⟨rfl,λc a=>by simp at a⟩
 |b::e=>by
  rw[Lib.indexByte];by_cases h:(b==d)=true
  .refine .inr ⟨0,qD,by simp[h],by simp at h;simp[h],λg c l=>Q⟩
  have j:b≠d:=qK h
  obtain⟨k,i⟩|⟨f,k,i,m,n⟩:=Uw d e
  .refine .inl ⟨by simp[h,k],λc a=> ?_⟩;obtain rfl|a:=vc.1 a
   .exact j
   exact i c a
  refine .inr ⟨f+1,qB,?_,qK m,λg c l a=> ?_⟩
  .rw[i];have:¬((f:Int)<0):=Q
   simp[h,this]
  cases g with
  |zero=>simp at a;rw[<-a];exact j
  |succ g=>exact n g c Q<|qK a
def Tv(e:ag):∀(f b a:Nat),b<=a->a<=e.size->a-b<=f->(∀i,b<=i->i<a->au e i≠10)->(a<e.size->au e a=10)->(a-b<f\/a=e.size)->jh e f b=a
 |0,b,a,h,g,h3,c,d,j=>by simp[jh];omega
 |f+1,b,a,h,g,h3,c,d,j=>by
  unfold jh;by_cases m:b=a
  .subst m;rw[if_neg];rintro⟨l,k⟩;exact k<|d l
  rw[G ⟨Q,c b ah Q⟩];exact Tv e f (b+1) a Q g Q (λi l k=>c i Q k) d Q
def anr:(Lib.indexByte S.data.toList 10=-1/\ci S 0=S.size)\/(ci S 0<S.size/\Lib.indexByte S.data.toList 10=(ci S 0:Int)):=by
 have k:S.data.toList.length=S.size:=rfl;obtain⟨e,d⟩|⟨g,e,d,h,i⟩:=Uw 10 S.data.toList
 .refine .inl ⟨e,Tv S _ 0 S.size Q ah Q (λb _ f=> ?_) (λj=>Q)<|.inr rfl⟩;intro a
  have c:b<S.data.toList.length:=Q
  have:=d S.data.toList[b]<|yzn c;apply this;unfold au at a;rw[yz,dy c]at a;exact yzt.1 a
 have j:ci S 0=g:=Tv S _ 0 g Q Q Q (λb _ f a=>by
  have c:b<S.data.toList.length:=Q
  apply i b S.data.toList[b] f<|dy c;unfold au at a;rw[yz,dy c]at a;exact yzt.1 a) (λ_=>by
  rw[au,yz,h];rfl)<|.inl Q
 exact .inr ⟨Q,by rw[j];exact d⟩
def aqb(c:j<256):
  Calls prog 225 #[.string S,.int .u8 j] W λa b=>a=.returned (.int .i64<|Lib.indexByte S.data.toList (j:Int).toNat.toUInt8)/\b=W:=by
 have hd:Sem.run prog (callFunc 239 #[.string S,.int .u8 j]) W=.ok (.value<|I<|Lib.indexByte S.data.toList (j:Int).toNat.toUInt8) W:=by
  rw[yxf func239 qF qF qF (e:=Extern.BytealgIndexByte.indexByte) qF,Lib.run_indexByteString];rfl
 generalize Lib.indexByte S.data.toList (j:Int).toNat.toUInt8=d at hd;go_in;go_wp2;go_ret;exact⟨rfl,rfl⟩
def adu:
  Calls prog 251 #[.string S,.string ⟨#[10]⟩] W λa g=>a=.returned (.int .i64<|Lib.indexByte S.data.toList 10)/\g=W:=by
 generalize b:Lib.indexByte S.data.toList 10=e;have c:Y (Lib.indexByte S.data.toList ((10:Nat):Int).toNat.toUInt8=e):=b;by_cases d:S=⟨#[10]⟩
 .subst d;have f:e=0:=by rw[<-b];rfl
  subst f;go_in;go_wp21;go_ret;exact⟨rfl,rfl⟩
 have h:(([10]:List UInt8)==S.toList)=false:=by
  rw[xy];intro a
  apply d;rw[yyn]at a;apply va;exact(yzd.1 (show([10]:List UInt8)=S.data.toList from a)).symm
 go_in;go_wp21;refine(aqb S 10 W Q).mono ?_;rw[c.out];rintro a i ⟨rfl,f⟩;subst f;go_wp21;go_ret;exact⟨rfl,rfl⟩
def anx(a:j=S.size):S.extract 0 j=S:=by subst a;exact acg S
def aqa(m:S.size<=1000000):
  Calls prog 241 #[.string S,.string ⟨#[10]⟩] W λf l=>f=.returned (.tuple #[.string<|S.extract 0<|ci S 0,.string<|S.extract (ci S 0+1) S.size,.bool<|decide (ci S 0<S.size)])/\∃k,l=W.drewN k:=by
 obtain⟨c,a⟩|⟨c,a⟩:=anr S
 .have d:=J c;have b:Y (S.extract 0 (ci S 0)=S/\S.extract (ci S 0+1) S.size=⟨#[]⟩/\decide (ci S 0<S.size)=false):=by
   refine⟨anx S _ a,?_,by simp[a]⟩;apply va;apply yzd.1;rw[Lib.extract_data,a];simp
  go_in;go_wp21;go_call adu;rw[d.out];rintro f h ⟨rfl,e⟩;subst e;go_wp21;let⟨g,i,j⟩:=b;rw[g,i,j];go_returns;exact⟨rfl,0,rfl⟩
 have d:=J a;have g:Y (decide (ci S 0<S.size)=true):=by simpa[Y]using c
 generalize ci S 0=b at d g c;have i:(0:Int)<=b:=Q
 have j:(b:Int)<=S.size:=Q
 have n:(0:Int)<=b+1:=Q
 have o:(b:Int)+1<=(S.size:Int):=Q
 go_in;go_wp21;go_call adu;rw[d.out];rintro f h ⟨rfl,e⟩;subst e;go_wp21;go_quiet (fail);go_wp21;rw[g.out];go_returns;exact⟨rfl,_,rfl⟩
def Xr(j:S.size<=1000000):
  Calls prog 228 #[.string S,.string ⟨#[10]⟩] W λf k=>f=.returned (.tuple #[.string<|S.extract 0<|ci S 0,.string<|S.extract (ci S 0+1) S.size,.bool<|decide (ci S 0<S.size)])/\∃b,k=W.drewN b:=by
 generalize c:S.extract 0 (ci S 0)=g;generalize d:S.extract (ci S 0+1) S.size=h;generalize e:decide (ci S 0<S.size)=i;have a:Y (S.extract 0 (ci S 0)=g/\S.extract (ci S 0+1) S.size=h/\decide (ci S 0<S.size)=i):=⟨c,d,e⟩;go_in;go_wp21;go_call aqa;rw[a.1,a.2.1,a.2.2];rintro f c ⟨rfl,b,rfl⟩;go_wp21;go_returns;exact⟨rfl,b,rfl⟩
