import Derived.Lib.BufferWrite
import Derived.Deep.Onto
import Derived.Test.YtppjlpihaocdiaaGreatDoorAhQ
set_option linter.all false
set_option maxRecDepth 100000
set_option maxHeartbeats 16000000
namespace Go.Proofs.YtppjlpihaocdiaaGreatDoor
open Go.RowKit Go.Proofs.Tryz
variable{w u v:ae}{a b c d e:Nat}{s t:ag}{x y z:af}{p D:Int}{l:List af}{f:Bool}{g:List Nat}{h:Nat->Prop}{o:Option Addr}{r:List UInt8}{A:Nat->Bool}{B:Nat->Nat->Bool}{C:Nat->Nat->Prop}(i:Nat)(S T:ag)(V X:af)(j k m n:Nat)(Z:Int)(W:ae)
def ag5(e:Nat)(b:ag)(a r:Nat)(s:af)(d:List Nat)(o:ae)(n:Rc o e b a)(H:e<r)(D:o.ownsRow r 5 1 s d.length (py d))(x:∀F∈d,F<256):
  Calls prog 232 #[.pointer<|some ⟨e,0,none⟩,s] o λg L=>g=.returned (.tuple #[.int .u8 ((fa b d a).2.1:Int),.bool (fa b d a).2.2])/\Mk e o L (fa b d a).1:=by
 have c:=J n;have T:=n.li;have y:=J D;have z:=J x;by_cases l:pk b a=92
 .have j:=J l;generalize m:fa b d a=k;have h:=J m;have⟨w,v,q⟩:=k;go_in;go_wp21;refine(iz e b a _ c.out).mono ?_;rw[j.out];rintro g u ⟨rfl,i,rfl⟩;go_wp21;refine(ant e b a r s d _ (c.drewN i) j.out H y.out z.out).mono ?_;rw[h.out];rintro g A ⟨rfl,f⟩;have p:=((Mk.ee c).drewN i).trans f;simp only;go_wp21;go_ret2;exact⟨rfl,p⟩
 have f:Y (fa b d a=if pk b a=-1\/br b yr a=true\/d.contains (au b a)=true then(a,0,false)else(a+1,au b a,true)):=by rw[Y,fa,N l]
 generalize m:fa b d a=k at f;by_cases m:pk b a=-1
 .have j:=J m;have h:Y (k=(a,0,false)):=by rw[Y,f.out,G<|.inl m]
  go_in;go_wp21;refine(iz e b a _ c.out).mono ?_;rw[j.out];rintro g u ⟨rfl,i,rfl⟩;go_wp21;go_ret2;rw[h.out];exact⟨rfl,(Mk.ee c).drewN i⟩
 have⟨Q,q⟩:=ho m;have B:=ms b a;generalize au b a=p at q B f;have j:=J q;have U:((p:Int)==-1)=false:=hh;have V:((p:Int)==92)=false:=hh (by rw[<-q];exact l)
 have⟨W,X,Z,_,_⟩:=c.out;rcases df (br b yr a)with t|t
 .have v:=J t;have h:Y (k=(a,0,false)):=by rw[Y,f.out,G<|.inr<|.inl t]
  go_in;go_wp21;refine(iz e b a _ c.out).mono ?_;rw[j.out];rintro g u ⟨rfl,i,rfl⟩;go_wp21;refine(oj e b yr a _<|c.drewN i).mono ?_;rw[v.out];rintro g A ⟨rfl,C,rfl⟩;go_wp21;go_ret2;rw[h.out];exact⟨rfl,(Mk.ee c).drewN _⟩
 have v:=J t;go_in;go_wp21;refine(iz e b a _ c.out).mono ?_;rw[j.out];rintro g u ⟨rfl,i,rfl⟩;go_wp21;refine(oj e b yr a _<|c.drewN i).mono ?_;rw[v.out];rintro g A ⟨rfl,C,rfl⟩;go_wp21;go_call Nv r s d p (o.drewN<|i+C) y.out z.out B as g w4 ⟨F,rfl,S,E⟩;subst E;rcases S with⟨w,K⟩|⟨w,K⟩
 .have h:Y (k=(a,0,false)):=by rw[Y,f.out,G<|.inr<|.inr w]
  go_wp21;go_ret2;rw[h.out];exact⟨rfl,(Mk.ee c).drewN _⟩
 have h:Y (k=(a+1,p,true)):=by rw[Y,f.out,N<|by rw[t,w];simp;exact m]
 go_wp21;go_ret2;rw[h.out];exact⟨rfl,((Mk.ee c).drewN _).set (a+1)⟩
def Hd(b:List Nat)(a:Nat)(h:a<=S.size):(fa S b a).1<=S.size/\a<=(fa S b a).1/\(fa S b a).2.1<256/\((fa S b a).2.2=true->a<(fa S b a).1):=by
 unfold fa;split
 .rename_i c;have⟨d,_⟩:=ho (s:=S) (i:=a) (by rw[c];decide);split
  .simp;omega
  split
  .rename_i e;have⟨f,g⟩:=ag2 e;split
   .simp;omega
   have:val (au S<|a+1)<256:=by unfold val;split<;>omega
   simp;omega
  simp;omega
 split
 .simp;omega
 rename_i c;have⟨d,_⟩:=ho (s:=S) (i:=a)<|λe=>c<|.inl e;have:=ms S a;simp;omega
def Gb(a:List Nat)(c:ae)(g:c.ownsRow i 5 1 V a.length (py a))(n:∀r∈a,r<256):(convert 99 9 V).run prog c=.ok (.string<|iy a) c:=by
 obtain⟨s,h⟩:=g;rcases h with⟨rfl,j⟩|⟨d,k,l,rfl,_,m,t,_,u,o⟩
 .have:a=[]:=Ex.1 j;subst this;rw[run_convert_bytes_string (P:=prog) c 99 9 5 none 0 0 underlying99 underlying5 underlying9];rfl
 have:=run_convert_bytes_back (P:=prog) c 99 9 5 (O d 0) k (a.map Nat.toUInt8) underlying99 underlying5 underlying9 (λb p=>by
  have f:b<a.length:=by simpa using p
  have q:((O d 0):Addr).add b=(O d b):=by unfold Addr.add;split<;>simp_all
  rw[q,cell_of_row c d b l 5 (0,0) m];have e:(py a)[b]?=some (.int .u8 ((a.map Nat.toUInt8)[b].toNat:Int)):=by
   have v:=n a[b]<|List.getElem_mem f;simp[py,dy f];omega
  rw[<-o,Cg]at e;split at e
  .simpa using e
  cases e)
 rw[List.length_map]at this;exact this
def awu(b:List Nat)(a:Nat):py (b++[a])=py b++[Value.int .u8 a]:=by simp[py]
structure Ri(w wr:ae)(b j:Nat)(v:af)(l:List Nat):Prop where
 mv:Mk b w wr j
 own:wr.ownsRow w.heap.size 5 1 v l.length (py l)
def Ri.move{f wr h:ae}(d:Ri f wr a b x g)(k:a<f.heap.size)(i:Mk a wr h c):Ri f h a c x g:=
 ⟨d.mv.trans i,da d.own λe j=>i.block e (d.own.lt e j).2 (by have:=(d.own.lt e j).1;omega)⟩
def Ri.below{i wr b:ae}{c f:Nat}{h:af}{g:List Nat}(a:Ri i wr c f h g)(d:Below wr.heap.size wr b):Ri i b c f h g:=
 ⟨a.mv.below d,da a.own λe j=>d.block e (a.own.lt e j).2⟩
def Ri.grown(h:Ri w u a b x g)(s:a<w.heap.size)
  (n:v.ownsRow w.heap.size 5 1 (aa c (g.length+1) d) (g.length+1) (py g++[Value.int .u8 e])) (i:u.grownBy v x.ownBlock):
  Ri w v a b (aa c (g.length+1) d) (g++[e]):=by
 have o:a<u.heap.size:=dw u _ h.mv.c1;have p:some a≠x.ownBlock:=λk=>by have:=(h.own.lt a k.symm).1;omega
 have l:=i.block a o p;have m:∀f,v.cell? (O a f)=u.cell? (O a f):=λf=>ac f l
 have q:∀f,v.frozen? (O a f)=u.frozen? (O a f):=λf=>ad f l
 refine⟨⟨i.os.trans h.mv.os,i.tape.trans h.mv.tape,i.output.trans h.mv.output,bq h.mv.size i.size,λf j r=> ?_,(m 1).trans h.mv.c1,λf j=>(m f).trans<|h.mv.cell f j,λf=>(q f).trans<|h.mv.cd f⟩,?_⟩
 .rw[i.block f (ew j h.mv.size) (λk=>by have:=(h.own.lt f k.symm).1;omega)];exact h.mv.block f j r
 rw[awu,ga];exact n
def Ei:(prog.info? 5).map (λa=>(a.zero,a.size,a.bytes))=some (some<|.int .u8 0,1,1):=by kernel_rfl
def ahc(e:ag):∀(f c:Nat)(g:List Nat),c<=e.size->g.length<=c->(∀i∈g,i<256)->(rowL e f c g).1<=e.size/\(rowL e f c g).2.1.length<=e.size/\∀i∈(rowL e f c g).2.1,i<256
 |0,c,g,h,d,b=>by simp[rowL];exact⟨h,by omega,b⟩
 |f+1,c,g,h,d,b=>by
  unfold rowL;split
  .rename_i a;obtain⟨j,_⟩:=ho (s:=e) (i:=c) (by rw[a];decide);exact⟨by simp only;omega,by simp only;omega,b⟩
  obtain⟨j,m,n,k⟩:=Hd e g c h;split
  .rename_i l;refine ahc e f _ _ j (by have:=k l;simp;omega)<|λi a=> ?_;rcases og.1 a with a|a
   .exact b i a
   simp at a;omega
  exact⟨j,by simp,λi a=>by simp at a⟩
def Qzp(H:Rc W i S j):
  Calls prog 200 #[.pointer<|some ⟨i,0,none⟩] W λg b1=>∃k aD,g=.returned (.tuple #[.string k,.string aD,.bool (jo S j).2.2.2])/\Mk i W b1 (jo S j).1/\(jo S j).1<=S.size/\((jo S j).2.2.2=true->k=(jo S j).2.1/\aD=(jo S j).2.2.1):=by
 have b2:=Rc.lt H;have aO:=H.le;have b3:=H.li;obtain⟨aE,aF,aG,aH,aI⟩:=info_parts Ei;generalize a:jo S j=w;have a7:=J a;clear a;by_cases n:pk S j=((47:Nat):Int)
 .have a8:=J n;obtain⟨b4,_⟩:=ho (s:=S) (i:=j) (by rw[n];decide);have P:Y (w=if(rowL S (S.size+1) (j+1) []).2.2=true then(if(mp S (rowL S (S.size+1) (j+1) []).2.1.length (rowL S (S.size+1) (j+1) []).1 []).2.2=true then(if pk S (mp S (rowL S (S.size+1) (j+1) []).2.1.length (rowL S (S.size+1) (j+1) []).1 []).1=47 then((mp S (rowL S (S.size+1) (j+1) []).2.1.length (rowL S (S.size+1) (j+1) []).1 []).1+1,iy (rowL S (S.size+1) (j+1) []).2.1,iy (mp S (rowL S (S.size+1) (j+1) []).2.1.length (rowL S (S.size+1) (j+1) []).1 []).2.1,true)else((mp S (rowL S (S.size+1) (j+1) []).2.1.length (rowL S (S.size+1) (j+1) []).1 []).1,iy (rowL S (S.size+1) (j+1) []).2.1,iy (mp S (rowL S (S.size+1) (j+1) []).2.1.length (rowL S (S.size+1) (j+1) []).1 []).2.1,false))else((mp S (rowL S (S.size+1) (j+1) []).2.1.length (rowL S (S.size+1) (j+1) []).1 []).1,fo,fo,false))else((rowL S (S.size+1) (j+1) []).1,fo,fo,false)):=by
   rw[Y,<-a7.out,jo,G<|by rw[n];rfl]
  clear n a7;generalize hF:rowL S (S.size+1) (j+1) []=u at P;have aP:=J hF;have a:u.1<=S.size/\u.2.1.length<=S.size/\∀k∈u.2.1,k<256:=by rw[<-hF];exact ahc S _ _ _ (by omega) (by simp)<|by simp
  have b5:=J a;clear hF a;go_in;go_wp21;go_call sr i S j 47 _ H (by omega) a8 as g C ⟨rfl,h⟩;have X:=h.rc H (by omega);have K:Y (Mk i W C<|j+1):=.mv h;have b6:=h.only.size;clear h;go_wp21;go_loopw [5] (λa9 wr=>∃(e v:Nat)(a:List Nat),Ri C wr i e a9 a/\e<=S.size/\a.length+j+1<=e/\S.size+1<=v+e/\Y (∀k∈a,k<256)/\Y (u=rowL S v e a)) (λ_ wr=>S.size-xi wr i)
  case atStart=>exact⟨j+1,S.size+1,[],⟨Mk.ee X,World.ownsRow_nil _ _ _ _⟩,by omega,by simp,by omega,λk p=>by simp at p,aP.symm⟩
  obtain⟨e,v,a,Z,aA,b7,b8,Q,aQ⟩:=hrel;have aJ:=Z.mv.rc X aA;have aR:=J<|pu Z.mv.c1;have a0:Y (u=if pk S e=47 then(e+1,a,true)else if(fa S a e).2.2=true then rowL S (v-1) (fa S a e).1 (a++[(fa S a e).2.1])else((fa S a e).1,[],false)):=by
   rw[Y,aQ.out]
   conv=>lhs;rw[show v=(v-1)+1 by omega,rowL]
  by_cases n:pk S e=((47:Nat):Int)
  .have aB:=J n;obtain⟨b9,_⟩:=ho (s:=S) (i:=e) (by rw[n];decide);have x:Y (u=(e+1,a,true)):=by rw[Y,a0.out,G<|by rw[n];rfl]
   clear n a0;go_wp21;go_call sr i S e 47 _ aJ (by omega) aB as g o ⟨rfl,h⟩;have q:=Z.move (by omega)<|.mv h;clear h;obtain⟨R,T,rfl⟩:∃R T,u5=.slice R a.length T:=by
    rcases q.own.2 with⟨g,c⟩|⟨d,y,_,g,_⟩
    .exact⟨none,0,by rw[g,c]⟩
    exact⟨_,_,g⟩
   have U:i<o.heap.size:=dw o _ q.mv.c1;have bA:a.length<=400:=by omega
   have aK:=q.mv.rc X (by omega);generalize c:mp S a.length (e+1) []=r;have aS:=J c;have aL:Y (w=if r.2.2=true then(if pk S r.1=47 then(r.1+1,iy a,iy r.2.1,true)else(r.1,iy a,iy r.2.1,false))else(r.1,fo,fo,false)):=by
    rw[Y,P.out,x.out];simp only[c];rfl
   clear c;go_wp21;go_loopw [6,35] (λaT aU aV=>∃(c f:Nat)(d:List Nat),Ri o aV i c aT d/\aU=I f/\f<=a.length/\Y (d.length=f)/\c<=S.size/\Y (∀k∈d,k<256)/\Y (r=mp S (a.length-f) c d)) (λ_ a9 _=>a.length-(intOf a9).toNat)
   case atStart=>exact⟨e+1,0,[],⟨Mk.ee aK,World.ownsRow_nil _ _ _ _⟩,rfl,by omega,rfl,by omega,λk p=>by simp at p,aS.symm⟩
   obtain⟨c,f,d,b,rfl,E,aM,aC,a1,aN⟩:=hrel;have bD:d.length<=400:=by rw[aM.out];omega
   have F:=b;have A:=b.mv.rc aK aC;have a2:=J (da q.own λf E=>b.mv.block f (q.own.lt f E).2 (by have:=(q.own.lt f E).1;omega));clear b;by_cases aW:f=a.length
   .subst aW;have B:Y (r=(c,d,true)):=by rw[Y,aN.out,xx];rfl
    have z:Y (w=if pk S c=47 then(c+1,iy a,iy d,true)else(c,iy a,iy d,false)):=by rw[Y,aL.out,B.out];rfl
    have L:∀b,(convert 99 9<|.slice R a.length T).run prog (wr.drewN b)=.ok (.string<|iy a) (wr.drewN b):=λb=>Gb C.heap.size _ a _ a2 Q.out
    have M:∀b,(convert 99 9 u6).run prog (wr.drewN b)=.ok (.string<|iy d) (wr.drewN b):=λb=>Gb o.heap.size _ d _ F.own a1.out
    have V:(convert 99 9<|.slice R a.length T).run prog wr.drew=.ok (.string<|iy a) wr.drew:=Gb C.heap.size _ a _ a2 Q.out;have a3:(convert 99 9 u6).run prog wr.drew=.ok (.string<|iy d) wr.drew:=Gb o.heap.size _ d _ F.own a1.out;by_cases l:pk S c=((47:Nat):Int)
    .have s:=J l;obtain⟨a4,_⟩:=ho (s:=S) (i:=c) (by rw[l];decide);have t:Y (w=(c+1,iy a,iy d,true)):=by rw[Y,z.out,G<|by rw[l];rfl]
     clear l;have a5:∀b m,(convert 99 9<|.slice R a.length T).run prog ((wr.setCell (O i 1) m).drewN b)=.ok (.string<|iy a) ((wr.setCell (O i 1) m).drewN b):=λb m=>Gb C.heap.size _ a _ (da a2 λf E=>er _ _ _ _ (by have:=(a2.lt f E).1;simp only;omega)) Q.out
     have a6:∀b m,(convert 99 9 u6).run prog ((wr.setCell (O i 1) m).drewN b)=.ok (.string<|iy d) ((wr.setCell (O i 1) m).drewN b):=λb m=>Gb o.heap.size _ d _ (da F.own λf E=>er _ _ _ _ (by have:=(F.own.lt f E).1;simp only;omega)) a1.out
     go_wp21;go_region_with (go_at_call 100;go_call Bh i S c 47 _ (by first|exact A|exact A.drewN _|exact A.drewN 1) (by omega) s as g w3 ⟨rfl,D,rfl⟩)
     all_goals go_wp21
     all_goals rw[t.out]
     all_goals exact bodyPost_ret (v:=.tuple #[.string<|iy a,.string<|iy d,.bool true]) (by simp[results,results200,go_sem]) rfl ⟨_,_,rfl,(K.trans q.mv).trans<|(F.mv.set (c+1)<|by omega).drewN _,(by simp only;omega),λ_=>⟨rfl,rfl⟩⟩
    have s:=J l;have t:Y (w=(c,iy a,iy d,false)):=by rw[Y,z.out,N<|λg=>l<|by rw[g];rfl]
    clear l;go_wp21;go_region_with (go_at_call 100;go_call tq i S c 47 _ (by first|exact A|exact A.drewN _|exact A.drewN 1) (by omega) s as g w3 ⟨rfl,D,rfl⟩)
    all_goals go_wp21
    all_goals rw[t.out]
    all_goals exact bodyPost_ret (v:=.tuple #[.string<|iy a,.string<|iy d,.bool false]) (by simp[results,results200,go_sem]) rfl ⟨_,_,rfl,(K.trans q.mv).trans<|F.mv.drewN _,(by simp only;omega),λ_=>⟨rfl,rfl⟩⟩
   have bE:f<a.length:=by omega
   have bF:(f:Int)<a.length:=by omega
   have s:Y (r=if(fa S [] c).2.2=true then mp S (a.length-(f+1)) (fa S [] c).1 (d++[(fa S [] c).2.1])else((fa S [] c).1,[],false)):=by
    rw[Y,aN.out]
    conv=>lhs;rw[show a.length-f=(a.length-(f+1))+1 by omega,mp]
   have t:=Hd S [] c aC;go_wp21;refine(ag5 i S c o.heap.size (.slice none 0 0) [] _ A U (World.ownsRow_nil _ _ _ _)<|λk p=>by simp at p).mono ?_;generalize fa S [] c=a3 at s t|-;obtain⟨B,y,a4⟩:=a3;simp only at t s|-;rintro g w3 ⟨rfl,h⟩;have l:=F.move U h;have aX:=l.mv.size;clear h;cases a4 with
   |false=>
    have a5:Y (r=(B,[],false)):=by rw[Y,s.out];rfl
    have z:Y (w=(B,fo,fo,false)):=by rw[Y,aL.out,a5.out];rfl
    clear s;go_wp21;rw[z.out];exact bodyPost_ret (v:=.tuple #[.string fo,.string fo,.bool false]) (by simp[results,results200,go_sem];rfl) rfl ⟨_,_,rfl,(K.trans q.mv).trans l.mv,t.1,λb=>(by cases b)⟩
   |true=>
    have a5:Y (r=mp S (a.length-(f+1)) B (d++[y])):=by rw[Y,s.out];rfl
    have aY:=t.2.2.1;have D:Y (∀m,Below w3.heap.size w3 m->Ri o m i B u6 d):=λm b=>l.below b
    clear s;go_wp2_with (at_builtin;refine wpList_append_lies _ rfl _ _ 99 rfl o.heap.size 5 aE (.int .u8 0) 1 1 underlying99 aF aG aH aI rfl (by omega) u6 d.length (py d) rfl (D _<|(bp _ _).alloc ah _).own (O w3.heap.size 0) 1 1 [Value.int .u8 y] rfl rfl (cell_one_new _ _ _) (λk p=>by simp at p;subst p;rfl) (by omega) (by unfold maxLen;omega) (by omega) (by simp;omega) (w3.heap.size+1) (by simp) ?_;intro aZ b0 w4 L M a6 s;have V:=(D _<|(bp _ _).alloc ah _).grown U L M;clear L M a6 s);go_roundw
    case rel=>exact⟨B,f+1,d++[y],V,rfl,by omega,(by rw[Y,ga,aM.out];rfl),t.1,λk p=>by rcases og.1 p with b|b;exact a1.out k b;simp at b;omega,a5⟩
    simp[intOf];omega
  have aB:=J n;have x:Y (u=if(fa S a e).2.2=true then rowL S (v-1) (fa S a e).1 (a++[(fa S a e).2.1])else((fa S a e).1,[],false)):=by rw[Y,a0.out,N<|λg=>n<|by rw[g];rfl]
  clear n a0;have d:=Hd S a e aA;go_wp21;go_call qq i S e 47 _ aJ (by omega) aB as g o ⟨rfl,h⟩;have q:=Z.move (by omega)<|.mv h;clear h;go_wp21;refine(ag5 i S e C.heap.size u5 a _ (q.mv.rc X aA) (by omega) q.own Q.out).mono ?_;generalize fa S a e=a3 at x d|-;obtain⟨c,y,a4⟩:=a3;simp only at d x|-;rintro g w3 ⟨rfl,h⟩;have l:=q.move (by omega) h;have aX:=l.mv.size;clear h;cases a4 with
  |false=>
   have f:Y (u=(c,[],false)):=by rw[Y,x.out];rfl
   have z:Y (w=(c,fo,fo,false)):=by rw[Y,P.out,f.out];rfl
   clear x;go_wp21;rw[z.out];exact bodyPost_ret (v:=.tuple #[.string fo,.string fo,.bool false]) (by simp[results,results200,go_sem];rfl) rfl ⟨_,_,rfl,K.trans l.mv,d.1,λb=>(by cases b)⟩
  |true=>
   have f:Y (u=rowL S (v-1) c (a++[y])):=by rw[Y,x.out];rfl
   have aC:=d.2.2.2 rfl;have aY:=d.2.2.1;have D:Y (∀m,Below w3.heap.size w3 m->Ri C m i c u5 a):=λm b=>l.below b
   clear x;go_wp2_with (at_builtin;refine wpList_append_lies _ rfl _ _ 99 rfl C.heap.size 5 aE (.int .u8 0) 1 1 underlying99 aF aG aH aI rfl (by omega) u5 a.length (py a) rfl (D _<|(bp _ _).alloc ah _).own (O w3.heap.size 0) 1 1 [Value.int .u8 y] rfl rfl (cell_one_new _ _ _) (λk p=>by simp at p;subst p;rfl) (by omega) (by unfold maxLen;omega) (by omega) (by simp;omega) (w3.heap.size+1) (by simp) ?_;intro aZ b0 w4 L M a6 s;have V:=(D _<|(bp _ _).alloc ah _).grown (by omega) L M;clear L M a6 s);go_roundw
   case rel=>exact⟨c,v-1,a++[y],V,d.1,by simp;omega,by omega,λk p=>by rcases og.1 p with b|b;exact Q.out k b;simp at b;omega,f⟩
   have P:=pu V.mv.c1;have U:=aR;rw[P,U];omega
 have a8:=J n;have z:Y (w=(j,fo,fo,false)):=by rw[Y,<-a7.out,jo,N<|λg=>n<|by rw[g];rfl]
 clear n;go_in;go_wp21;go_call qq i S j 47 _ H (by omega) a8 as g C ⟨rfl,h⟩;have K:Y (Mk i W C j):=.mv h;clear h;go_wp21;rw[z.out];exact bodyPost_ret (v:=.tuple #[.string fo,.string fo,.bool false]) (by simp[results,results200,go_sem];rfl) rfl ⟨_,_,rfl,K,aO,λb=>(by cases b)⟩
def Uw(d:UInt8):∀e:List UInt8,(Lib.indexByte e d=-1/\∀c∈e,c≠d)\/∃f,f<e.length/\Lib.indexByte e d=(f:Int)/\e[f]?=some d/\∀g c,g<f->e[g]?=some c->c≠d
 | []=> .inl ⟨rfl,λc a=>by simp at a⟩
 |b::e=>by
  rw[Lib.indexByte];by_cases h:(b==d)=true
  .refine .inr ⟨0,by simp,by simp[h],by simp at h;simp[h],λg c l=>by omega⟩
  have j:b≠d:=by simpa using h
  rcases Uw d e with⟨k,i⟩|⟨f,k,i,m,n⟩
  .refine .inl ⟨by simp[h,k],λc a=> ?_⟩;rcases vc.1 a with rfl|a
   .exact j
   exact i c a
  refine .inr ⟨f+1,by simp;omega,?_,by simpa using m,λg c l a=> ?_⟩
  .rw[i];have:¬((f:Int)<0):=by omega
   simp[h,this]
  cases g with
  |zero=>simp at a;rw[<-a];exact j
  |succ g=>exact n g c (by omega)<|by simpa using a
def Tv(e:ag):∀(f b a:Nat),b<=a->a<=e.size->a-b<=f->(∀i,b<=i->i<a->au e i≠10)->(a<e.size->au e a=10)->(a-b<f\/a=e.size)->jh e f b=a
 |0,b,a,h,g,h3,c,d,j=>by simp[jh];omega
 |f+1,b,a,h,g,h3,c,d,j=>by
  unfold jh;by_cases m:b=a
  .subst m;rw[if_neg];rintro⟨l,k⟩;exact k<|d l
  rw[G ⟨by omega,c b ah<|by omega⟩];exact Tv e f (b+1) a (by omega) g (by omega) (λi l k=>c i (by omega) k) d<|by omega
def anr:(Lib.indexByte S.data.toList 10=-1/\ci S 0=S.size)\/(ci S 0<S.size/\Lib.indexByte S.data.toList 10=(ci S 0:Int)):=by
 have k:S.data.toList.length=S.size:=rfl;rcases Uw 10 S.data.toList with⟨e,d⟩|⟨g,e,d,h,i⟩
 .refine .inl ⟨e,Tv S _ 0 S.size (by omega) ah (by omega) (λb _ f=> ?_) (λj=>by omega)<|.inr rfl⟩;intro a
  have c:b<S.data.toList.length:=by omega
  have:=d S.data.toList[b]<|yzn c;apply this;unfold au at a;rw[yz,dy c]at a;exact yzt.1 a
 have j:ci S 0=g:=Tv S _ 0 g (by omega) (by omega) (by omega) (λb _ f a=>by
  have c:b<S.data.toList.length:=by omega
  apply i b S.data.toList[b] f<|dy c;unfold au at a;rw[yz,dy c]at a;exact yzt.1 a) (λ_=>by
  unfold au;rw[yz,h];rfl)<|.inl<|by omega
 exact .inr ⟨by omega,by rw[j];exact d⟩
def aqb(c:j<256):
  Calls prog 225 #[.string S,.int .u8 j] W λa b=>a=.returned (.int .i64<|Lib.indexByte S.data.toList (j:Int).toNat.toUInt8)/\b=W:=by
 have hd:Sem.run prog (callFunc 239 #[.string S,.int .u8 j]) W=.ok (.value<|I<|Lib.indexByte S.data.toList (j:Int).toNat.toUInt8) W:=by
  rw[yxf func239 (by kernel_rfl) (by kernel_rfl) (by kernel_rfl) (e:=Extern.BytealgIndexByte.indexByte)<|by kernel_rfl,Lib.run_indexByteString];rfl
 generalize Lib.indexByte S.data.toList (j:Int).toNat.toUInt8=d at hd;go_in;go_wp2;go_ret;exact⟨rfl,rfl⟩
def adu:
  Calls prog 251 #[.string S,.string ⟨#[10]⟩] W λa g=>a=.returned (.int .i64<|Lib.indexByte S.data.toList 10)/\g=W:=by
 generalize b:Lib.indexByte S.data.toList 10=e;have c:Y (Lib.indexByte S.data.toList ((10:Nat):Int).toNat.toUInt8=e):=b;by_cases d:S=⟨#[10]⟩
 .subst d;have f:e=0:=by rw[<-b];rfl
  subst f;go_in;go_wp21;go_ret;exact⟨rfl,rfl⟩
 have h:(([10]:List UInt8)==S.toList)=false:=by
  rw[xy];intro a
  apply d;rw[yyn]at a;apply va;exact(yzd.1 (show([10]:List UInt8)=S.data.toList from a)).symm
 go_in;go_wp21;refine(aqb S 10 W<|by omega).mono ?_;rw[c.out];rintro a i ⟨rfl,f⟩;subst f;go_wp21;go_ret;exact⟨rfl,rfl⟩
def anx(a:j=S.size):S.extract 0 j=S:=by subst a;exact acg S
def aqa(m:S.size<=1000000):
  Calls prog 241 #[.string S,.string ⟨#[10]⟩] W λf l=>f=.returned (.tuple #[.string<|S.extract 0<|ci S 0,.string<|S.extract (ci S 0+1) S.size,.bool<|decide (ci S 0<S.size)])/\∃k,l=W.drewN k:=by
 rcases anr S with⟨c,a⟩|⟨c,a⟩
 .have d:=J c;have b:Y (S.extract 0 (ci S 0)=S/\S.extract (ci S 0+1) S.size=⟨#[]⟩/\decide (ci S 0<S.size)=false):=by
   refine⟨anx S _ a,?_,by simp[a]⟩;apply va;apply yzd.1;rw[Lib.extract_data,a];simp
  go_in;go_wp21;go_call adu;rw[d.out];rintro f h ⟨rfl,e⟩;subst e;go_wp21;have⟨g,i,j⟩:=b;rw[g,i,j];go_returns;exact⟨rfl,0,rfl⟩
 have d:=J a;have g:Y (decide (ci S 0<S.size)=true):=by simpa[Y]using c
 generalize ci S 0=b at d g c;have i:(0:Int)<=b:=by omega
 have j:(b:Int)<=S.size:=by omega
 have n:(0:Int)<=b+1:=by omega
 have o:(b:Int)+1<=(S.size:Int):=by omega
 go_in;go_wp21;go_call adu;rw[d.out];rintro f h ⟨rfl,e⟩;subst e;go_wp21;go_quiet (fail);go_wp21;rw[g.out];go_returns;exact⟨rfl,_,rfl⟩
def Xr(j:S.size<=1000000):
  Calls prog 228 #[.string S,.string ⟨#[10]⟩] W λf k=>f=.returned (.tuple #[.string<|S.extract 0<|ci S 0,.string<|S.extract (ci S 0+1) S.size,.bool<|decide (ci S 0<S.size)])/\∃b,k=W.drewN b:=by
 generalize c:S.extract 0 (ci S 0)=g;generalize d:S.extract (ci S 0+1) S.size=h;generalize e:decide (ci S 0<S.size)=i;have a:Y (S.extract 0 (ci S 0)=g/\S.extract (ci S 0+1) S.size=h/\decide (ci S 0<S.size)=i):=⟨c,d,e⟩;go_in;go_wp21;go_call aqa;rw[a.1,a.2.1,a.2.2];rintro f c ⟨rfl,b,rfl⟩;go_wp21;go_returns;exact⟨rfl,b,rfl⟩
def alp:prog.cellsOf 5=1:=by kernel_rfl
def aqs(h:i<=1000000):∃b:Array af,b.size=i/\∀a:ae,(Instr.makeSlice 99 (I i)<|I i).run prog a=.ok (aa a.heap.size i i) (a.alloc<|.cells b 5):=by
 have⟨g,c,d,e,f⟩:=yyf Ei;refine⟨madeCells (Value.int .u8 0).cells<|i*1,by simp[size_madeCells],λa=> ?_⟩;have:=yxt (P:=prog) a 99 5 g _ underlying99 c d .i64 .i64 i i (by omega) (yzw _) (by rw[f];omega) (by omega);rw[e]at this;simpa using this
def copied(a:Array af)(b:a.size=S.size):(a.toList.take 0++Lib.byteCells S.data.toList++a.toList.drop (0+S.size)).toArray=(Lib.byteCells S.data.toList).toArray:=by
 rw[List.take_zero,List.nil_append,List.drop_of_length_le<|by rw[Array.length_toList];omega,xu]
def ap9(f:S.size<=1000000):
  Calls prog 242 #[.string S] W λc n=>c=.returned (.string S)/\Below W.heap.size W n:=by
 by_cases d:S.size=0
 .obtain rfl:S=⟨#[]⟩:=by
   apply va;exact Array.eq_empty_of_size_eq_zero d
  go_in;go_wp2;go_ret;exact⟨rfl,bp _ _⟩
 have⟨a,g,q⟩:=aqs S.size f;have o:((S.size:Int)==0)=false:=hh;have e:(prog.info? 5).map (·.size)=some 1:=by kernel_rfl
 have h:(Lib.byteCells S.data.toList).length=S.size:=by rw[Lib.byteCells_length,<-Lib.size_eq]
 have i:=Lib.run_copy_row_string (P:=prog) (W.alloc<|.cells a 5) 99 9 3 5 W.heap.size 0 S.size S.size S a 5 underlying99 e (yyb W _) ah (by omega);rw[copied S a g]at i;have b:((W.alloc<|.cells a 5).setRow W.heap.size (Lib.byteCells S.data.toList).toArray).heap[W.heap.size]?=some (.cells (Lib.byteCells S.data.toList).toArray 5 (0,0)):=setRow_heap _ _ a _ 5 (0,0)<|yyb W _;have k:=Lib.run_unsafeString_row (P:=prog) ((W.alloc<|.cells a 5).setRow W.heap.size (Lib.byteCells S.data.toList).toArray) 301 3 9 5 underlying301 alp W.heap.size (Lib.byteCells S.data.toList).toArray.size (by unfold World.shape?;rw[b]) S.data.toList (λc=>d<|by rw[Lib.size_eq,c];rfl) (by rw[List.size_toArray,h,Lib.size_eq];exact ah) (by rw[<-Lib.size_eq];omega)
  (λj m l=>Lib.cells_of_row b (Lib.byteCells S.data.toList).toArray.size j _<|by rw[Hh<|by rw[Array.length_toList];exact ah];simp[Lib.byteCells,l])
 rw[<-Lib.size_eq]at k;have j:Y (Below W.heap.size W<|((W.alloc<|.cells a 5).setRow W.heap.size (Lib.byteCells S.data.toList).toArray).freeze (O W.heap.size 0) S.size):=by
  have l:Below W.heap.size W (W.alloc<|.cells a 5):=(bp _ W).alloc ah _;have m:Below W.heap.size (W.alloc<|.cells a 5) ((W.alloc<|.cells a 5).setRow W.heap.size (Lib.byteCells S.data.toList).toArray):=⟨rfl,rfl,rfl,by simp,λp r=>setRow_other _ _ _ _<|by omega⟩;exact Lib.below_freeze (l.trans m) (p:=O W.heap.size 0) ah _
 go_in;go_wp2;go_ret;exact⟨rfl,j⟩
def aua(c:S.size<=1000000):
  Calls prog 229 #[.string S] W λb e=>b=.returned (.string S)/\Below W.heap.size W e:=by
 go_in;go_wp21;go_call ap9 as b d ⟨rfl,a⟩;go_wp21;go_ret;exact⟨rfl,a⟩
def ab9(a:ag)(b:Nat)(i:b<=a.size):∀(f c:Nat),jh (a.extract b a.size) f c+b=jh a f (b+c)
 |0,c=>by simp[jh];omega
 |f+1,c=>by
  unfold jh;have h:(a.extract b a.size).size=a.size-b:=by simp[lw]
  by_cases g:c<a.size-b
  .rw[ty a b a.size c];by_cases e:au a (b+c)≠10
   .rw[G ⟨by rw[h];exact g,e⟩,G ⟨by omega,e⟩,ab9 a b i f<|c+1];rfl
   rw[N<|λd=>e d.2,N<|λd=>e d.2];omega
  rw[N<|λd=>g<|by rw[h]at d;exact d.1,N<|λd=>g<|by omega];omega
def Ki(c:j<=S.size:=by omega):(S.extract j S.size).extract 0 (ci (S.extract j S.size) 0)=S.extract j (ci S j)/\(S.extract j<|ci S j).size=ci S j-j/\j<=ci S j/\ci S j<=S.size:=by
 have d:(S.extract j S.size).size=S.size-j:=by simp[lw]
 have k:ci (S.extract j S.size) 0+j=ci S j:=by
  unfold ci;rw[ab9 S j c _ 0,d,zyi,yzp]
 have g:∀(b a:Nat),a<=S.size->a<=jh S b a/\jh S b a<=S.size:=by
  intro b
  induction b with
  |zero=>intro a e;simp[jh];omega
  |succ b f=>
   intro a e
   unfold jh;split
   .rename_i h;have:=f (a+1) (by omega);omega
   omega
 have⟨h,i⟩:=g (S.size-j) j c;have e:j<=ci S j:=h;have f:ci S j<=S.size:=i;refine⟨?_,by simp[lw];omega,e,f⟩;rw[show ci (S.extract j S.size) 0=ci S j-j by omega];apply va;apply yzd.1;rw[Lib.extract_data,Lib.extract_data,Lib.extract_data];rw[zyi,List.drop_zero,List.take_take];congr 1;omega
def Vm(c:Rc W i S j):
  Calls prog 198 #[.pointer<|some ⟨i,0,none⟩] W λb g=>
   (pk S j=32/\b=.returned (.tuple #[.string<|S.extract (j+1)<|ci S<|j+1,.bool true])/\Mk i W g (ci S<|j+1)/\ci S (j+1)<=S.size)\/(pk S j≠32/\b=.returned (.tuple #[.string fo,.bool false])/\Mk i W g j):=by
 have A:=c.li;by_cases d:pk S j=((32:Nat):Int)
 .have f:=J d;have⟨x,_⟩:=ho (s:=S) (i:=j) (by rw[d];decide);have⟨q,r,s,o⟩:=Ki S (j+1);have t:=J q;obtain⟨a,l⟩:∃a,S.extract (j+1) (ci S<|j+1)=a:=⟨_,rfl⟩;have n:Y (j+1+a.size=ci S (j+1)):=by rw[Y,<-l,r];omega
  have p:=J l;have v:j+1+a.size<=S.size:=by rw[n.out];exact o
  have C:(0:Int)<=j+1:=by omega
  have D:(j:Int)+1<=(S.size:Int):=by omega
  have k:Y (∀e,Calls prog 228 #[.string<|S.extract (j+1) S.size,.string ⟨#[10]⟩] e λb g=>b=.returned (.tuple #[.string a,.string<|(S.extract (j+1) S.size).extract (ci (S.extract (j+1) S.size) 0+1) (S.extract (j+1) S.size).size,.bool<|decide (ci (S.extract (j+1) S.size) 0<(S.extract (j+1) S.size).size)])/\∃u,g=e.drewN u):=λe=>by
   have:=Xr (S.extract (j+1) S.size) e (by simp[lw];omega);rw[t.out,p.out]at this;exact this
  generalize(S.extract (j+1) S.size).extract (ci (S.extract (j+1) S.size) 0+1) (S.extract (j+1) S.size).size=E at k;generalize decide (ci (S.extract (j+1) S.size) 0<(S.extract (j+1) S.size).size)=y at k;go_in;go_wp21;go_call sr i S j 32 _ c (by omega) f as b m ⟨rfl,h⟩;have l:Y (Mk i W m<|j+1):=.mv h;have o:=h.rc c;have⟨r,s,F,_,_⟩:=o;go_wp21;go_quiet ((go_at_call 228;exact Calls.quiet_of<|k _));go_wp21;go_call aua as b H ⟨rfl,B⟩;have q:=((l.drewN nq).set (j+1+a.size)).below B;go_wp21;exact yyd (v:=.tuple #[.string a,.bool true]) (by simp[results,results198,go_sem]) rfl<|.inl ⟨f,by rw[p.out],by rw[<-n.out];exact q,by rw[<-n.out];exact v⟩
 have f:=J d;go_in;go_wp21;go_call qq as b m ⟨rfl,h⟩;have l:Y (Mk i W m j):=.mv h;go_wp21;exact yyd (v:=.tuple #[.string fo,.bool false]) (by simp[results,results198,go_sem];rfl) rfl<|.inr ⟨d,rfl,l⟩
def Ft(w:ae)(lo hi:Nat)(x:Wh)(ao:Option Addr)(l c:Nat)(r g:Int):Prop:=x.sort=3->jz w lo hi x.L (.slice ao l c) (I r) (I g)
def Qx(c:j<=S.size:=by omega):(dc S j Z).1<=S.size/\j<=(dc S j Z).1:=by
 unfold dc;split
 .rename_i a;have⟨b,_⟩:=ho (s:=S) (i:=j) (by rw[a];decide);simp only;omega
 split
 .rename_i a;have⟨b,_⟩:=ho (s:=S) (i:=j) (by rw[a];decide);have:=Lj S (j+1) Z;simp only;omega
 have:=Wc S 4 j 0 c;simp only;omega
structure Fv(w:ae)(N:Nat)(v0 v1 v2 v3 v4:af):Prop where
 c0:w.cell? (O N 0)=some v0
 c1:w.cell? (O N 1)=some v1
 c2:w.cell? (O N 2)=some v2
 c3:w.cell? (O N 3)=some v3
 c4:w.cell? (O N 4)=some v4
 f0:w.frozen? (O N 0)=false
 f1:w.frozen? (O N 1)=false
 f2:w.frozen? (O N 2)=false
 f3:w.frozen? (O N 3)=false
 f4:w.frozen? (O N 4)=false
def Fv.new{f g h i k:af}{e:TypeId}(j:w.heap[a]?=some (.cells #[f,g,h,i,k] e (0,0))):Fv w a f g h i k:=by
 have b:=λd=>yya w a d _ e (0,0) j
 have c:∀d,w.frozen? (O a d)=false:=λd=>by simp[World.frozen?,j]
 exact⟨b 0,b 1,b 2,b 3,b 4,c 0,c 1,c 2,c 3,c 4⟩
def Cu.Xb(d:Cu w a s b p)(c:Obj):Rc (w.alloc c) a s b:=(d.alloc c).rc
def ajq(d:Cu W i S j Z):
  Calls prog 195 #[.pointer<|some ⟨i,0,none⟩] W λb y=>∃(o:Option Addr)(r p:Nat)(s q:Int),b=.returned (.tuple #[.agg #[.int .i64 ((dc S j Z).2.1.sort:Int),.int .i64 ((dc S j Z).2.1.num:Int),.slice o r p,.int .i64 s,.int .i64 q],.bool (dc S j Z).2.2.2])/\Mw i W y/\Cu y i S (dc S j Z).1 (dc S j Z).2.2.1/\
   ((dc S j Z).2.2.2=true->Ft y W.heap.size y.heap.size (dc S j Z).2.1 o r p s q):=by
 have e:=d.lt;have T:=d.rc.le;have U:Y (W.heap.size<(W.alloc<|.cells #[I 0,I 0,.slice none 0 0,I 0,I 0] 195).heap.size):=by simp[Y]
 by_cases c:pk S j=((36:Nat):Int)
 .have t:=J c;have⟨V,_⟩:=ho (s:=S) (i:=j) (by rw[c];decide);have f:Y (dc S j Z=(j+1,⟨2,0,fo⟩,Z,true)):=by rw[Y,dc,G<|by rw[c];rfl]
  rw[f.out];go_in;go_wp21;go_call sr i S j 36 _ (d.Xb _) (by omega) t as b k ⟨rfl,a⟩;have u:=((Mw.refl i W).alloc e _).trans<|.mv a;have g:=(d.alloc _).mv a;have⟨K,L,M,P,Q,u0,u1,u2,u3,u4⟩:=Fv.new ((a.only.block W.heap.size<|by omega).trans<|yyb W _);go_wp21;refine yyd (v:=.tuple #[.agg #[I 2,I 0,.slice none 0 0,I 0,I 0],.bool true]) (by simp[results,results195,go_sem, *]) rfl ⟨none,0,0,0,0,rfl,?_,?_,λ_ v=>cb v<|by simp⟩
  . (repeat first|refine Mw.fi ?_ (by omega) e _|exact u)
  (repeat first|refine Cu.fi ?_ (by omega) _|exact g)
 by_cases h:pk S j=((47:Nat):Int)
 .have t:=J c;have E:=J h;have⟨V,_⟩:=ho (s:=S) (i:=j) (by rw[h];decide);have m:=Lj S (j+1) Z;have f:Y (dc S j Z=((dx S (j+1) Z).1,⟨3,0,(dx S (j+1) Z).2.1⟩,(dx S (j+1) Z).2.2.1,(dx S (j+1) Z).2.2.2)):=by rw[Y,dc,N<|λb=>c<|by rw[b];rfl,G<|by rw[h];rfl]
  rw[f.out];generalize l:dx S (j+1) Z=F at m;have H:=J l;have⟨R,a3,a4,z⟩:=F;simp only at m|-;go_in;go_wp21;go_call qq i S j 36 _ (d.Xb _) (by omega) t as b k ⟨rfl,a⟩;have u:=((Mw.refl i W).alloc e _).trans<|.mv a;have g:=(d.alloc _).mv a;have A:Y (k.heap[W.heap.size]?=some (.cells #[I 0,I 0,.slice none 0 0,I 0,I 0] 195)):=(a.only.block W.heap.size<|by omega).trans<|yyb W _;have a5:W.heap.size<k.heap.size:=by have:=a.only.size;have:=U.out;simp only[I]at this;omega
  go_wp21;go_call sr i S j 47 _ g.rc (by omega) E as b n ⟨rfl,a⟩;have B:=u.trans<|.mv a;have x:=g.mv a;have C:=J (a.only.block W.heap.size<|by omega);have X:W.heap.size<n.heap.size:=by have:=a.only.size;omega
  go_wp21;go_call Ps;rw[H.out];rintro b w3 ⟨o,r,p,s,q,rfl,a,a0,w⟩;have D:=B.trans a;have a1:=J w;have⟨K,L,M,P,Q,u0,u1,u2,u3,u4⟩:=Fv.new ((a.block W.heap.size X<|by omega).trans<|C.trans A);have a6:W.heap.size<w3.heap.size:=by have:=a.size;omega
  simp only;go_wp21;refine yyd (v:=.tuple #[.agg #[I 3,I 0,.slice o r p,I s,I q],.bool z]) (by simp[results,results195,go_sem, *]) rfl ⟨o,r,p,s,q,rfl,?_,?_,λv _=>(a1 v).keep ?_⟩
  . (repeat first|refine Mw.fi ?_ (by omega) e _|refine Mw.alloc ?_ e _|exact D)
  . (repeat first|refine Cu.fi ?_ (by omega) _|refine Cu.alloc ?_ _|exact a0)
  (repeat first|refine du.set ?_ (by omega)|refine du.alloc ?_|exact du.refl ah)
 have t:=J c;have E:=J h;have f:Y (dc S j Z=((numF S 4 j 0).1,⟨1,(numF S 4 j 0).2.1,fo⟩,Z,(numF S 4 j 0).2.2)):=by rw[Y,dc,N<|λb=>c<|by rw[b];rfl,N<|λb=>h<|by rw[b];rfl]
 have m:=Wc S 4 j 0 T;rw[f.out];generalize l:numF S 4 j 0=F at m;have H:=J l;have⟨R,l,z⟩:=F;simp only at m|-;go_in;go_wp21;go_call qq i S j 36 _ (d.Xb _) (by omega) t as b k ⟨rfl,a⟩;have u:=((Mw.refl i W).alloc e _).trans<|.mv a;have g:=(d.alloc _).mv a;have A:Y (k.heap[W.heap.size]?=some (.cells #[I 0,I 0,.slice none 0 0,I 0,I 0] 195)):=(a.only.block W.heap.size<|by omega).trans<|yyb W _;go_wp21;go_call qq i S j 47 _ g.rc (by omega) E as b n ⟨rfl,a⟩;have B:=u.trans<|.mv a;have x:=g.mv a;have C:=J (a.only.block W.heap.size<|by omega);go_wp21;refine(arn i S j _ x.rc).mono ?_;rw[H.out];rintro b w3 ⟨rfl,a⟩;have D:=B.trans<|.mv a;have w:Cu w3 i S R Z:=x.mv a;have⟨K,L,M,P,Q,u0,u1,u2,u3,u4⟩:=Fv.new ((a.only.block W.heap.size<|by omega).trans<|C.trans A);simp only;go_wp21;refine yyd (v:=.tuple #[.agg #[I 1,I l,.slice none 0 0,I 0,I 0],.bool z]) (by simp[results,results195,go_sem, *]) rfl ⟨none,0,0,0,0,rfl,?_,?_,λ_ v=>cb v<|by simp⟩
 . (repeat first|refine Mw.fi ?_ (by omega) e _|exact D)
 (repeat first|refine Cu.fi ?_ (by omega) _|exact w)
def Du(w:ae)(lo hi:Nat)(ps:List Pc)(v:af):Prop:=
 v.oneCell'=true/\hi<=w.heap.size/\∀w':ae,(∀k,lo<k->k<hi->w'.heap[k]?=w.heap[k]?)->w'.ownsRow (lo+1) 293 2 v ps.length (rq ps)
def Ni.av7{d:List Pc}(f:Ni w a c d x)(k:b<a)(g:du b c w u):Du u b u.heap.size d x:=
 ⟨f.1,ah,λi j=>World.ownsRow.mono (f.2.2 i λh l e=>(j h (by omega)<|ew e g.size).trans<|g.same h (by omega) e)<|by omega⟩
structure fw where
 a1:Option Addr
 l1:Nat
 c1:Nat
 r1:Int
 g1:Int
 a2:Option Addr
 l2:Nat
 c2:Nat
 r2:Int
 g2:Int
 a3:Option Addr
 l3:Nat
 c3:Nat
 r3:Int
 g3:Int
 tv:af
def Dh:fw:=⟨none,0,0,0,0,none,0,0,0,0,none,0,0,0,0,.slice none 0 0⟩
def ff(x:Cm)(q:fw):List af:=
 [I x.R,I x.fst.sort,I x.fst.num,.slice q.a1 q.l1 q.c1,I q.r1,I q.g1,
  I x.snd.sort,I x.snd.num,.slice q.a2 q.l2 q.c2,I q.r2,I q.g2,
  .bool x.neg,I x.cn,.string x.text,
  .slice q.a3 q.l3 q.c3,I q.r3,I q.g3,q.tv,I x.num,.bool x.all,.bool x.kr,.string x.la,.string x.oo]
def abe(b:Cm)(a:fw):(ff b a).length=23:=rfl
structure mq(w:ae)(lo hi:Nat)(x:Cm)(q:fw):Prop where
 fst:Ft w lo hi x.fst q.a1 q.l1 q.c1 q.r1 q.g1
 snd:Ft w lo hi x.snd q.a2 q.l2 q.c2 q.r2 q.g2
 L:x.R=19->jz w lo hi x.L (.slice q.a3 q.l3 q.c3) (I q.r3) (I q.g3)
 gj:x.R=19->Du w lo hi x.gj q.tv
 one:q.tv.oneCell'=true
def mq.keep{j:Cm}{i:fw}(e:mq w a b j i)(d:du a b w u):mq u a b j i:=
 ⟨λc=>(e.fst c).of d.same d.size,λc=>(e.snd c).of d.same d.size,λc=>(e.L c).of d.same d.size,λc=>⟨(e.gj c).1,d.size,λk l=>(e.gj c).2.2 k λh f g=>(l h f g).trans<|d.same h f g⟩,e.one⟩
def Rn(w:ae)(b:Nat)(cv lv:af)(xs:List af)(cs:List Cm):Prop:=∀(k:Nat)(x:Cm),cs[k]?=some x->
 ∃lo hi q,b<=lo/\hi<=w.heap.size/\(∀g,cv.ownBlock=some g->g<=lo\/hi<=g)/\(∀g,lv.ownBlock=some g->g<=lo\/hi<=g)/\mq w lo hi x q/\∀o v,(ff x q)[o]?=some v->xs[k*23+o]?=some v
def Bs(l:List ft):List af:=l.flatMap λx=>[Value.string x.name,I x.H,I x.cmd,.bool x.want]
def aqc(b:List ft)(a:ft):Bs (b++[a])=Bs b++[Value.string a.name,I a.H,I a.cmd,.bool a.want]:=by simp[Bs]
structure Rk(w:ae)(b:Nat)(s:ag)(p:cj)(cv lv:af):Prop where
 cu:Cu w b s p.H p.bk
 c2:w.cell? (O b 2)=some (I p.op)
 c3:w.cell? (O b 3)=some cv
 c4:w.cell? (O b 4)=some lv
 f2:w.frozen? (O b 2)=false
 f3:w.frozen? (O b 3)=false
 f4:w.frozen? (O b 4)=false
 own:∃xs,w.ownsRow (b+1) 200 23 cv p.U.length xs/\Rn w b cv lv xs p.U
 wj:w.ownsRow (b+1) 191 4 lv p.bh.length (Bs p.bh)
 apart:∀k,cv.ownBlock=some k->lv.ownBlock≠some k
structure Fq(b:Nat)(cv cv' lv lv':af)(w w':ae):Prop where
 os:w'.os=w.os
 tape:w'.tape=w.tape
 output:w'.output=w.output
 size:w.heap.size<=w'.heap.size
 block:∀k,k<w.heap.size->k≠b->some k≠cv.ownBlock->some k≠lv.ownBlock->w'.heap[k]?=w.heap[k]?
 cl:cv'.ownBlock=cv.ownBlock\/∀k,cv'.ownBlock=some k->w.heap.size<=k
 ll:lv'.ownBlock=lv.ownBlock\/∀k,lv'.ownBlock=some k->w.heap.size<=k
def Fq.refl:Fq i V V X X W W:=⟨rfl,rfl,rfl,ah,λ_ _ _ _ _=>rfl,.inl rfl,.inl rfl⟩
def Fq.trans{b:Nat}{l j i m k c:af}{r s t:ae}(a:Fq b l j m k r s)(d:Fq b j i k c s t):Fq b l i m c r t:=by
 refine⟨d.os.trans a.os,d.tape.trans a.tape,d.output.trans a.output,bq a.size d.size,λf n o p q=>?_,?_,?_⟩
 .refine(d.block f (ew n a.size) o ?_ ?_).trans (a.block f n o p q)
  .rcases a.cl with e|e
   .rw[e];exact p
   intro g;have:=e f g.symm;omega
  rcases a.ll with e|e
  .rw[e];exact q
  intro g;have:=e f g.symm;omega
 .rcases d.cl with e|e
  .rw[e];exact a.cl
  exact .inr λg h=>bq a.size<|e g h
 rcases d.ll with e|e
 .rw[e];exact a.ll
 exact .inr λg h=>bq a.size<|e g h
def Fq.mw(b:Mw a w u):Fq a x x y y w u:=⟨b.os,b.tape,b.output,b.size,λe c d _ _=>b.block e c d,.inl rfl,.inl rfl⟩
def Rk.mw{i:cj}(A:Rk w a s i x y)(c:Mw a w u)(D:Cu u a s b p):Rk u a s {i with H:=b,bk:=p} x y:=by
 obtain⟨P,E,F,H,L,M,j,⟨xs,f,z⟩,g,v⟩:=A;refine⟨D,(c.cell 2 (by omega)<|by omega).trans E,(c.cell 3 (by omega)<|by omega).trans F,(c.cell 4 (by omega)<|by omega).trans H,(c.cd 2).trans L,(c.cd 3).trans M,(c.cd 4).trans j,⟨xs,da f λd e=>c.block d (f.lt d e).2 (by have:=(f.lt d e).1;omega),λd K k=>?_⟩,da g λd e=>c.block d (g.lt d e).2 (by have:=(g.lt d e).1;omega),v⟩;obtain⟨l,m,C,n,h,o,q,r,t⟩:=z d K k;exact⟨l,m,C,n,bq h c.size,o,q,r.keep ⟨λB Q R=>c.block B (by omega)<|by omega,bq h c.size⟩,t⟩
def Rk.lt{b:ae}{a:Nat}{g:ag}{f:cj}{c d:af}(e:Rk b a g f c d):a<b.heap.size:=e.cu.lt
section
def Am(b:ag):∀(f a:Nat),a<=b.size->eg b f a<=b.size/\a<=eg b f a
 |0,a,h=>⟨h,ah⟩
 |f+1,a,h=>by
  unfold eg;split
  .rename_i c;have⟨d,_⟩:=ho (s:=b) (i:=a);have:=Am b f (a+1) (by omega);omega
  omega
def apu:(prog.info? 191).map (λa=>(a.zero,a.size,a.bytes))=some (some<|.agg #[.string ⟨#[]⟩,I 0,I 0,.bool false],4,40):=by kernel_rfl
def Rk.labelled{f h:ae}{b d i:Nat}{D:ag}{g:cj}{o j:af}{L:Obj}{x:ft}(B:Rk f b D g o j)
  (k:(f.alloc L).drew.grownBy h j.ownBlock) (C:h.ownsRow (b+1) 191 4 (aa d (g.bh.length+1) i) (g.bh.length+1) (Bs g.bh++[Value.string x.name,I x.H,I x.cmd,.bool x.want]))
  (r:j.ownBlock=some d\/d=f.heap.size+1):
  Rk (h.setCell (O b 4)<|aa d (g.bh.length+1) i) b D {g with bh:=g.bh++[x]} o (aa d (g.bh.length+1) i)/\
  Fq b o o j (aa d (g.bh.length+1) i) f (h.setCell (O b 4)<|aa d (g.bh.length+1) i):=by
 have M:=B.lt;have⟨⟨⟨P,Q,R,S,T⟩,U,V⟩,W,X,Z,a0,a1,a2,⟨xs,p,a3⟩,a4,E⟩:=B;have F:∀a,a<f.heap.size->some a≠j.ownBlock->h.heap[a]?=f.heap[a]? :=λa c s=>by
  rw[k.block a (by simp;omega) s];exact im _ _ _ c
 have H:=(C.lt d rfl).1;have q:=F b M (λe=>by have:=(a4.lt b e.symm).1;omega);have K:∀a,h.cell? (O b a)=f.cell? (O b a):=λa=>ac a q
 have a5:∀a,h.frozen? (O b a)=f.frozen? (O b a):=λa=>ad a q
 have l:∀a,a≠4->(h.setCell (O b 4)<|aa d (g.bh.length+1) i).cell? (O b a)=f.cell? (O b a):=λa c=>
  (jm (h:=Cr<|.inr<|Ne.symm c) ..).trans (K a)
 have m:∀a,(h.setCell (O b 4)<|aa d (g.bh.length+1) i).frozen? (O b a)=f.frozen? (O b a):=λa=>by
  rw[jf];exact a5 a
 have wg:∀a,a<f.heap.size->a≠b->some a≠j.ownBlock->(h.setCell (O b 4)<|aa d (g.bh.length+1) i).heap[a]?=f.heap[a]? :=λa c t s=>by
  rw[er _ _ _ _ t];exact F a c s
 have u:f.heap.size<=(h.setCell (O b 4)<|aa d (g.bh.length+1) i).heap.size:=by
  have:=k.size;rw[kg];simp at this;omega
 refine⟨⟨⟨⟨(l 0<|by omega).trans P,(l 1<|by omega).trans Q,(m 1).trans R,S,T⟩,(l 5<|by omega).trans U,(m 5).trans V⟩,(l 2<|by omega).trans W,(l 3<|by omega).trans X,qz _ _ _<|(K 4).trans Z,(m 2).trans a0,(m 3).trans a1,(m 4).trans a2,⟨xs,da p λa c=>wg a (p.lt a c).2 (by have:=(p.lt a c).1;omega)<|λe=>E a c e.symm,λa x q=>?_⟩,?_,?_⟩,?_⟩
 .have⟨a6,a7,a8,H,n,a9,w,aA,aB⟩:=a3 a x q;refine⟨a6,a7,a8,H,bq n u,a9,λy aC=>?_,aA.keep ⟨λz aD A=>wg z (by omega) (by omega) (λe=>by have:=w z e.symm;omega),bq n u⟩,aB⟩;have v:d=y:=by simpa[Value.ownBlock]using aC
  rcases r with e|e
  .exact w y (by rw[<-v];exact e)
  right;omega
 .simp only[ga,qx,aqc];exact da C λa c=>er _ _ _ _ (by
   have:d=a:=by simpa[Value.ownBlock]using c
   simp only;omega)
 .intro a c n
  have v:d=a:=by simpa[Value.ownBlock]using n
  rcases r with e|e
  .exact E a c (by rw[<-v];exact e)
  have:=(p.lt a c).2;omega
 refine⟨k.os,k.tape,k.output,u,λa c t _ A=>wg a c t A,.inl rfl,?_⟩;rcases r with e|e
 .exact .inl (by rw[e];rfl)
 right;intro a c
 have:d=a:=by simpa[Value.ownBlock]using c
 omega
attribute [local go_sem↓] Go.wp_at_zero Go.wp_at_succ
def Vh(b:cj)(A o:af)(q:Bool)(E:ae)(r:Rk E i S b A o)(b0:b.bh.length<=1000)(b1:b.U.length<=1000):
  Calls prog 196 #[.pointer<|some ⟨i,0,none⟩,.bool q] E λl aE=>∃a4,l=.returned (.string<|S.extract b.H<|eg S 8 b.H)/\Rk aE i S (b.qu S b.H q) A a4/\Fq i A A o a4 E aE:=by
 have a5:=J r;have b2:=r.lt;have a6:=r.cu.rc.le;have b3:=r.cu.rc.li;have R:=J r.cu.rc;have⟨aF,aG,aH,aI,aJ⟩:=yyf apu;have aK:∃L a7,A=.slice L b.U.length a7:=by
  have⟨xs,B,_⟩:=r.own;rcases B.2 with⟨l,a⟩|⟨e,c,_,l,_⟩
  .exact⟨none,0,by rw[l,a]⟩
  exact⟨_,_,l⟩
 obtain⟨L,a8,rfl⟩:=aK;have aL:=Am S 8 b.H a6;generalize a:eg S 8 b.H=m at aL;have a9:=J a;clear a;have a:b.qu S b.H q={b with H:=m,bh:=b.bh++[⟨S.extract b.H m,b.H,b.U.length,q⟩]}:=by rw[cj.qu,a9.out]
 have aM:=J a;clear a;have⟨aN,aO,aP,_,_⟩:=R.out;clear r;generalize b4:b.H=j at*
 go_in;go_wp21;go_loopw [] (λwr=>∃(a e:Nat),Mv i E wr a/\a<=S.size/\a+e=j+8/\Y (m=eg S e a)) (λwr=>S.size-xi wr i)
 .exact⟨j,8,R.ee,a6,rfl,a9.symm⟩
 have⟨a,e,c,aA,b5,T⟩:=hrel;have C:=J c;have s:=J<|c.rc R aA;have aQ:=J<|pu c.c1;have⟨D,t,F,_,_⟩:=s.out;clear c aN aO aP;have h:Y (e≠0->m=if 97<=pk S a/\pk S a<=122 then eg S (e-1) (a+1)else a):=λg=>by
  rw[T.out]
  conv=>lhs;rw[show e=(e-1)+1 by omega,eg]
 have k:Y (pk S a≠-1->a<S.size):=λg=>(ho g).1
 have aR:pk S a<=255:=by
  by_cases g:pk S a=-1
  .rw[g];decide
  rw[(ho g).2];have:=ms S a;omega
 generalize n:pk S a=c at aR;have U:=J n;have M:Y (e≠0->m=if 97<=c/\c<=122 then eg S (e-1) (a+1)else a):=by rw[<-n];exact h
 have V:Y (c≠-1->a<S.size):=by rw[<-n];exact k
 clear n h k;go_upto_region 2 with fail
 go_cut [33] (λaS aT=>aS=.bool (decide (e≠0)&&decide (97<=c)&&decide (c<=122))/\∃k,aT=wr.drewN k)
 case first=>
  by_cases h:e=0
  .subst h;have t:decide ((a:Int)<j+8)=false:=by simp;omega
   go_wp21;go_meet;exact⟨by simp,0,rfl⟩
  have t:decide ((a:Int)<j+8)=true:=by simp;omega
  by_cases H:97<=c
  .by_cases K:c<=122
   .go_wp2_with (first|(go_at_call 110;refine(iz i S a _<|by first|exact s.out|exact s.drewN _).mono ?_;rw[U.out];rintro l z ⟨rfl,d,rfl⟩));go_meet;exact⟨by simp[h,H,K],_,rfl⟩
   have f:122<c:=by omega
   go_wp2_with (first|(go_at_call 110;refine(iz i S a _<|by first|exact s.out|exact s.drewN _).mono ?_;rw[U.out];rintro l z ⟨rfl,d,rfl⟩));go_meet;exact⟨by simp[h,H,K],_,rfl⟩
  have f:c<97:=by omega
  go_wp2_with (first|(go_at_call 110;refine(iz i S a _<|by first|exact s.out|exact s.drewN _).mono ?_;rw[U.out];rintro l z ⟨rfl,d,rfl⟩));go_meet;exact⟨by simp[h];omega,_,rfl⟩
 obtain⟨rfl,k,rfl⟩:=hcut;by_cases P:e≠0/\97<=c/\c<=122
 .have⟨h,H,K⟩:=P;have d:(decide (e≠0)&&decide (97<=c)&&decide (c<=122))=true:=by simp[h,H,K]
  have aB:=V (by omega);have f:Y (m=eg S (e-1) (a+1)):=by rw[Y,M.out h,G ⟨H,K⟩]
  rw[d];clear d M V;go_wp21;go_roundw
  .exact⟨a+1,e-1,(C.drewN k).set<|a+1,by omega,by omega,f⟩
  have u:=pu ((C.drewN k).set (v:=(a:Int)+1)<|a+1).c1;have v:=aQ.out;rw[u,v];omega
 have d:(decide (e≠0)&&decide (97<=c)&&decide (c<=122))=false:=by
  rcases df (decide (e≠0)&&decide (97<=c)&&decide (c<=122))with g|g
  .simp at g;exact cb ⟨g.1.1,g.1.2,g.2⟩ P
  exact g
 have aU:Y (m=a):=by
  by_cases h:e=0
  .rw[Y,T.out,h];rfl
  rw[Y,M.out h,N<|λg=>P ⟨h,g.1,g.2⟩]
 rw[d];obtain rfl:a=m:=aU.symm;have d:=J<|a5.mw (.mv<|C.drewN k)<|a5.cu.mv (C.drewN k) aA;have p:Y (Fq i (.slice L b.U.length a8) (.slice L b.U.length a8) o o E<|wr.drewN k):=Fq.mw<|.mv<|C.drewN k;have b6:(0:Int)<=j:=by omega
 have b7:(j:Int)<=a:=by omega
 have b8:(a:Int)<=S.size:=by omega
 have⟨⟨⟨D,t,F,_,_⟩,W,X⟩,Z,a0,u,a1,a2,v,B,f,x⟩:=d.out;have y:=J f;generalize w:wr.drewN k=Q at d p y D t F W X Z a0 u a1 a2 v|-;go_wp21;go_quiet (fail);have w:=J<|d.mw ((Mw.refl i Q).drewN nq)<|d.cu.drewN nq;have aC:=J<|p.trans<|Fq.mw<|(Mw.refl i Q).drewN nq;have a3:Y ((Q.drewN nq).ownsRow (i+1) 191 4 o b.bh.length<|Bs b.bh):=y;generalize Q.drewN nq=d at w aC a3|-;have⟨⟨⟨D,t,F,_,_⟩,W,X⟩,Z,a0,u,a1,a2,v,B,f,x⟩:=w.out;have aV:=w.lt;have aW:Y (∀f,o.ownBlock=some f->i+1<=f/\f<d.heap.size):=λf aX=>a3.lt f aX
 go_wp21;go_region_law
  ((refine step_append_lies _ (by rfl) _ _ _ (by rfl) (i+1) 191 aF _ 4 40 underlying160 aG aH aI aJ rfl (by omega) o b.bh.length (Bs b.bh) (by rfl) ((a3.alloc _).drew)
     (O d.heap.size 0) 1 1 [.string<|S.extract j a,I j,I b.U.length,.bool q] (by rfl) (by rfl) (World.news_of_block (cs:=#[.string<|S.extract j a,I j,I b.U.length,.bool q]) (t:=191) (fr:=(0,0))<|yyb d _) (by simp[Value.oneCell'])
     (by omega) (by unfold maxLen;omega) (by omega) (by simp;omega) (d.heap.size+1) (by simp) ?_;intro b9 a7 z x p y aB;have n:=(p.block i (by simp;omega) (λl=>by have:=(aW _ l.symm).1;omega)).trans<|im d _ i aV;have aY:=ac 4 n;have aZ:=ad 4 n;rw[u]at aY;rw[v]at aZ;have aD:Y _:=w.labelled (x:=⟨S.extract j a,j,b.U.length,q⟩) p x y;clear n x p y aB))
 all_goals go_wp2
 all_goals go_ret
 all_goals exact⟨rfl,_,by rw[aM.out];exact aD.1,aC.trans aD.2⟩
end
section
structure Gd(l:List Nd):Prop where
 wf:Wf l
 h3:∀(n:Nat)(d:Nd),l[n]?=some d->d.R=3->d.ba≠[]
structure kt(s:ag)(l:List Nd)(z:Nat)(l':List Nd)(y:Nat):Prop where
 m:bi s l z=bi s l' y
 g:∀i j,i<=s.size->bi s l z i j->∀c c',(jg s l z i j c c'↔jg s l' y i j c c')
def kt.more{s:ag}{l l2 l' l2':List Nd}{z y:Nat}(a:Gd l)(e:z<l.length)(b:Gd l')(c:y<l'.length)(g:kt s l z l' y):kt s (l++l2) z (l'++l2') y:=by
 have⟨d,f⟩:=g;refine⟨?_,?_⟩
 .rw[My s a.wf e,My s b.wf c];exact d
 rw[My s a.wf e,aad s a.wf a.h3 e,aad s b.wf b.h3 c];exact f
section
variable {s:ag} {l l':List Nd} {z y:Nat}
def kt.gb(c:Gd l)(b:Gd l'){S:Nat->Bool}(i:a<=2)(d:l[z]?=some (gb a S))(e:l'[y]?=some (gb a S)):kt s l z l' y:=by
 constructor
 .funext f g;apply propext;rw[oy c.wf d,oy b.wf e];have:a=0\/a=1\/a=2:=by omega
  rcases this with rfl|rfl|rfl<;>exact Iff.rfl
 intro f g _ _ h j
 rw[yk c.wf c.h3 d,yk b.wf b.h3 e];have:a=0\/a=1\/a=2:=by omega
 rcases this with rfl|rfl|rfl<;>exact Iff.rfl
def kt.jw(f:Gd l)(e:Gd l'){a b num:Nat}(h:l[z]?=some (qc a num))(i:l'[y]?=some (qc b num))(j:kt s l a l' b):kt s l z l' y:=by
 have k:∀c d,bi s l z c d↔bi s l a c d:=λc d=>by
  rw[oy f.wf h];show(∃g∈[a],bi s l g c d)↔_
  simp
 have m:∀c d,bi s l' y c d↔bi s l' b c d:=λc d=>by
  rw[oy e.wf i];show(∃g∈[b],bi s l' g c d)↔_
  simp
 constructor
 .funext c d;apply propext;rw[k,m,j.m]
 intro c d n o p q
 rw[yk f.wf f.h3 h,yk e.wf e.h3 i];exact j.g c d n ((k c d).1 o) _ _
def pq(s:ag)(l l':List Nd):List Nat->List Nat->Prop
 | [],[]=>True
 |z::zs,y::ys=>kt s l z l' y/\pq s l l' zs ys
 |_,_=>False
def pq.map:∀{b a:List Nat},pq s l l' b a->b.map (bi s l)=a.map (bi s l')
 | [],[],_=>rfl
 |z::b,y::a,h=>by rw[vw,vw,h.1.m,pq.map h.2]
 | [],_::_,h=>h.elim
 |_::_,[],h=>h.elim
def pq.any:∀{c b:List Nat} {i j:Nat},pq s l l' c b->((∃a∈c,bi s l a i j)↔∃a∈b,bi s l' a i j)
 | [],[],_,_,_=>by simp
 |z::c,y::b,i,j,h=>by
  have:=pq.any (i:=i) (j:=j) h.2;simp only[vc,exists_eq_or_imp];rw[h.1.m,this]
 | [],_::_,_,_,h=>h.elim
 |_::_,[],_,_,h=>h.elim
def pq.alt:∀{e d:List Nat} {i j:Nat} {c c':co},i<=s.size->pq s l l' e d->(altG (bi s l) (jg s l) e i j c c'↔altG (bi s l') (jg s l') d i j c c')
 | [],[],_,_,_,_,_,_=>Iff.rfl
 |z::e,y::d,i,j,c,c',b,h=>by
  have f:=pq.alt (i:=i) (j:=j) (c:=c) (c':=c') b h.2;simp only[altG];rw[f,<-h.1.m];by_cases a:bi s l z i j
  .have:=h.1.g i j b a c c';simp[a,this]
  simp[a]
 | [],_::_,_,_,_,_,_,h=>h.elim
 |_::_,[],_,_,_,_,_,h=>h.elim
def pr.wz{c:Nat->Prop}{f g b a:Nat}(h:pr c f g b)(e:c a)(n:f<=a)(j:a<=g):c b:=by
 have⟨k,m,i,d⟩:=h;rcases d with rfl|d
 .rcases hb b a with h|h
  .exact cb e<|i a h j
  have:a=b:=by omega
  rw[<-this];exact e
 exact d
def pq.row(d:Gd l):∀{zs ys:List Nat} {a c:Nat} {e f:co},a<=s.size->pq s l l' zs ys->ku (zs.map<|bi s l) a c->(ik (bi s l) (jg s l) zs a c e f↔ik (bi s l') (jg s l') ys a c e f)
 | [],[],_,_,_,_,_,_,_=>Iff.rfl
 |z::zs,y::ys,a,c,e,f,b,h,hc=>by
  have⟨g,i,j⟩:=hc;have k:=vz s d.wf (z+1) z (by omega) a g b i;have q:∀n∈zs.map (bi s l),nj s.size n:=λn t=>by
   obtain⟨m,_,rfl⟩:=yzg.1 t;exact vz s d.wf (m+1) m<|by omega
  have u:=nj.chain q g c k.2 j;simp only[ik];rw[<-h.1.m,<-h.2.map];refine yzo λo=>yzo λv=>yyr λw=> ?_
  have⟨m,p⟩:=w.wz ⟨i,j⟩ k.1 u.1;have r:=(vz s d.wf (z+1) z (by omega) a o b m).2;exact and_congr (h.1.g a o b m e v)<|pq.row d r h.2 p
 | [],_::_,_,_,_,_,_,h,_=>h.elim
 |_::_,[],_,_,_,_,_,h,_=>h.elim
def kt.ways(b:Gd l)(a:Gd l'){zs ys:List Nat}(c:l[z]?=some (ct 4 zs))(d:l'[y]?=some (ct 4 ys))(e:pq s l l' zs ys):kt s l z l' y:=by
 constructor
 .funext g h;apply propext;rw[oy b.wf c,oy a.wf d];exact e.any
 intro g h f _ i j
 rw[yk b.wf b.h3 c,yk a.wf a.h3 d];exact e.alt f
def kt.row(c:Gd l)(d:Gd l'){zs ys:List Nat}(e:l[z]?=some (ct 5 zs))(f:l'[y]?=some (ct 5 ys))(h:pq s l l' zs ys):kt s l z l' y:=by
 have g:∀a b,bi s l z a b↔ku (zs.map<|bi s l) a b:=λa b=>oy c.wf e a b
 constructor
 .funext a b;apply propext;rw[g,oy d.wf f,h.map];exact Iff.rfl
 intro a b i j k m
 rw[yk c.wf c.h3 e,yk d.wf d.h3 f];exact h.row c i<|(g a b).1 j
def kt.awz(d:Gd l')(h:l'[y]?=some (ct 4 [a]))(f:kt s l z l' a):kt s l z l' y:=by
 have j:∀b c,bi s l' y b c↔bi s l' a b c:=λb c=>by
  rw[oy d.wf h];show(∃e∈[a],bi s l' e b c)↔_
  simp
 constructor
 .rw[f.m];funext b c;exact(propext<|j b c).symm
 intro b c k e g i
 rw[yk d.wf d.h3 h,f.g b c k e];rw[f.m]at e;show _↔((bi s l' a b c/\jg s l' a b c g i)\/(¬bi s l' a b c/\i=g))
 simp[e]
def kt.ato(f:Gd l')(j:l'[y]?=some (ct 5 [a]))(h:kt s l z l' a):kt s l z l' y:=by
 have p:∀b c,bi s l' y b c↔bi s l' a b c:=λb c=>by
  rw[oy f.wf j];show(∃d,bi s l' a b d/\d=c)↔_
  simp
 constructor
 .rw[h.m];funext b c;exact(propext<|p b c).symm
 intro b c k e o m
 rw[yk f.wf f.h3 j,h.g b c k e];rw[h.m]at e;have n:=vz s f.wf (a+1) a (by omega) b c k e;show _↔(∃d g,pr (λd=>bi s l' a b d/\d=c) b c d/\jg s l' a b d o g/\m=g)
 constructor
 .intro i
  exact⟨c,m,⟨n.1,ah,λt q r=>by omega,.inr ⟨e,rfl⟩⟩,i,rfl⟩
 rintro⟨d,g,q,i,rfl⟩;obtain⟨_,rfl⟩:=q.wz ⟨e,rfl⟩ n.1 ah;exact i
def kt.Bw(t:Gd l){c q n:Nat}{h:Int}(v:h=-1\/(n:Int)<=h)(m:kt s l c l' q):∀(f:Nat) {done a i:Nat} {e k:co},a<=s.size->Zt (bi s l c) n h done a i->
  (repP (bi s l) (jg s l) c n h f done a i e k↔repP (bi s l') (jg s l') q n h f done a i e k)
 |0,_,_,_,_,_,_,_=>Iff.rfl
 |f+1,done,a,i,e,k,d,u=>by
  have g:=vz s t.wf (c+1) c (by omega);simp only[repP];rw[<-m.m];refine or_congr (yyr λr=>or_congr (yyr λhd=> ?_) Iff.rfl)<|yyr λr=>yzo λb=>yzo λD=>yyr λA=> ?_
  .have⟨b,j,o⟩:=(Js hd).1 u;have p:=g a b d j;have w:=Nj g p.2 o;obtain rfl:b=i:=by omega
   exact m.g a b d j e k
  have⟨_,B,j,_,o⟩:=aao v u r;have p:=g a B d j;have w:=Nj g p.2 o;have⟨x,C⟩:=A.wz ⟨j,o⟩ p.1 w.1;exact and_congr (m.g a b d x e D)<|kt.Bw t v m f (g a b d x).2 C
def kt.Hc(e:Gd l)(f:Gd l'){a b lo:Nat}{hi:Int}(m:hi=-1\/(lo:Int)<=hi)(g:l[z]?=some (gr a lo hi))(i:l'[y]?=some (gr b lo hi))(h:kt s l a l' b):kt s l z l' y:=by
 have j:∀c d,bi s l z c d↔Bg (bi s l a) lo hi c d:=λc d=>oy e.wf g c d
 constructor
 .funext c d;apply propext;rw[j,oy f.wf i,h.m];exact Iff.rfl
 intro c d k n o p
 rw[yk e.wf e.h3 g,yk f.wf f.h3 i];exact kt.Bw e m h (lo+s.size+1) k<|(Se (by omega) c d).2<|(j c d).1 n
end
end
def iu.all(d:iu s)(e:a<=s.size):∃b,run s a=some b:=by
 have⟨b,c,_⟩:=d;exact ah0 e c
def iu.next(f:iu s){c:St}(e:run s a=some c)(g:a<s.size):∃b,step c (au s a)=some b/\run s (a+1)=some b:=by
 have⟨b,d⟩:=f.all (show a+1<=s.size by omega);exact⟨b,by rw[<-lf e];exact d,d⟩
def iu.qd(i:iu s){b:St}(f:run s a=some b)(j:a<=s.size:=by omega)(g:b.m≠1:=by omega)(e:b.m≠2:=by omega):a<s.size:=by
 rcases hb a s.size with c|c
 .exact c
 obtain rfl:a=s.size:=by omega
 have⟨k,d,h⟩:=i;rw[f]at d;cases d
 simp[whole,g,e]at h
def Ml{b:St}(c:4<=b.m)(d:b.m<=10):step b a=oi b a:=by
 unfold step;rw[N,N,N,N]
def Pf(l:iu s)(A:run s a=some ⟨b,c,d,e⟩)(r:a<s.size)(w:4<=b)(F:b<=8)(t:au s a≠93)(u:au s a≠45)(v:b=4->au s a≠94):
  (hy s a).2<=s.size/\run s (hy s a).2=some ⟨if b=8 then 7 else 6,c,d,(hy s a).1⟩:=by
 have⟨C,f,k⟩:=l.next A r
 rw[Ml (by exact w)<|by show b<=10;omega]at f;unfold oi at f;simp only at f;rw[N,N<|by intro j;exact v j.1 j.2,N t,N u]at f;have n:∀(m h:Nat),(if b=8\/b=10 then(10:Nat)else 9)=h->(if b=8\/b=10 then(7:Nat)else 6)=m->(h=9\/h=10)->(h=10↔b=8)->(m=if b=8 then 7 else 6)->
   (hy s a).2<=s.size/\run s (hy s a).2=some ⟨if b=8 then 7 else 6,c,d,(hy s a).1⟩:=by
  intro m h x y z D B
  rw[x,y]at f;by_cases j:au s a=92
  .rw[G j]at f;by_cases o:(if b=8\/b=10 then e else 0)<=125
   .rw[G o]at f;cases f
    have p:=l.qd k (by omega) (by simp only;omega) (by simp only;omega);have⟨E,g,q⟩:=l.next k p
    rw[Ml (by simp only;omega)<|by simp only;omega]at g;unfold oi at g;simp only at g;rw[G z]at g;unfold hy;rw[G j];refine⟨by show a+2<=s.size;omega,?_⟩;show run s (a+1+1)=_
    rw[q];by_cases i:bn sx (au s<|a+1)=true/\(if h=8\/h=10 then e else 0)<=val (au s<|a+1)
    .rw[G i]at g;rw[<-g];have:(h=8\/h=10)↔b=8:=by omega
     simp[this]
    rw[N i]at g;cases g
   rw[N o]at f;cases f
  rw[N j]at f;by_cases i:au s a=10\/au s a<(if b=8\/b=10 then e else 0)
  .rw[G i]at f;cases f
  rw[N i]at f;cases f
  unfold hy;rw[N j];refine⟨by show a+1<=s.size;omega,?_⟩;show run s (a+1)=_
  rw[k,B]
 by_cases g:b=8
 .exact n 7 10 (by rw[G<|.inl g]) (by rw[G<|.inl g]) (by omega) (by omega)<|by rw[G g]
 have i:¬(b=8\/b=10):=by omega
 exact n 6 9 (by rw[N i]) (by rw[N i]) (by omega) (by omega)<|by rw[N g]
def Cc(l:iu s)(j:run s a=some ⟨b,c,d,e⟩)(m:a<s.size:=by omega)(k:4<=b:=by omega)(n:b<=8:=by omega):
  (au s a=93->(b=6\/b=7)/\run s (a+1)=some ⟨1,c,d,e⟩)/\(au s a=45->b=6/\run s (a+1)=some ⟨8,c,d,e⟩):=by
 have⟨o,f,i⟩:=l.next j m
 rw[Ml (by exact k)<|by show b<=10;omega]at f;unfold oi at f;simp only at f;rw[N]at f;constructor
 .intro h
  rw[N,G h]at f;by_cases g:b=6\/b=7
  .rw[G g]at f;cases f
   exact⟨g,i⟩
  rw[N g]at f;cases f
 intro h
 rw[N,N,G h]at f;by_cases g:b=6
 .rw[G g]at f;cases f
  exact⟨g,i⟩
 rw[N g]at f;cases f
def Ix(e:a<s.size)(d:¬pk s a=(b:Int)):au s a≠b:=by
 intro c
 apply d;rw[fh e,c]
def aay(g:iu s)(u:run s a=some ⟨b,c,d,e⟩)(r:a<s.size)(v:4<=b)(A:b<=7)(o:au s a≠93)(p:au s a≠45)(q:b=4->au s a≠94):
  (kf s a).2.2<s.size/\∃i w,run s (kf s a).2.2=some ⟨i,c,d,w⟩/\(i=7\/(i=6/\pk s (kf s a).2.2≠45)):=by
 have⟨t,h⟩:=Pf g u r v (by omega) o p q;rw[N]at h;have j:=g.qd h t (by simp) (by simp);unfold kf;by_cases f:pk s (hy s a).2=45
 .rw[G f];have x:au s (hy s a).2=45:=by rw[fh j]at f;omega
  have⟨_,k⟩:=(Cc g h j).2 x;have m:=g.qd k (by omega) (by simp) (by simp);have n:=Cc g k m;have⟨y,l⟩:=Pf g k m (by omega) (by omega) (λf=>by have:=(n.1 f).1;omega) (λf=>by have:=(n.2 f).1;omega) (λf=>by omega);rw[G rfl]at l;have z:=g.qd l y (by simp) (by simp);exact⟨z,7,_,l,.inl rfl⟩
 rw[N f];exact⟨j,6,_,h,.inr ⟨rfl,f⟩⟩
def Xz{a:ag}(m:iu a){t q:Nat}:∀(f:Nat)(e:Nat->Bool) {b d o:Nat},run a b=some ⟨d,t,q,o⟩->b<a.size->4<=d->d<=7->au a b≠93->au a b≠45->(d=4->au a b≠94)->a.size<b+f->
  (setL a f b e).1<=a.size/\∃l,run a (setL a f b e).1=some ⟨1,t,q,l⟩
 |0,e,b,d,o,_,r,_,_,_,_,_,hf=>by omega
 |f+1,e,b,d,o,hr,r,hm,j,k,n,p,hf=>by
  have v:=Jy a b;have⟨c,w,l,s,g⟩:=aay m hr r hm j k n p;have u:=Cc m s c;rw[setL];by_cases h:pk a (kf a b).2.2=93
  .rw[G h];have i:au a (kf a b).2.2=93:=by rw[fh c]at h;omega
   exact⟨c,l,(u.1 i).2⟩
  rw[N h];refine Xz m f _ s c (by omega) (by omega) (Ix c h) (λi=> ?_) (λx=>by omega) (by omega);rcases g with g|⟨_,g⟩
  .have:=(u.2 i).1;omega
  exact Ix c g i
def auq(f:iu s)(j:run s (a+1)=some ⟨4,b,c,d⟩)(w:a<s.size):vh s a=sh s a/\(sh s a).1<=s.size/\∃v,run s (sh s a).1=some ⟨1,b,c,v⟩:=by
 have h:=f.qd j (by omega) (by simp) (by simp);have n:=Cc f j h;have q:au s (a+1)≠93:=λe=>by have:=(n.1 e).1;omega
 have r:au s (a+1)≠45:=λe=>by have:=(n.2 e).1;omega
 have o:pk s (a+1)≠93:=by rw[fh h];omega
 by_cases e:pk s (a+1)=94
 .have t:au s (a+1)=94:=by rw[fh h]at e;omega
  have k:run s (a+2)=some ⟨5,b,c,d⟩:=by
   show run s (a+1+1)=_
   rw[lf j,Ml (by simp)<|by simp,t];rfl
  have l:=f.qd k (by omega) (by simp) (by simp);have p:=Cc f k l;have u:au s (a+2)≠93:=λe=>by have:=(p.1 e).1;omega
  have⟨i,m⟩:=Xz f s.size dp k l (by omega) (by omega) u (λe=>by have:=(p.2 e).1;omega) (λe=>by omega) (by omega);have g:(sh s a).1=(setL s s.size (a+2) dp).1:=by unfold sh;rw[G e]
  rw[g];refine⟨abv (λ_=>by rw[fh l];omega) o<|by rw[g];exact i,i,m⟩
 have⟨i,m⟩:=Xz f s.size dp j h (by omega) (by omega) q r (λ_=>Ix h e) (by omega);have g:sh s a=setL s s.size (a+1) dp:=by unfold sh;rw[N e]
 rw[g];refine⟨?_,i,m⟩;rw[<-g];exact abv (λf=>cb f e) o (by rw[g];exact i)
def Gd.add{d:List Nd}{e:Nd}(i:Gd d)(l:∀m∈e.ba,m<d.length)(h:e.R=3\/e.R=6->e.ba≠[]):Gd (d++[e]):=by
 have j:∀(b:Nat)(c:Nd),(d++[e])[b]?=some c->d[b]?=some c\/(b=d.length/\c=e):=λb c a=>by
  rcases hb b d.length with f|f
  .rw[oq f]at a;exact .inl a
  rw[sn f]at a;cases g:b-d.length with
  |zero=>rw[g]at a;cases a;exact .inr ⟨by omega,rfl⟩
  |succ k=>rw[g]at a;cases a
 constructor
 .intro b c a
  rcases j b c a with a|⟨rfl,rfl⟩
  .exact i.wf b c a
  exact⟨l,λk=>h<|.inr k⟩
 intro b c a g
 rcases j b c a with a|⟨rfl,rfl⟩
 .exact i.h3 b c a g
 exact h<|.inl g
structure tn(s:ag)(o i:Nat)(p p':bs)(r r':bs×Nat):Prop where
 H:r.1.H=r'.1.H
 g:r.1.g=r'.1.g
 lo:i<r.1.H
 le:r.1.H<=s.size
 ext:∃e,r.1.l=p.l++e
 ext':∃e,r'.1.l=p'.l++e
 gd:Gd r.1.l
 Gi:Gd r'.1.l
 lt:r.2<r.1.l.length
 Db:r'.2<r'.1.l.length
 al:∀t,kt t r.1.l r.2 r'.1.l r'.2
 rn:∃st,run s r.1.H=some st/\st.o=o/\(st.m=1\/st.m=2)
def Xg{e f:bs}(n:e.g=f.g)(o:Gd e.l)(l:Gd f.l)(m:b<c)(p:c<=s.size)(q:d<=2)(r:∃g,run s c=some g/\g.o=a/\(g.m=1\/g.m=2)):
  tn s a b e f (cp e c<|gb d A) (cp f c<|gb d A):=by
 have j:Gd (e.l++[gb d A]):=o.add (λt h=>by cases h) (λi=>by have u:d=3\/d=6:=i;omega);have k:Gd (f.l++[gb d A]):=l.add (λt h=>by cases h) (λi=>by have u:d=3\/d=6:=i;omega);exact⟨rfl,n,m,p,⟨_,rfl⟩,⟨_,rfl⟩,j,k,by simp[cp],by simp[cp],λv=>kt.gb (S:=A) j k q (by simp[cp])<|by simp[cp],r⟩
def Xy(b:ag):∀(f a:Nat)(c:Nat->Bool),a<=(setL b f a c).1
 |0,a,c=>ah
 |f+1,a,c=>by
  have d:=Jy b a;rw[setL];split
  .simp only;omega
  have:=Xy b f (kf b a).2.2<|kx c (kf b a).1 (kf b a).2.1;omega
def aup:j<(sh S j).1:=by
 unfold sh;split
 .have:=Xy S S.size (j+2) dp;simp only;omega
 have:=Xy S S.size (j+1) dp;omega
def Jl(s:ag)(ch ch':bs->bs×Nat)(N:Nat):Prop:=∀(p p':bs)(st:St),p.H=p'.H->p.g=p'.g->Gd p.l->Gd p'.l->run s p.H=some st->st.m=0->p.H<=s.size->s.size-p.H<N->
 tn s st.o p.H p p' (ch p) (ch' p')/\((ch p).1.H=s.size\/au s (ch p).1.H=41)
def Wg(z:iu s){o g:bs->bs×Nat}(aD:Jl s o g a){i v:bs}{e:St}(a2:i.H=v.H)(a3:i.g=v.g)(x:Gd i.l)(A:Gd v.l)
  (a4:run s i.H=some e) (aE:e.m<=2) (u:i.H<s.size) (aF:s.size-i.H<=a) (M:bn mb (au s i.H)=false):
  tn s e.o i.H i v (qv o s i) (ep g s v)/\∃C,run s (qv o s i).1.H=some C/\C.m=1:=by
 have⟨b,c,m⟩:=i;have⟨aR,aS,d⟩:=v;simp only at a2 a3 x A a4 u aF M|-;subst a2;subst a3;have⟨aT,j,B⟩:=z.next a4 u
 rw[Mm aE M]at j;obtain⟨h,f⟩:∃h,h=au s b:=⟨_,rfl⟩;rw[<-f]at j M;have Q:h≠40->h≠91->h≠92->∀(D:Nat)(R:Nat->Bool),D<=2->tn s e.o b ⟨b,c,m⟩ ⟨b,c,d⟩ (cp ⟨b,c,m⟩ (b+1)<|gb D R) (cp ⟨b,c,d⟩ (b+1)<|gb D R)/\∃C,run s (cp ⟨b,c,m⟩ (b+1)<|gb D R).1.H=some C/\C.m=1:=by
  intro n p k D R l
  rw[Jx M n p k]at j;cases j
  exact⟨Xg rfl x A (yxo _) u l ⟨_,B,rfl,.inl rfl⟩,_,B,rfl⟩
 by_cases S:h=94
 .rw[afh<|by rw[<-S,f]];have:ep g s ⟨b,c,d⟩=cp ⟨b,c,d⟩ (b+1) (gb 1 dp):=by unfold ep;simp only[<-f,S];rfl
  rw[this];exact Q (by omega) (by omega) (by omega) 1 dp<|by omega
 by_cases F:h=36
 .rw[afc<|by rw[<-F,f]];have:ep g s ⟨b,c,d⟩=cp ⟨b,c,d⟩ (b+1) (gb 2 dp):=by unfold ep;simp only[<-f,F];rfl
  rw[this];exact Q (by omega) (by omega) (by omega) 2 dp<|by omega
 by_cases H:h=46
 .rw[afe<|by rw[<-H,f]];have:ep g s ⟨b,c,d⟩=cp ⟨b,c,d⟩ (b+1) (gb 0 λ_=>true):=by unfold ep;simp only[<-f,H];rfl
  rw[this];exact Q (by omega) (by omega) (by omega) 0 _<|by omega
 by_cases p:h=92
 .rw[afg<|by rw[<-p,f]];have:ep g s ⟨b,c,d⟩=cp ⟨b,c,d⟩ (b+2) (gb 0<|kx dp (val<|au s<|b+1)<|val<|au s<|b+1):=by unfold ep;simp only[<-f,p];rfl
  rw[this];have K:run s (b+1)=some ⟨3,e.o,e.a,e.l⟩:=by
   rw[B,<-j,p];rfl
  have k:=z.qd K u (by simp) (by simp);have⟨L,n,E⟩:=z.next K k
  rw[Yp]at n;split at n
  .cases n
   exact⟨Xg rfl x A (by show b<b+2;omega) k (by omega) ⟨_,E,rfl,.inl rfl⟩,_,E,rfl⟩
  cases n
 by_cases k:h=91
 .have K:run s (b+1)=some ⟨4,e.o,e.a,e.l⟩:=by
   rw[B,<-j,k];rfl
  have⟨q,r,w,l⟩:=auq z K u;rw[aff<|by rw[<-k,f]];have:ep g s ⟨b,c,d⟩=cp ⟨b,c,d⟩ (sh s b).1 (gb 0 (sh s b).2):=by unfold ep;simp only[<-f,k,q];rfl
  rw[this];have t:=aup s b;exact⟨Xg rfl x A t r (by omega) ⟨_,l,rfl,.inl rfl⟩,_,l,rfl⟩
 by_cases l:h=40
 .rw[l]at j;have aG:kh e 40=if e.o=5\/e.a=9 then none else some ⟨0,e.o+1,e.a+1,e.l⟩:=rfl
  rw[aG]at j;split at j
  .cases j
  cases j
  have⟨T,U⟩:=aD ⟨b+1,c+1,m⟩ ⟨b+1,c+1,d⟩ _ rfl rfl x A B rfl u (by show s.size-(b+1)<a;omega);have aH:qv o s ⟨b,c,m⟩=cp (o ⟨b+1,c+1,m⟩).1 ((o ⟨b+1,c+1,m⟩).1.H+1) (qc (o ⟨b+1,c+1,m⟩).2 c):=afd (p:=⟨b,c,m⟩) (by rw[<-l,f]);have aI:ep g s ⟨b,c,d⟩=cp (g ⟨b+1,c+1,d⟩).1 ((g ⟨b+1,c+1,d⟩).1.H+1) (qc (g ⟨b+1,c+1,d⟩).2 c):=by unfold ep;simp only[<-f,l];rfl
  rw[aH,aI];generalize o ⟨b+1,c+1,m⟩=aJ at T U;generalize g ⟨b+1,c+1,d⟩=aK at T;have⟨⟨q,aU,a5⟩,t⟩:=aJ;have⟨⟨aV,aW,a6⟩,w⟩:=aK;have⟨a7,a8,aL,aM,⟨r,a9⟩,⟨aN,aA⟩,V,W,X,Z,aB,L,a0,aO,aP⟩:=T;simp only at a7 a8 aL aM a9 aA V W X Z aB a0 aO U;subst a7;subst a8;have aQ:q<s.size:=by
   rcases hb q s.size with P|P
   .exact P
   obtain rfl:q=s.size:=by omega
   have⟨aC,y,a1⟩:=z;rw[a0]at y;cases y
   simp[whole]at a1;omega
  have a1:=U.resolve_left (by omega);have y:run s (q+1)=some ⟨1,L.o-1,L.a,L.l⟩:=by
   rw[lf a0,a1];exact aiu aP
  have n:Gd (a5++[qc t c]):=V.add (λr P=>by obtain rfl:r=t:=(by simpa[qc]using P);exact X) (λ_=>by simp[qc]);have E:Gd (a6++[qc w c]):=W.add (λr P=>by obtain rfl:r=w:=(by simpa[qc]using P);exact Z) (λ_=>by simp[qc]);refine⟨⟨rfl,rfl,by show b<q+1;omega,aQ,⟨r++[qc t c],by show a5++_=_;rw[a9,nt]⟩,⟨aN++[qc w c],by show a6++_=_;rw[aA,nt]⟩,n,E,by simp[cp],by simp[cp],λaC=> ?_,⟨_,y,by simp only;omega,.inl rfl⟩⟩,_,y,rfl⟩;exact kt.jw (a:=t) (b:=w) (num:=c) n E (by simp[cp]) (by simp[cp])<|(aB aC).more V X W Z
 rw[afi f.symm S F H l k p];have:ep g s ⟨b,c,d⟩=cp ⟨b,c,d⟩ (b+1) (gb 0<|kx dp h h):=by unfold ep;simp only[<-f,N S,N F,N H,N l,N k,N p]
 rw[this];exact Q l k p 0 _<|by omega
def Xh{q r:bs}{f i:bs×Nat}(P:tn s a b q r f i)(M:b<c)(E:c<=s.size)(F:p=-1\/(d:Int)<=p)(B:∃j,run s c=some j/\j.o=a/\(j.m=1\/j.m=2)):
  tn s a b q r (cp f.1 c<|gr f.2 d p) (cp i.1 c<|gr i.2 d p):=by
 have⟨⟨Q,R,t⟩,g⟩:=f;have⟨⟨S,T,u⟩,h⟩:=i;have⟨C,v,D,H,⟨e,w⟩,⟨K,x⟩,k,l,m,n,y,_⟩:=P;simp only at C v D H w x k l m n y;have z:Gd (t++[gr g d p]):=k.add (λe o=>by obtain rfl:e=g:=(by simpa[gr]using o);exact m) (λ_=>by simp[gr]);have A:Gd (u++[gr h d p]):=l.add (λe o=>by obtain rfl:e=h:=(by simpa[gr]using o);exact n) (λ_=>by simp[gr]);refine⟨rfl,v,M,E,⟨e++[gr g d p],by show t++_=_;rw[w,nt]⟩,⟨K++[gr h d p],by show u++_=_;rw[x,nt]⟩,z,A,by simp[cp],by simp[cp],λL=> ?_,B⟩;exact kt.Hc (a:=g) (b:=h) (lo:=d) (hi:=p) z A F (by simp[cp]) (by simp[cp])<|(y L).more k m l n
def Jp(s:ag)(j:Nat):Prop:=∃st,run s j=some st/\((st.m=1/\pk s j≠42/\pk s j≠43/\pk s j≠63/\pk s j≠123)\/st.m=2)
def afx(i:iu s){w C:bs->bs×Nat}(U:Jl s w C a){c m:bs}{h:St}(V:c.H=m.H)(W:c.g=m.g)(X:Gd c.l)(Z:Gd m.l)
  (a0:run s c.H=some h) (a1:h.m<=2) (j:c.H<s.size) (a2:s.size-c.H<=a) (a3:bn mb (au s c.H)=false):
  tn s h.o c.H c m (xc w s c) (ki C s m)/\Jp s (xc w s c).1.H:=by
 have⟨e,H,n,K⟩:=Wg i U V W X Z a0 a1 j a2 a3;have L:H.o=h.o:=by
  have⟨d,l,b,_⟩:=e.rn;rw[n]at l;cases l
  exact b
 have D:=e.H;have M:=e.lo;have P:=e.le;unfold xc ki;generalize qv w s c=r at e n D M P;generalize ep C s m=Q at e D;simp only;rw[<-D];obtain⟨b,E⟩:∃b,b=r.1.H:=⟨_,rfl⟩;rw[<-E]at n M P|-;have⟨aB,aC,l,a4⟩:=H;simp only at K L;subst K;subst L;have F:∀(t:Nat)(j:Int),(j=-1\/(t:Int)<=j)->(pk s b=42\/pk s b=43\/pk s b=63)->tn s h.o c.H c m (cp r.1 (b+1)<|gr r.2 t j) (cp Q.1 (b+1)<|gr Q.2 t j)/\Jp s (cp r.1 (b+1)<|gr r.2 t j).1.H:=by
  intro t j g d
  have x:b<s.size:=by
   rcases hb b s.size with o|o
   .exact o
   rw[qj]at d;omega
  have k:au s b=42\/au s b=43\/au s b=63:=by rw[fh x]at d;omega
  have u:run s (b+1)=some ⟨2,h.o,l,a4⟩:=by rw[lf n];exact Qq k
  exact⟨Xh e (by omega) x g ⟨_,u,rfl,.inr rfl⟩,_,u,.inr rfl⟩
 by_cases k:pk s b=42
 .rw[G k,G k];exact F 0 (-1) (.inl rfl)<|.inl k
 rw[N k,N k];by_cases p:pk s b=43
 .rw[G p,G p];exact F 1 (-1) (.inl rfl)<|.inr<|.inl p
 rw[N p,N p];by_cases q:pk s b=63
 .rw[G q,G q];exact F 0 1 (.inr<|by omega)<|.inr<|.inr q
 rw[N q,N q];by_cases d:pk s b=123
 .rw[G d,G d];have x:b<s.size:=by
   rcases hb b s.size with o|o
   .exact o
   rw[qj]at d;omega
  have u:run s (b+1)=some ⟨11,h.o,l,0⟩:=by
   rw[lf n,show au s b=123 by rw[fh x]at d;omega];exact Qp
  have a5:=i.qd u (by omega) (by simp) (by simp);have⟨aD,y,R⟩:=i.next u a5
  rw[Bl<|.inl rfl]at y;split at y
  .rename_i hd;cases y
   have A:=i.qd R (by omega) (by simp) (by simp);have⟨aE,g,B⟩:=i.next R A
   rw[G rfl,Cw<|.inl rfl]at g;by_cases v:pk s (b+2)=44
   .rw[G v,G v];have a6:au s (b+1+1)=44:=by
     have:=fh A;rw[show b+1+1=b+2 from rfl]at this|-;omega
    rw[N,G ⟨a6,rfl⟩]at g;cases g
    have a7:=i.qd B (by omega) (by simp) (by simp);have⟨aF,z,S⟩:=i.next B a7
    rw[Bl<|.inr rfl]at z;split at z
    .rename_i a8;cases z
     have a9:=i.qd S (by omega) (by simp) (by simp);have⟨aG,f,aA⟩:=i.next S a9
     rw[N,Cw<|.inr rfl]at f;split at f
     .cases f
      have T:run s (b+5)=some ⟨2,h.o,l,au s (b+3)-48⟩:=aA;refine⟨Xh e (by omega) (by omega) (.inr ?_) ⟨_,T,rfl,.inr rfl⟩,_,T,.inr rfl⟩;have:au s (b+1)-48<=au s (b+3)-48:=a8.2.2;omega
     split at f
     .omega
     cases f
    cases z
   rw[N v,N v];split at g
   .cases g
    have f:run s (b+3)=some ⟨2,h.o,l,au s (b+1)-48⟩:=B;exact⟨Xh e (by omega) (by omega) (.inr<|by omega) ⟨_,f,rfl,.inr rfl⟩,_,f,.inr rfl⟩
   split at g
   .rename_i f;exact cb f.1<|Ix A v
   cases g
  cases y
 rw[N d,N d];exact⟨e,_,by rw[<-E];exact n,.inl ⟨rfl,by rw[<-E];exact⟨k,p,q,d⟩⟩⟩
structure Fs(l l':List Nd)(zs ys:List Nat):Prop where
 lt:∀z∈zs,z<l.length
 Db:∀y∈ys,y<l'.length
 each:∀t,pq t l l' zs ys
def pq.more{n:ag}{b a e e':List Nd}(m:Gd b)(l:Gd a):∀{d c:List Nat},(∀z∈d,z<b.length)->(∀k∈c,k<a.length)->pq n b a d c->pq n (b++e) (a++e') d c
 | [],[],_,_,_=>trivial
 |z::d,k::c,f,g,h=>⟨h.1.more m (f z<|by simp) l<|g k<|by simp,pq.more m l (λj i=>f j<|xw _ i) (λj i=>g j<|xw _ i) h.2⟩
 | [],_::_,_,_,h=>h.elim
 |_::_,[],_,_,h=>h.elim
def pq.snoc{f:ag}{e d:List Nd}{k j:Nat}(i:kt f e k d j):∀{h g:List Nat},pq f e d h g->pq f e d (h++[k]) (g++[j])
 | [],[],_=>⟨i,trivial⟩
 |a::h,b::g,c=>⟨c.1,pq.snoc i c.2⟩
 | [],_::_,c=>c.elim
 |_::_,[],c=>c.elim
def Fs.snoc{r:ag}{q p:Nat}{g h:bs}{f e:bs×Nat}{m l:List Nat}(o:Gd g.l)(n:Gd h.l)(c:Fs g.l h.l m l)(b:tn r q p g h f e):Fs f.1.l e.1.l (m++[f.2]) (l++[e.2]):=by
 have⟨s,j⟩:=b.ext;have⟨t,i⟩:=b.ext';constructor
 .intro d a
  rcases og.1 a with a|a
  .have:=c.lt d a;rw[j,ga];omega
  obtain rfl:d=f.2:=by simpa using a
  exact b.lt
 .intro d a
  rcases og.1 a with a|a
  .have:=c.Db d a;rw[i,ga];omega
  obtain rfl:d=e.2:=by simpa using a
  exact b.Db
 intro k
 refine pq.snoc (b.al k) ?_;rw[j,i];exact pq.more o n c.lt c.Db<|c.each k
def Jp.over(m:iu s)(u:a<=s.size)(l:Jp s a)(f:om s a=false):pk s a=124\/pk s a=41\/a=s.size:=by
 rcases hb a s.size with c|i
 .have⟨⟨d,k,e,j⟩,n,g⟩:=l;have h:bn mb (au s a)=true:=by
   unfold om at f;simpa[c]using f
  have⟨t,b,_⟩:=m.next n c
  rw[fh c]at g|-;simp only at g;by_cases o:au s a=124
  .exact .inl<|by omega
  by_cases v:au s a=41
  .exact .inr<|.inl<|by omega
  exfalso;have p:step ⟨d,k,e,j⟩ (au s a)=nr ⟨d,k,e,j⟩ (au s a):=by
   unfold step;rw[N<|by simp only;omega,G<|by simp only;omega]
  rw[p]at b;have q:¬(d=1/\bn xr (au s a)=true):=by
   rintro⟨w,r⟩;rw[Eh]at r;omega
  unfold nr at b;simp only at b;rw[N q,N,N o,N]at b;unfold kh at b;rw[Cz]at h;rw[N,N,N,G<|by rw[Cz];exact h]at b;cases b
 exact .inr<|.inr<|by omega
def tn.trans{h i:bs}{j g e k:bs×Nat}(f:tn s a b h i j g)(d:tn s a c j.1 g.1 e k)(r:b<e.1.H:=by omega):tn s a b h i e k:=by
 have⟨p,q⟩:=f.ext;have⟨t,m⟩:=f.ext';have⟨u,n⟩:=d.ext;have⟨o,l⟩:=d.ext';exact⟨d.H,d.g,r,d.le,⟨p++u,by rw[n,q,nt]⟩,⟨t++o,by rw[l,m,nt]⟩,d.gd,d.Gi,d.lt,d.Db,d.al,d.rn⟩
def ag1{L M:bs}{g k:bs×Nat}{d e:List Nat}(D:c=4\/c=5)(T:tn s a b L M g k)(i:Fs g.1.l k.1.l (d++[g.2]) (e++[k.2])):
  tn s a b L M (joinF c (d++[g.2]) g.1) (cp k.1 k.1.H<|ct c<|e++[k.2])/\(joinF c (d++[g.2]) g.1).1.H=g.1.H:=by
 have⟨⟨B,E,m⟩,h⟩:=g;have⟨⟨W,V,p⟩,f⟩:=k;have⟨F,H,t,u,⟨R,v⟩,⟨K,w⟩,n,r,x,P,Q,A⟩:=T;simp only at F H t u v w n r x P Q A i|-;subst F;subst H;have l:Gd (p++[ct c<|e++[f]]):=r.add (λC y=>i.Db C y) (λU=>by simp[ct]);cases d with
 |nil=>
  cases e with
  |cons z e=>
   have o:=(i.each ByteArray.empty).2;cases e with
   |nil=>exact(show False from o).elim
   |cons j e=>exact(show False from o).elim
  |nil=>
   refine⟨⟨rfl,rfl,t,u,⟨R,v⟩,⟨K++[ct c [f]],by show p++_=_;rw[w,nt];rfl⟩,n,l,x,by simp[cp],λq=> ?_,A⟩,rfl⟩;have j:kt q m h (p++[ct c<|[]++[f]]) f:=by
    have:=(Q q).more (l2:=[]) (l2':=[ct c<|[]++[f]]) n x r P;rwa[xu]at this
   rcases D with rfl|rfl
   .exact kt.awz l (by simp[cp]) j
   exact kt.ato l (by simp[cp]) j
 |cons j d=>
  have S:joinF c (j::d++[h]) ⟨B,E,m⟩=cp ⟨B,E,m⟩ B (ct c (j::d++[h])):=Va (by simp);rw[S];have z:Gd (m++[ct c (j::d++[h])]):=n.add (λC y=>i.lt C y) (λU=>by simp[ct]);refine⟨⟨rfl,rfl,t,u,⟨R++[ct c (j::d++[h])],by show m++_=_;rw[v,nt]⟩,⟨K++[ct c<|e++[f]],by show p++_=_;rw[w,nt]⟩,z,l,by simp[cp],by simp[cp],λq=> ?_,A⟩,rfl⟩;have o:=pq.more (e:=[ct c (j::d++[h])]) (e':=[ct c<|e++[f]]) n r i.lt i.Db<|i.each q;rcases D with rfl|rfl
  .exact kt.ways (zs:=j::d++[h]) (ys:=e++[f]) z l (by simp[cp]) (by simp[cp]) o
  exact kt.row (zs:=j::d++[h]) (ys:=e++[f]) z l (by simp[cp]) (by simp[cp]) o
def Zb{a:ag}(r:iu a){e h:bs->bs×Nat}{t:Nat}(w:Jl a e h t):∀(f:Nat)(b c:bs)(o:St)(g j:List Nat),b.H=c.H->b.g=c.g->Gd b.l->Gd c.l->
  run a b.H=some o->o.m<=2->b.H<a.size->a.size-b.H<=t->bn mb (au a b.H)=false->Fs b.l c.l g j->a.size-b.H<=f->
  tn a o.o b.H b c (wayL e a f b g) (qs h a (f+1) c j)/\Jp a (wayL e a f b g).1.H/\om a (wayL e a f b g).1.H=false
 |0,b,c,o,g,j,_,_,_,_,_,_,k,_,_,_,hf=>by omega
 |f+1,b,c,o,g,j,ha,u,hp,i,hr,hm,k,v,hc,hS,hf=>by
  have⟨d,s⟩:=afx r w ha u hp i hr hm k v hc;have p:=hS.snoc hp i d;have A:¬(pk a c.H=124\/pk a c.H=41\/c.H=a.size):=by
   rw[<-ha,fh k];have:¬(bn mb (au a b.H)=true):=by rw[hc];simp
   rw[Cz]at this;omega
  have C:qs h a (f+1+1) c j=qs h a (f+1) (ki h a c).1 (j++[(ki h a c).2]):=by
   rw[qs,N A]
  rw[C];have D:wayL e a (f+1) b g=if om a (xc e a b).1.H=true then wayL e a f (xc e a b).1 (g++[(xc e a b).2])else joinF 5 (g++[(xc e a b).2]) (xc e a b).1:=rfl
  rw[D];generalize xc e a b=l at d s p;generalize ki h a c=x at d p;by_cases n:om a l.1.H=true
  .rw[G n];have⟨B,E,F,K⟩:=d.rn;have m:l.1.H<a.size/\bn mb (au a l.1.H)=false:=by
    unfold om at n;simpa using n
   have H:=d.lo;have⟨q,y,z⟩:=Zb r w f l.1 x.1 B (g++[l.2]) (j++[x.2]) d.H d.g d.gd d.Gi E (by omega) m.1 (by omega) m.2 p (by omega);rw[F]at q;have:=q.lo;exact⟨d.trans q,y,z⟩
  rw[N n];have m:om a l.1.H=false:=by simpa using n
  have q:=s.over r d.le m;rw[d.H]at q;rw[qs,G q];have⟨z,y⟩:=ag1 (.inr rfl) d p;rw[y];exact⟨z,s,m⟩
def tn.ati{d o2 c:Nat}{p p' e b:bs}{f g:bs×Nat}(a:tn s d c e b f g)(h:d=o2)(i:e.l=p.l)(j:b.l=p'.l):tn s o2 c p p' f g:=by
 subst h;exact⟨a.H,a.g,a.lo,a.le,by rw[<-i];exact a.ext,by rw[<-j];exact a.ext',a.gd,a.Gi,a.lt,a.Db,a.al,a.rn⟩
def Yh(c b:List Nd):Fs c b [] []:=⟨(λd a=>by cases a),(λd a=>by cases a),λe=>trivial⟩
def aa6{b:ag}(q:iu b){g h:bs->bs×Nat}{s:Nat}(x:Jl b g h s):∀(f:Nat)(c d:bs)(k:St)(j m:List Nat),c.H=d.H->c.g=d.g->Gd c.l->Gd d.l->
  run b c.H=some k->k.m=0->c.H<=b.size->b.size-c.H<=s->Fs c.l d.l j m->b.size-c.H<=f->
  tn b k.o c.H c d (wy g b f c j) (sw h b (f+1) d m)/\((wy g b f c j).1.H=b.size\/au b (wy g b f c j).1.H=41)
 |0,c,d,k,j,m,_,_,_,_,hr,hm,v,_,_,hf=>by
  have:=q.qd hr v;omega
 |f+1,c,d,k,j,m,ha,B,hp,l,hr,hm,v,C,hS,hf=>by
  have y:=q.qd hr v;have D:bn mb (au b c.H)=false:=by
   have⟨p,e,_⟩:=q.next hr y
   have o:step k (au b c.H)=kh k (au b c.H):=by unfold step;rw[G hm]
   rw[o]at e;cases i:bn mb (au b c.H)with
   |false=>rfl
   |true=>
    have r:=(Cz _).1 i;unfold kh at e;rw[N,N,N,G i]at e;cases e
  have⟨e,w,t⟩:=Zb q x b.size c d k [] [] ha B hp l hr (by omega) y C D (Yh _ _) (by omega);have p:=hS.snoc hp l e;have E:wy g b (f+1) c j=if pk b (wt g b c).1.H=124 then wy g b f ⟨(wt g b c).1.H+1,(wt g b c).1.g,(wt g b c).1.l⟩ (j++[(wt g b c).2])else joinF 4 (j++[(wt g b c).2]) (wt g b c).1:=rfl
  have F:sw h b (f+1+1) d m=if pk b (ip h b d).1.H=124 then sw h b (f+1) ⟨(ip h b d).1.H+1,(ip h b d).1.g,(ip h b d).1.l⟩ (m++[(ip h b d).2])else cp (ip h b d).1 (ip h b d).1.H (ct 4<|m++[(ip h b d).2]):=rfl
  rw[E,F];have H:wt g b c=wayL g b b.size c []:=rfl;have K:ip h b d=qs h b (b.size+1) d []:=rfl;rw[<-H]at e w t p;rw[<-K]at e p;generalize wt g b c=i at e w t p;generalize ip h b d=r at e p;by_cases o:pk b i.1.H=124
  .rw[G o,G<|by rw[<-e.H];exact o];have z:i.1.H<b.size:=by
    rcases hb i.1.H b.size with n|n
    .exact n
    rw[qj]at o;omega
   have⟨u,L,M,P⟩:=e.rn;have S:run b (i.1.H+1)=some ⟨0,u.o,u.a,u.l⟩:=by
    rw[lf L,show au b i.1.H=124 by rw[fh z]at o;omega];exact Yo P
   have U:=e.lo;have⟨R,Q⟩:=aa6 q x f ⟨i.1.H+1,i.1.g,i.1.l⟩ ⟨r.1.H+1,r.1.g,r.1.l⟩ _ (j++[i.2]) (m++[r.2]) (by show i.1.H+1=r.1.H+1;rw[e.H]) e.g e.gd e.Gi S rfl z (by show b.size-(i.1.H+1)<=s;omega) p (by show b.size-(i.1.H+1)<=f;omega);have A:=R.ati (p:=i.1) (p':=r.1) (o2:=k.o) M rfl rfl;have T:i.1.H+1<_:=A.lo;exact⟨e.trans A,Q⟩
  rw[N o,N<|by rw[<-e.H];exact o];have⟨u,z⟩:=ag1 (.inl rfl) e p;refine⟨u,?_⟩;rw[z];rcases w.over q e.le t with a|a|a
  .exact cb a o
  .right;rcases hb i.1.H b.size with n|n
   .rw[fh n]at a;omega
   rw[qj]at a;omega
  exact .inl a
def Cy{a:ag}(d:iu a):∀N,Jl a (ml a N) (dz a N) N
 |0=>λe b c _ _ _ _ _ _ _ g=>by omega
 |N+1=>λe b c h i j f k l m g=>
  aa6 d (Cy d N) a.size e b c [] [] h i j f k l m (by omega) (Yh _ _) (by omega)
def Qu(d:iu s)(g:s.size<=40):(il s).1.g=(jv s).1.g/\Gd (il s).1.l/\Gd (jv s).1.l/\∀f,kt f (il s).1.l (il s).2 (jv s).1.l (jv s).2:=by
 have b:Gd []:=⟨λe c hd=>by simp at hd,λe c hd=>by simp at hd⟩;have⟨a,_⟩:=Cy d 41 ⟨0,0,[]⟩ ⟨0,0,[]⟩ ⟨0,0,0,0⟩ rfl rfl b b rfl rfl (ey _) (by show s.size-0<41;omega);exact⟨a.g,a.gd,a.Gi,a.al⟩
section
def Yz(c:Nat->Prop)(a:Nat):∀d,∃f,pr c a (a+d) f
 |0=>⟨a,ah,ah,λb e h=>by omega,.inl rfl⟩
 |d+1=>by
  by_cases i:c (a+(d+1))
  .exact⟨a+(d+1),by omega,ah,λb e h=>by omega,.inr i⟩
  have⟨f,e,h,j,l⟩:=Yz c a d;refine⟨f,e,by omega,λb n o=>?_,l⟩;by_cases k:b=a+(d+1)
  .rw[k];exact i
  exact j b n<|by omega
section
variable {m:Nat->Nat->Nat->Prop} {g:Nat->Nat->Nat->co->co->Prop}
def Gx(g:Nat->Nat->Nat->co->co->Prop)(x:Nat):Prop:=∀i j c,i<=j->∃c',g x i j c c'/\c'.length=c.length
def aar(c d:Nat)(i:c<=d)(b:co):∀(k:List Nat),(∀x∈k,Gx g x)->∃a,altG m g k c d b a/\a.length=b.length
 | [],_=>⟨b,rfl,rfl⟩
 |x::xs,h=>by
  by_cases j:m x c d
  .have⟨a,e,f⟩:=h x (by simp) c d b i;exact⟨a,.inl ⟨j,e⟩,f⟩
  have⟨a,e,f⟩:=aar c d i b xs λn l=>h n<|xw _ l
  exact⟨a,.inr ⟨j,e⟩,f⟩
def ag6(b:Nat):∀(k:List Nat)(a:Nat)(c:co),a<=b->(∀x∈k,Gx g x)->∃j,ik m g k a b c j/\j.length=c.length
 | [],a,c,_,_=>⟨c,rfl,rfl⟩
 |x::xs,a,c,d,h=>by
  have⟨e,f⟩:=Yz (λe=>m x a e/\ku (xs.map m) e b) a<|b-a;rw[show a+(b-a)=b by omega]at f;have⟨i,l,n⟩:=h x (by simp) a e c f.1;have⟨o,p,q⟩:=ag6 b xs e i f.2.1 λs r=>h s<|xw _ r
  exact⟨o,⟨e,i,f,l,p⟩,by rw[q,n]⟩
def agx(h k:Nat)(o:Int)(b:Nat)(n:Gx g h):∀(f done a:Nat)(c:co),a<=b->∃r,repP m g h k o f done a b c r/\r.length=c.length
 |0,done,a,c,_=>⟨c,rfl,rfl⟩
 |f+1,done,a,c,e=>by
  by_cases l:a<b
  .have⟨d,i⟩:=Yz (λd=>m h a d/\Zt (m h) k o (done+1) d b) a<|b-a;rw[show a+(b-a)=b by omega]at i;have⟨j,p,q⟩:=n a d c i.1;have⟨s,t,u⟩:=agx h k o b n f (done+1) d j i.2.1;exact⟨s,.inr ⟨l,d,j,i,p,t⟩,by rw[u,q]⟩
  by_cases hd:done<k
  .have⟨j,p,q⟩:=n a b c e;exact⟨j,.inl ⟨l,.inl ⟨hd,p⟩⟩,q⟩
  exact⟨c,.inl ⟨l,.inr ⟨hd,rfl⟩⟩,rfl⟩
end
def af9(d:ag)(b:List Nd)(z:Wf b)(t:∀(k:Nat)(a:Nd),b[k]?=some a->a.R=3->a.ba≠[]):∀(f k:Nat),k<f->k<b.length->Gx (md d b f) k
 |0,k,h,_=>by omega
 |f+1,k,h,hn=>by
  intro i j c n
  obtain⟨a,hd⟩:∃a,b[k]?=some a:=⟨_,dy hn⟩;have⟨u,A⟩:=z k a hd;have o:∀l∈a.ba,Gx (md d b f) l:=λl v=>af9 d b z t f l (by have:=u l v;omega) (by have:=u l v;omega)
  have y:a.ba≠[]->a.ba.getD 0 0∈a.ba:=λB=>by
   cases e:a.ba with
   |nil=>exact cb e B
   |cons p b=>simp
  have C:∃e,(if a.R=3 then md d b f (a.ba.getD 0 0) i j (c.set a.num ((i:Int),(j:Int))) e
   else if a.R=4 then altG (bi d b) (md d b f) a.ba i j c e
   else if a.R=5 then ik (bi d b) (md d b f) a.ba i j c e
   else if a.R=6 then repP (bi d b) (md d b f) (a.ba.getD 0 0) a.lo a.hi (a.lo+d.size+1) 0 i j c e
   else e=c)/\e.length=c.length:=by
   by_cases p:a.R=3
   .have⟨e,q,r⟩:=o _ (y<|t k a hd p) i j (c.set a.num ((i:Int),(j:Int))) n;exact⟨e,by rw[G p];exact q,by rw[r,tj]⟩
   simp only[N p];by_cases w:a.R=4
   .simp only[G w];exact aar i j n c a.ba o
   simp only[N w];by_cases x:a.R=5
   .simp only[G x];exact ag6 j a.ba i c n o
   simp only[N x];by_cases s:a.R=6
   .simp only[G s];exact agx _ _ _ j (o _<|y<|A s) _ _ i c n
   simp only[N s];exact⟨c,rfl,rfl⟩
  have⟨e,q,r⟩:=C;exact⟨e,⟨a,hd,q⟩,r⟩
end
section
def ng.congr{m:Nat->Nat->Nat->Prop}{g e:Nat->Nat->Nat->co->co->Prop}{b l:Nat}{k:Int}(h:g b=e b):∀f,ng m g b l k f=ng m e b l k f
 |0=>by funext a i j c d;rfl
 |f+1=>by
  funext a i j c d;simp only[ng];rw[h,ng.congr h f]
def acz(l:ag)(b:List Nd)(p:Wf b)(q:∀(a:Nat)(d:Nd),b[a]?=some d->d.R=3->d.ba≠[]):∀(f k a:Nat),a<f->a<k->lz l b f a=lz l b k a
 |0,_,_,h,_=>by omega
 |_,0,_,_,h=>by omega
 |f+1,k+1,a,h,v=>by
  funext i j c w;simp only[lz];apply propext;refine yzo λd=>yyr λhd=>?_
  have⟨r,t⟩:=p a d hd;have n:∀e∈d.ba,lz l b f e=lz l b k e:=λe s=>acz l b p q f k e (by have:=r e s;omega) (by have:=r e s;omega)
  split
  .rename_i o;rw[n _<|zk<|q a d hd o]
  split
  .rw[altG.congr n]
  split
  .rw[ik.congr n]
  split
  .rename_i o;rw[ng.congr<|n _<|zk<|t o]
  exact Iff.rfl
def Gq(s:ag)(bc:List Nd)(n:Nat):Nat->Nat->co->co->Prop:=lz s bc (n+1) n
def Jo{c:List Nd}(n:Wf c)(o:∀(a:Nat)(b:Nd),c[a]?=some b->b.R=3->b.ba≠[]){b:Nd}(hd:c[a]?=some b)(f h:Nat)(d e:co):Gq s c a f h d e↔
   (if b.R=3 then Gq s c (b.ba.getD 0 0) f h (d.set b.num ((f:Int),(h:Int))) e
   else if b.R=4 then altG (bi s c) (Gq s c) b.ba f h d e
   else if b.R=5 then ik (bi s c) (Gq s c) b.ba f h d e
   else if b.R=6 then ng (bi s c) (Gq s c) (b.ba.getD 0 0) b.lo b.hi (b.lo+s.size+1) 0 f h d e
   else e=d):=by
 have⟨r,t⟩:=n a b hd;have j:∀i∈b.ba,lz s c a i=Gq s c i:=λi u=>acz s c n o a (i+1) i (r i u)<|by omega
 have q:Gq s c a f h d e↔(if b.R=3 then lz s c a (b.ba.getD 0 0) f h (d.set b.num ((f:Int),(h:Int))) e
   else if b.R=4 then altG (bi s c) (lz s c a) b.ba f h d e
   else if b.R=5 then ik (bi s c) (lz s c a) b.ba f h d e
   else if b.R=6 then ng (bi s c) (lz s c a) (b.ba.getD 0 0) b.lo b.hi (b.lo+s.size+1) 0 f h d e
   else e=d):=by
  show(∃p,c[a]?=some p/\_)↔_
  constructor
  .rintro⟨p,l,k⟩;rw[hd]at l;cases l
   exact k
  intro k;exact⟨b,hd,k⟩
 rw[q];split
 .rename_i k;rw[j _<|zk<|o a b hd k]
 split
 .rw[altG.congr j]
 split
 .rw[ik.congr j]
 split
 .rename_i k;rw[ng.congr<|j _<|zk<|t k]
 exact Iff.rfl
def pr.holds{c:Nat->Prop}{e f d:Nat}(k:pr c e f d)(h:∃b,e<=b/\b<=f/\c b):c d:=by
 have⟨l,n,i,a⟩:=k;rcases a with a|a
 .have⟨b,u1,u2,u3⟩:=h;by_cases j:b=d
  .rw[<-j];exact u3
  exact cb u3<|i b (by omega) u2
 exact a
def nj.pow(f:nj a C)(h:c<=a)(e:Pow C b c d):c<=d/\d<=a:=Pow.le f h e
def awb{L:Nat}{l:Nat->Nat->Prop}(f:nj L l){d a e j:Nat}{t:Int}(s:e<=L)(v:un l d t a (λr=>r=e) j)(B:e<j\/a<d):
  ∃c,e<=c/\c<=j/\l e c/\un l d t (a+1) (λr=>r=c) j/\(a<d\/e<c):=by
 obtain⟨n,m,p,rfl,o,b,q⟩:=v;by_cases w:a<d
 .rw[show d-a=(d-(a+1))+1 by omega]at o;have⟨c,h,i⟩:=o;have k:=f n c s h;have u:=f.pow k.2 i;have x:=f.full.pow u.2 q;refine⟨c,k.1,by omega,h,⟨c,m,p,rfl,i,?_,q⟩,.inl w⟩;rw[show max (a+1) d=max a d by omega];exact b
 rw[show d-a=0 by omega]at o;have x:n=m:=o;subst x;cases p with
 |zero=>
  have:n=j:=q;omega
 |succ p=>
  have⟨c,⟨h,A⟩,i⟩:=q;have k:=f n c s h;have u:=f.full.pow k.2 i;refine⟨c,k.1,by omega,h,⟨c,c,p,rfl,?_,?_,i⟩,.inr<|by omega⟩
  .rw[show d-(a+1)=0 by omega];rfl
  rcases b with b|b|b
  .omega
  .exact .inr<|.inl b
  right;right;have y:max a d=a:=by omega
  have z:max (a+1) d=a+1:=by omega
  rw[y]at b;rw[z];omega
def Bg.toR{d:Nat->Nat->Prop}{b c f:Nat}{e:Int}(j:Bg d b e c f):un d b e 0 (λk=>k=c) f:=by
 have⟨m,l,h,a,i⟩:=j;refine⟨c,m,l,rfl,h,?_,i⟩;rcases a with a|a
 .exact .inr<|.inl a
 right;right;rw[show max 0 b=b by omega];exact a
section
variable {m:Nat->Nat->Nat->Prop} {g:Nat->Nat->Nat->co->co->Prop}
def atj{i f a b d e:Nat}{c:co}(h:¬(d<e\/b<f)):ng m g i f p a b d e c c:=by
 cases a with
 |zero=>rfl
 |succ a=>exact .inl ⟨h,rfl⟩
def Xd{d f k e b c a:Nat}{i h j:co}(o:b<c\/e<f)(l:pr (λa=>m d b a/\un (m d) f p (e+1) (λq=>q=a) c) b c a)(n:g d b a i h)(r:ng m g d f p k (e+1) a c h j):ng m g d f p (k+1) e b c i j:=.inr ⟨o,a,h,l,n,r⟩
def ag7{xs:List Nat}{f e h:co}(i:pr (λd=>m a b d/\ku (xs.map m) d c) b c d)(j:g a b d f e)(k:ik m g xs d c e h):ik m g (a::xs) b c f h:=⟨d,e,i,j,k⟩
end
end
