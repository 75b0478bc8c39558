import Derived.Test.YtppjlpihaocdiaaGreatDoorAtQ
import Derived.Test.YtppjlpihaocdiaaGreatDoorAyQ
import Derived.Test.YtppjlpihaocdiaaGreatDoorAzQ
set_option linter.all false
set_option maxRecDepth 100000
set_option maxHeartbeats 16000000
namespace Go.Proofs.YtppjlpihaocdiaaGreatDoor
open Go.RowKit Go.Proofs.Tryz
variable{w u v:ae}{a b c d e:Nat}{s t:ag}{x y z:af}{p D:Int}{l:List af}{f:Bool}{g:List Nat}{h:Nat->Prop}{o:Option Addr}{r:List UInt8}{A:Nat->Bool}{B:Nat->Nat->Bool}{C:Nat->Nat->Prop}(i:Nat)(S T:ag)(V X:af)(j k m n:Nat)(Z:Int)(W:ae)
section
def Dr.of2{w w':ae}{b:Nat}{s:ag}{p:bs}{nv:af}{X:Nat->Prop}(j:Dr w b s p nv X)(e:w'.heap[b]?=w.heap[b]?)(k:∀a,nv.ownBlock=some a->w'.heap[a]?=w.heap[a]?)(l:∀a,a<w.heap.size->a≠b->some a≠nv.ownBlock->¬X a->w'.heap[a]?=w.heap[a]?):Dr w' b s p nv X:=by
 let⟨m,n,o,q,r,t,u,v,x,f,h,xs,g,i⟩:=j;have c:∀a,w'.cell? (O b a)=w.cell? (O b a):=λa=>ac a e
 have d:∀a,w'.frozen? (O b a)=w.frozen? (O b a):=λa=>ad a e
 exact⟨(c 0).trans m,(c 1).trans n,(c 2).trans o,(c 3).trans q,(c 4).trans r,(d 0).trans t,(d 1).trans u,(d 2).trans v,(d 4).trans x,f,h,xs,Qqo g k,i.of l⟩
structure Ga(w wr:ae)(b:Nat)(s:ag)(p:bs)(nv nv' kv:af)(X:Nat->Prop)(M kk:Nat)(zs:List Nat):Prop where
 row:bd wr M (dk ⟨kk,dp,[],0,0,0⟩ kv)
 dr:Dr wr b s p nv' (λk=>(X k\/k=M)\/kv.ownBlock=some k)
 fr:Qql b nv nv' w wr
 kd:Qqt wr (M+1) nv' kv zs
 new:w.heap.size<=M
 bM:b<M
 nM:nv'.ownBlock≠some M
section
variable {w wr w':ae} {b:Nat} {s:ag} {p:bs} {nv nv' kv:af} {X:Nat->Prop} {M kk:Nat} {zs:List Nat}
def Ga.lt(a:Ga w wr b s p nv nv' kv X M kk zs):M<wr.heap.size:=a.row.lt (by rw[gy];omega)
def Ga.call(a:Ga w wr b s p nv nv' kv X M kk zs){f:bs}(d:Qql b nv' x wr w')(hd:Dr w' b s f x (λe=>(X e\/e=M)\/kv.ownBlock=some e)):Ga w w' b s f nv x kv X M kk zs:=by
 refine⟨a.row.cw<|d.block M a.lt (by have:=a.bM;omega)<|λc=>a.nM c.symm,hd,a.fr.trans d,a.kd.fr d (by have:=a.bM;omega),a.new,a.bM,λc=>?_⟩;obtain l|l:=d.km
 .rw[l]at c;exact a.nM c
 have:=l M c;have:=a.lt;omega
def Ga.only(e:Ga w wr b s p nv nv' kv X M kk zs){c:bs}(d:eh b wr w')(hd:Dr w' b s c nv' (λa=>(X a\/a=M)\/kv.ownBlock=some a)):Ga w w' b s c nv nv' kv X M kk zs:=e.call (eh.fr d nv') hd
def Ga.drewN(c:Ga w wr b s p nv nv' kv X M kk zs)(a:Nat):Ga w (wr.drewN a) b s p nv nv' kv X M kk zs:=c.only (eh.drewN (eh.refl b wr) a)<|c.dr.drewN a
def Ga.ux(c:Ga w wr b s p nv nv' kv X M kk zs){v:Int}(a:Nat)(d:v=a:=by omega)(e:a<=s.size:=by omega):Ga w (wr.setCell (O b 4)<|I v) b s ⟨a,p.g,p.l⟩ nv nv' kv X M kk zs:=
 c.only ((eh.refl b wr).setCell 4 _) (c.dr.ux a d e)
theorem Ga.more(d:Ga w wr b s p nv nv' kv X M kk zs){h:ae}{g j i:Nat}
  (q:h.ownsRow (M+1) 3 1 (aa g (zs.length+1) j) (zs.length+1) ((zs.map λi:Nat=>I i)++[I i]))
  (k:(wr.alloc<|.cells #[I i] 3).grownBy h kv.ownBlock) (r:kv.ownBlock=some g\/g=wr.heap.size+1):
  Ga w (h.setCell (O M 257)<|aa g (zs.length+1) j) b s p nv nv' (aa g (zs.length+1) j) X M kk (zs++[i]):=by
 have z:=d.lt;have F:=d.bM;have H:(wr.alloc<|.cells #[I i] 3).heap.size=wr.heap.size+1:=qD
 have l:∀a,a<wr.heap.size->some a≠kv.ownBlock->h.heap[a]?=wr.heap[a]? :=λa f A=>by
  rw[k.block a Q A,im _ _ _ f]
 have n:∀a,kv.ownBlock=some a->M+1<=a/\a<wr.heap.size:=λa f=>d.kd.own.lt a f
 have K:=(q.lt g rfl).1;have P:=k.size;have B:=l M z (λe=>qE);have o:∀a,nv'.ownBlock=some a->a<wr.heap.size:=by
  let⟨xs,m,_⟩:=d.dr.own;exact λa f=>(m.lt a f).2
 have C:=d.dr.lt;have D:Dr wr b s p nv' (λa=>((X a\/a=M)\/kv.ownBlock=some a)\/g=a):=d.dr.tu _ (λa f c=>by
  grind)
 have t:=D.of2 (l b C (λe=>qE)) (λa f=>l a (o a f)<|λe=>d.kd.ne a e.symm f)<|λa f _ _ v=>l a f<|λe=>v<|.inl<|.inr e.symm;have m:bf M h (h.setCell (O M 257)<|aa g (zs.length+1) j):=(bf.refl _ _).setCell _ _;have x:=d.row.cw B;refine⟨?_,?_,?_,?_,d.new,d.bM,d.nM⟩
 .have:=x.put 257 (by rw[gy];omega)<|aa g (zs.length+1) j;rw[ae1]at this;exact this
 .refine(t.bj m Q d.nM<|.inl<|.inl<|.inr rfl).tu _<|λa _ c=>?_;obtain c|c:=c
  .grind
  exact .inr<|by simpa[Value.ownBlock]using c
 .refine Fr.bj ⟨k.os.trans d.fr.os,k.tape.trans d.fr.tape,k.output.trans d.fr.output,by have:=d.fr.size;omega,λa f y u=>?_,d.fr.km⟩ m d.new;have E:=d.new;rw[l a Q (λe=>qE)];exact d.fr.block a f y u
 refine⟨?_,λa f=>?_⟩
 .rw[yys,ga];exact Qqo q λa f=>m.block a (by
   have:g=a:=by simpa[Value.ownBlock]using f
   omega)
 have u:g=a:=by simpa[Value.ownBlock]using f
 subst u;obtain e|e:=r
 .exact d.kd.ne g e
 grind
def Ga.done(a:Ga w wr b s p nv nv' kv X M kk zs)(k:p.l.length<=1000)(l:∀h,X h->h<w.heap.size)(m:zs≠[]):
  Calls prog 213 #[.pointer<|some ⟨b,0,none⟩,.agg (dk ⟨kk,dp,[],0,0,0⟩ kv).toArray] wr λe w'=>∃g,e=.returned (.int .i64 p.l.length)/\Dr w' b s ⟨p.H,p.g,p.l++[ct kk zs]⟩ g X/\Qql b nv g w w':=by
 have n:=List.length_pos_iff.2 m;let⟨c,i,f,v,u⟩:=a.kd.own.form n;have o:uj wr b nv' (λd=>X d\/d=M) (some<|O c 0) (ct kk zs).ba:=.inr ⟨c,rfl,by have:=a.bM;omega,a.kd.ne c<|by rw[f];rfl,λe=>by
  obtain e|e:=e
  .have:=l c e;have:=a.new;omega
  omega,Wp<|f▸a.kd.own⟩
 have hd:=a.dr.tu _<|λd _ e=> .inl e;have:=Qzg b p _ s nv' wr hd k (ct kk zs) (some<|O c 0) i o;rw[f];go_call this;rintro e x ⟨j,rfl,q,r⟩;exact⟨j,rfl,q.tu _<|λd _ t=> .inl t,a.fr.trans r⟩
end
structure Cq(N:Nat)(s:ag)(p:bs)(st:St)(zs:List Nat):Prop where
 rn:run s p.H=some st
 m2:st.m<=2
 ov:om s p.H=false->pk s p.H=124\/pk s p.H=41\/p.H=s.size
 ne:zs=[]->om s p.H=true
 gd:Gd p.l
 zg:p.l.length<=300+2*p.H
 gc:p.g<=p.H
 zl:zs.length<=p.H
 N:s.size-p.H<=N
 le:p.H<=s.size
def Yn{s:ag}(c:om s a=true):¬(pk s a=124\/pk s a=41\/a=s.size):=by
 unfold om at c;simp at c;let⟨d,e⟩:=c;have:¬(bn mb (au s a)=true):=by rw[e];simp
 rw[Cz]at this;rw[fh d];omega
def Cq.next{s:ag}{p:bs}{o:St}{zs:List Nat}(c:Cq a s p o zs)(g:iu s)(l:om s p.H=true):
  ∃h,Cq a s (ki (dz s a) s p).1 h (zs++[(ki (dz s a) s p).2])/\p.H<(ki (dz s a) s p).1.H:=by
 have i:p.H<s.size/\bn mb (au s p.H)=false:=by
  unfold om at l;simpa using l
 let⟨d,m⟩:=afx g (Cy g a) rfl rfl c.gd c.gd c.rn c.m2 i.1 c.N i.2;have j:=d.H;have k:=d.lo;have e:=d.le;rw[j]at k e m;have q:=abi (s:=s) (If s a) p;have r:=ac3 (s:=s) (Ox s a) p;let⟨h,n,t,u⟩:=d.rn;rw[j]at n;have v:=c.zg;have x:=c.gc;have y:=c.zl;have z:=c.N;refine⟨h,⟨n,Q,λf=>m.over g e f,λf=>by simp at f,d.Gi,Q,Q,qB,Q,e⟩,k⟩
attribute [local go_sem↓] Go.wp_at_zero Go.wp_at_succ
def ad0:(prog.info? 3).map (λa=>(a.zero,a.size,a.bytes))=some (some<|I 0,1,8):=qF
theorem Qzl(aD:Qzm i)(b:Nat)(p:bs)(X:Nat->Prop)(s:ag)(nv:af)(P:St)(w:ae)(x:Dr w b s p nv X)(aB:iu s)(aC:∀B,X B->B<w.heap.size)(a4:Cq i s p P []):
  Calls prog 211 #[.pointer<|some ⟨b,0,none⟩] w λd w'=>∃nv',d=.returned (.int .i64 ((ip (dz s i) s p).2:Nat))/\Dr w' b s (ip (dz s i) s p).1 nv' X/\Qql b nv nv' w w':=by
 generalize a:ip (dz s i) s p=M;have aK:=J a;have aF:=x;have aG:=J aD;have a3:=J aB;have D:=J aC;have aW:=x.lt;have b6:=x.li;have a5:Y (∀m,nv.ownBlock=some m->m<w.heap.size):=by
  let⟨xs,c,_⟩:=x.own;exact λm K=>(c.lt m K).2
 let⟨aZ,aL,aM,aN,aO⟩:=yyf ad0;go_in;go_wp2_with (first
  |(refine Re 6 rfl rfl 271 _ rfl _ ali ?_)
  |(refine gm 3 rfl rfl 271 rfl _ Rg ?_;intro w3 bA e a)
  |(refine hw rfl 271 (.tmp 3) (.tmp 6) rfl _ rfl _ rfl _ e (by rw[gy,gy]) (Qjg _ _) (vl _ _ _ _) ?_;intro w4 f c))
 have a2:Y (Ga w w4 b s p nv nv (.slice none 0 0) X w.heap.size 5 []):=
  ⟨f,((aF.tu (λm=>(X m\/m=w.heap.size)\/(Value.slice none 0 0).ownBlock=some m) (λm K h=>by
   obtain(h|h)|h:=h
   .exact h
   .omega
   cases h)).grow a).bj c Q (λd=>by have:=a5 _ d;omega)<|.inl<|.inr rfl,Fr.bj (Below.Qqr a nv) c ah,⟨yyc _ _ _ _,λm K=>by cases K⟩,ah,aW,λd=>by have:=a5 _ d;omega⟩
 go_simp;go_loopw [] (λwr=>∃L nv' kv zs P n,Ga w wr b s L nv nv' kv X w.heap.size 5 zs/\Cq i s L P zs/\s.size<n+L.H/\Y (M=qs (dz s i) s n L zs)) (λwr=>s.size-ry wr b)
 .exact⟨p,nv,_,[],P,s.size+1,a2,a4,Q,aK.symm⟩
 let⟨⟨f,u,r⟩,a6,kv,zs,aP,n,q,j,aX,a1⟩:=hrel;have aQ:=J<|Fx q.dr.c4;have a7:=j.le;have a8:=j.zg;have aR:=j.zl;have F:=q.dr.c3;have y:=q.dr.c4;have U:r.length<=1000:=by simp only at a8 a7;omega
 simp only at y a7 a8 aR aX;have E:Y (∀(c a:Nat),Calls prog 212 #[.pointer<|some ⟨b,0,none⟩,.int .u8 a] (wr.drewN c) λd w'=>d=.returned (.bool<|decide<|pk s f=(a:Int))/\∃k,w'=(wr.drewN c).drewN k):=λc a=>Iq b ⟨f,u,r⟩ _ s a6 a _<|q.dr.drewN c
 rcases df (om s f)with hs|hs
 .have e:=Yn hs;have l:Y (∀(c:Nat)(a:Int),(a=124\/a=41)->Calls prog 212 #[.pointer<|some ⟨b,0,none⟩,.int .u8 a] (wr.drewN c) λd w'=>d=.returned (.bool false)/\∃k,w'=(wr.drewN c).drewN k):=λc a o=>by
   have:=E c a.toNat;rw[show((a.toNat:Nat):Int)=a from Q,show decide (pk s f=a)=false from qB]at this;exact this
  have V:((f:Int)==s.size)=false:=qB
  have aY:f<s.size:=Q
  let⟨aS,C,Z⟩:=j.next a3 hs
  have aT:Y (bn mb (au s f)=false):=by
   have:=hs;unfold om at this;simp at this;exact this.2
  have H:Y (M=qs (dz s i) s (n-1) (ki (dz s i) s ⟨f,u,r⟩).1 (zs++[(ki (dz s i) s ⟨f,u,r⟩).2])):=by
   rw[Y,a1.out,show n=(n-1)+1 from Q,qs,N<|Yn hs];rfl
  go_wp21;go_quiet ((go_at_call 212;exact Calls.quiet_of<|l _ _ Q));have g:=q.drewN nq;generalize wr.drewN nq=W at g|-;go_wp21;refine(Qzk i aG b ⟨f,u,r⟩ _ s a6 aP _ ⟨g.dr,a3,j.gd,j.zg,j.gc,λB S=>?_,j.rn,j.m2,aY,j.N,aT⟩).mono ?_
  .have:=g.lt;obtain(S|S)|S:=S
   .have:=D B S;omega
   .omega
   exact(g.kd.own.lt B S).2
  rintro d v ⟨aU,rfl,t,z⟩;have e:=g.call z t;generalize t:ki (dz s i) s ⟨f,u,r⟩=b1 at e H C Z|-;let⟨b0,T⟩:=b1
  try simp only at e H C Z|-
  have a0:=e.row.cell<|wl _ _ 0;have aH:=e.row.frozen (k:=257) (by rw[gy];omega)
  try simp only at a0
  have aI:=e.lt;have aV:Y (∀{t:ae},(v.alloc<|.cells #[I T] 3).grownBy t kv.ownBlock->t.cell? (O w.heap.size 257)=some kv/\t.frozen? (O w.heap.size 257)=false):=by
   intro t R
   have z:t.heap[w.heap.size]?=v.heap[w.heap.size]? :=by
    rw[R.block w.heap.size qB (λd=>by have:=(e.kd.own.lt _ d.symm).1;omega),im _ _ _ aI]
   exact⟨(ac 257 z).trans a0,(ad 257 z).trans aH⟩
  have b5:zs.length<=40:=Q
  go_wp2_with (at_builtin;refine wpList_append_lies _ rfl _ _ 56 rfl (w.heap.size+1) 3 aZ (I 0) 1 8 underlying56 aL aM aN aO rfl Q kv zs.length (zs.map λb2:Nat=>I b2) rfl (e.kd.own.alloc _) (O v.heap.size 0) 1 1 [I T] rfl rfl (cell_one_new _ _ _) (λbF z=>by simp at z;subst z;rfl) Q qH Q qB (v.heap.size+1) qD ?_;intro b9 b7 bE aE R a9 aJ;have aA:Y _:=e.more aE R a9;let⟨bD,b8⟩:=aV R;clear aE R a9 aJ);refine⟨⟨b0,aU,_,zs++[T],aS,n-1,aA,C,Q,H⟩,?_⟩;rw[Fx aA.dr.c4,aQ.out];omega
 have C:=j.ov hs;simp only at C;have t:zs≠[]:=λd=>by
  have h:=j.ne d;grind
 have T:=J t;have R:Y (M=cp ⟨f,u,r⟩ f (ct 5 zs)):=by
  rw[Y,a1.out,show n=(n-1)+1 from Q,qs,G C]
 have Z:Y (∀(c:Nat)(a:Int)(e:Bool),(0<=a/\decide (pk s f=a)=e)->Calls prog 212 #[.pointer<|some ⟨b,0,none⟩,.int .u8 a] (wr.drewN c) λd w'=>d=.returned (.bool e)/\∃k,w'=(wr.drewN c).drewN k):=λc a e o=>by
  have:=E c a.toNat;rw[show((a.toNat:Nat):Int)=a from Q,o.2]at this;exact this
 by_cases t:pk s f=124
 .have l:Y (∀(c:Nat)(a:Int)(e:Bool),(a=124/\e=true)->Calls prog 212 #[.pointer<|some ⟨b,0,none⟩,.int .u8 a] (wr.drewN c) λd w'=>d=.returned (.bool e)/\∃k,w'=(wr.drewN c).drewN k):=λc a e o=>Z c a e qE
  go_wp21;go_quiet ((go_at_call 212;exact Calls.quiet_of<|l _ _ _ ⟨rfl,rfl⟩));have g:=q.drewN nq;generalize wr.drewN nq=W at g|-;go_wp2_with (first|(refine ir 27 rfl rfl 271 (.tmp 3) rfl _ rfl _ _ g.row underlying271 rfl (Qjg _ _) ?_));go_call g.done U D T as d a0 ⟨A,rfl,v,z⟩;go_wp21;go_ret;rw[R.out];exact⟨A,rfl,v,z⟩
 by_cases H:pk s f=41
 .have l:Y (∀(c:Nat)(a:Int)(e:Bool),((a=124/\e=false)\/(a=41/\e=true))->Calls prog 212 #[.pointer<|some ⟨b,0,none⟩,.int .u8 a] (wr.drewN c) λd w'=>d=.returned (.bool e)/\∃k,w'=(wr.drewN c).drewN k):=λc a e o=>Z c a e qE
  go_wp21;go_quiet ((go_at_call 212;exact Calls.quiet_of<|l _ _ _<|by first|exact .inl ⟨rfl,rfl⟩|exact .inr ⟨rfl,rfl⟩));have g:=q.drewN nq;generalize wr.drewN nq=W at g|-;go_wp2_with (first|(refine ir 27 rfl rfl 271 (.tmp 3) rfl _ rfl _ _ g.row underlying271 rfl (Qjg _ _) ?_));go_call g.done U D T as d a0 ⟨A,rfl,v,z⟩;go_wp21;go_ret;rw[R.out];exact⟨A,rfl,v,z⟩
 have a9:f=s.size:=Q
 have l:Y (∀(c:Nat)(a:Int)(e:Bool),((a=124/\e=false)\/(a=41/\e=false))->Calls prog 212 #[.pointer<|some ⟨b,0,none⟩,.int .u8 a] (wr.drewN c) λd w'=>d=.returned (.bool e)/\∃k,w'=(wr.drewN c).drewN k):=λc a e o=>Z c a e qE
 have V:((f:Int)==s.size)=true:=qB
 go_wp21;go_quiet ((go_at_call 212;exact Calls.quiet_of<|l _ _ _<|by first|exact .inl ⟨rfl,rfl⟩|exact .inr ⟨rfl,rfl⟩));have g:=q.drewN nq;generalize wr.drewN nq=W at g|-;go_wp2_with (first|(refine ir 27 rfl rfl 271 (.tmp 3) rfl _ rfl _ _ g.row underlying271 rfl (Qjg _ _) ?_));go_call g.done U D T as d a0 ⟨A,rfl,v,z⟩;go_wp21;go_ret;rw[R.out];exact⟨A,rfl,v,z⟩
end
section
structure zx(N:Nat)(s:ag)(p:bs)(st:St)(zs:List Nat):Prop where
 rn:run s p.H=some st
 m0:st.m=0
 gd:Gd p.l
 zg:p.l.length<=300+2*p.H
 gc:p.g<=p.H
 zl:zs.length<=p.H
 N:s.size-p.H<=N
 le:p.H<=s.size
theorem zx.ue{b:bs}{f:St}(c:zx a s b f g)(h:iu s):b.H<s.size/\bn mb (au s b.H)=false/\om s b.H=true:=by
 have e:=h.qd c.rn c.le (by have:=c.m0;omega) (by have:=c.m0;omega);have i:bn mb (au s b.H)=false:=by
  let⟨l,d,_⟩:=h.next c.rn e
  have k:step f (au s b.H)=kh f (au s b.H):=by rw[step,if_pos c.m0]
  rw[k]at d;cases j:bn mb (au s b.H)with
  |false=>rfl
  |true=>
   have m:=(Cz _).1 j;unfold kh at d;grind
 exact⟨e,i,by simp[om,e,i]⟩
theorem zx.win{f:bs}{c:St}(b:zx a s f c g)(h:iu s):Cq a s f c []:=by
 let⟨i,j,d⟩:=b.ue h;exact⟨b.rn,(by have:=b.m0;omega),(λe=>qE),λ_=>d,b.gd,b.zg,b.gc,qD,b.N,b.le⟩
structure Rj(s:ag)(p r:bs):Prop where
 lo:p.H<r.H
 le:r.H<=s.size
 gd:Gd r.l
 zg:r.l.length<=301+2*r.H
 gc:r.g<=r.H
 rn:∃st,run s r.H=some st/\(st.m=1\/st.m=2)
def zx.vu{b:bs}{j:St}(c:zx a s b j g)(e:iu s):Rj s b (ip (dz s a) s b).1:=by
 let⟨n,o,u⟩:=c.ue e;let⟨d,v,q⟩:=Zb e (Cy e a) s.size b b j [] [] rfl rfl c.gd c.gd c.rn (by have:=c.m0;omega) n c.N o (Yh _ _) Q;have f:=d.H;have h:=d.lo;have i:=d.le;rw[f]at h i;have w:=Tf (s:=s) (If s a) (s.size+1) b [];have x:=Ul (s:=s) (Ox s a) (s.size+1) b [];have r:=c.zg;have t:=c.gc;let⟨m,k,y,p⟩:=d.rn;rw[f]at k;have l:ip (dz s a) s b=qs (dz s a) s (s.size+1) b []:=rfl;rw[l];exact⟨h,i,d.Gi,Q,Q,m,k,p⟩
theorem Rj.next{f b:bs}{z:Nat}(c:Rj s f b)(p:g.length<=f.H)(q:s.size-f.H<=a)(h:pk s b.H=124):∃k,zx a s ⟨b.H+1,b.g,b.l⟩ k (g++[z]):=by
 have n:=c.lo;have o:=c.le;have i:b.H<s.size:=by
  obtain e|e:=hb b.H s.size
  .exact e
  rw[qj]at h;omega
 let⟨d,l,m⟩:=c.rn;have j:run s (b.H+1)=some ⟨0,d.o,d.a,d.l⟩:=by
  rw[lf l,show au s b.H=124 by rw[fh i]at h;omega];exact Yo m
 have r:=c.zg;have t:=c.gc;exact⟨_,j,rfl,c.gd,qE,qE,qE,qE,i⟩
attribute [local go_sem↓] Go.wp_at_zero Go.wp_at_succ
theorem Qzr(a6:Qzm i)(e:Nat)(s:bs)(r:Nat->Prop)(a:ag)(n:af)(L:St)(b:ae)(y:Dr b e a s n r)(a4:iu a)(a5:∀E,r E->E<b.heap.size)(V:zx i a s L []):
  Calls prog 184 #[.pointer<|some ⟨e,0,none⟩] b λg a8=>∃M,g=.returned (.int .i64 ((Od (dz a i) a s).2:Nat))/\Dr a8 e a (Od (dz a i) a s).1 M r/\Qql e n M b a8:=by
 generalize c:Od (dz a i) a s=F;have aH:=J c;have aA:=y;have aB:=J a6;have R:=J a4;have W:=J a5;have aT:=y.lt;have b1:=y.li;have X:Y (∀j,n.ownBlock=some j->j<b.heap.size):=by
  let⟨xs,d,_⟩:=y.own;exact λj H=>(d.lt j H).2
 let⟨aV,aI,aJ,aK,aL⟩:=yyf ad0;go_in;go_wp2_with (first
  |(refine Re 6 rfl rfl 271 _ rfl _ alh ?_)
  |(refine gm 3 rfl rfl 271 rfl _ Rg ?_;intro w3 b3 f c)
  |(refine hw rfl 271 (.tmp 3) (.tmp 6) rfl _ rfl _ rfl _ f (by rw[gy,gy]) (Qjg _ _) (vl _ _ _ _) ?_;intro w4 k d))
 have U:Y (Ga b w4 e a s n n (.slice none 0 0) r b.heap.size 4 []):=
  ⟨k,((aA.tu (λj=>(r j\/j=b.heap.size)\/(Value.slice none 0 0).ownBlock=some j) (λj H h=>by
   obtain(h|h)|h:=h
   .exact h
   .omega
   cases h)).grow c).bj d Q (λg=>by have:=X _ g;omega)<|.inl<|.inr rfl,Fr.bj (Below.Qqr c n) d ah,⟨yyc _ _ _ _,λj H=>by cases H⟩,ah,aT,λg=>by have:=X _ g;omega⟩
 go_simp;go_loopw [] (λwr=>∃K M C d L m,Ga b wr e a K n M C r b.heap.size 4 d/\zx i a K L d/\a.size<m+K.H/\Y (F=sw (dz a i) a m K d)) (λwr=>a.size-ry wr e)
 .exact⟨s,n,_,[],L,a.size+1,U,V,Q,aH.symm⟩
 let⟨⟨f,k,l⟩,aM,C,d,aN,m,A,w,aU,a9⟩:=hrel;have aO:=J<|Fx A.dr.c4;have aP:=w.le;have aQ:=w.zl;have D:=w.vu R
 simp only at aP aQ aU;have P:Y (F=if pk a (ip (dz a i) a ⟨f,k,l⟩).1.H=124 then sw (dz a i) a (m-1) ⟨(ip (dz a i) a ⟨f,k,l⟩).1.H+1,(ip (dz a i) a ⟨f,k,l⟩).1.g,(ip (dz a i) a ⟨f,k,l⟩).1.l⟩ (d++[(ip (dz a i) a ⟨f,k,l⟩).2])else cp (ip (dz a i) a ⟨f,k,l⟩).1 (ip (dz a i) a ⟨f,k,l⟩).1.H (ct 4<|d++[(ip (dz a i) a ⟨f,k,l⟩).2])):=by
  rw[Y,a9.out,show m=(m-1)+1 from Q,sw];rfl
 go_wp2_with fail;refine(Qzl i aB.out e ⟨f,k,l⟩ _ a aM aN _ A.dr R.out (λE t=>?_)<|w.win R.out).mono ?_
 .have:=A.lt;obtain(t|t)|t:=t
  .have:=W E t;omega
  .omega
  exact(A.kd.own.lt E t).2
 rintro g u ⟨qa,rfl,c,p⟩;have o:=A.call p c;generalize q:ip (dz a i) a ⟨f,k,l⟩=aW at o P D|-;let⟨⟨c,z,v⟩,p⟩:=aW;have aC:=D.lo;have aD:=D.le;have aE:=D.zg;simp only at aC aD aE|-;have S:=o.row.cell<|wl _ _ 0;have T:=o.row.frozen (k:=257) (by rw[gy];omega);have aF:=o.lt;have Z:Y (∀{q:ae},(u.alloc<|.cells #[I p] 3).grownBy q C.ownBlock->q.cell? (O b.heap.size 257)=some C/\q.frozen? (O b.heap.size 257)=false):=by
  intro q x
  have B:q.heap[b.heap.size]?=u.heap[b.heap.size]? :=by
   rw[x.block b.heap.size qB (λg=>by have:=(o.kd.own.lt _ g.symm).1;omega),im _ _ _ aF]
  exact⟨(ac 257 B).trans S,(ad 257 B).trans T⟩
 have b0:d.length<=40:=Q
 go_wp2_with (at_builtin;refine wpList_append_lies _ rfl _ _ 56 rfl (b.heap.size+1) 3 aV (I 0) 1 8 underlying56 aI aJ aK aL rfl Q C d.length (d.map λaY:Nat=>I aY) rfl (o.kd.own.alloc _) (O u.heap.size 0) 1 1 [I p] rfl rfl (cell_one_new _ _ _) (λb4 B=>by simp at B;subst B;rfl) Q qH Q qB (u.heap.size+1) qD ?_;intro a3 a0 aX a7 x a1 aG;have a2:=o.more a7 x a1;let⟨aS,aR⟩:=Z.out x;clear a7 x a1 aG);refine(Iq e ⟨c,z,v⟩ _ a qa 124 _ a2.dr).mono ?_;rintro g a7 ⟨rfl,a1,rfl⟩;have x:Y _:=a2.drewN a1;generalize(aX.setCell (O b.heap.size 257)<|aa a3 (d.length+1) a0).drewN a1=a7 at x|-;simp only;by_cases o:pk a c=((124:Nat):Int)
 .have hd:decide (pk a c=((124:Nat):Int))=true:=qK o
  rw[hd];let⟨aG,Z⟩:=D.next (z:=p) w.zl w.N o
  have S:=Z.le;simp only at S;have aR:Y (F=sw (dz a i) a (m-1) ⟨c+1,z,v⟩ (d++[p])):=by
   rw[Y,P.out,G (show pk a c=124 from o)]
  have T:Ga b (a7.setCell (O e 4)<|I<|(c:Int)+1) e a ⟨c+1,z,v⟩ n qa (aa a3 (d.length+1) a0) r b.heap.size 4 (d++[p]):=x.ux (v:=(c:Int)+1) (c+1) Q S;have aS:=x.dr.c4;have b2:=x.dr.f4;simp only at aS;go_wp2_with fail;refine⟨⟨⟨c+1,z,v⟩,qa,_,d++[p],aG,m-1,T,Z,qE,aR⟩,?_⟩;rw[Fx T.dr.c4,aO.out];grind
 have hd:decide (pk a c=((124:Nat):Int))=false:=qK o
 rw[hd];have S:Y (F=cp ⟨c,z,v⟩ c (ct 4<|d++[p])):=by
  rw[Y,P.out,N (show ¬pk a c=124 from o)]
 go_wp2_with (first|(refine ir 20 rfl rfl 271 (.tmp 3) rfl _ rfl _ _ x.row underlying271 rfl (Qjg _ _) ?_));refine(x.done (by show v.length<=1000;omega) W.out qD).mono ?_;rintro g aR ⟨T,rfl,Z,aG⟩;go_wp2_with fail;go_ret;rw[S.out];exact⟨T,rfl,Z,aG⟩
def af3:∀N,Qzm N
 |0=>by
  intro b f a g c d h _ _ _ _ _ _ _ _ e
  omega
 |N+1=>by
  intro b f a g c d h e m k i l n j o p
  exact Qzr N (af3 N) b f a g c d h e m n ⟨j,o,k,i,l,qD,Q,e.le⟩
end
def ar9{xs:List af}(m:w.ownsRow a 271 261 (aa b c d) c xs):∀(e:Nat)(h:af),xs[e]?=some h->w.cell? (O b e)=some h:=by
 intro e i j
 obtain⟨k,_⟩|⟨q,p,g,l,_,n,_,_,_,o⟩:=m.2
 .cases k
 cases l
 rw[yya w b e g 271 (0,0) n];have:g.toList[e]?=some i:=by
  have f:(g.toList.take<|c*261)[e]?=some i:=by rw[o,j]
  rw[Cg]at f;split at f
  .exact f
  cases f
 simpa using this
def Dr.tree{f:bs}(T:Dr w a s f x h)(g:Nat)(S:g<f.l.length)(y:f.l.length<=1000)(i:Nat)(W:i<=a)(z:∀b,b<i->h b):
  ∃j,∀d:ae,(∀b,i<=b->b<w.heap.size->d.heap[b]?=(w.setCell (O a 2)<|I g).heap[b]?)->Co d w.heap.size a j f.l f.g g:=by
 let⟨A,a3,a4,a5,a6,a8,a9,aA,aB,aD,a2,xs,q,a0⟩:=T;have m:a<w.heap.size:=dw w _ A;let⟨j,a1,v,aC,r⟩:=q.form Q;subst v;refine⟨j,λd n=>?_⟩;have o:∀b c,i<=b->b<w.heap.size->b≠a->d.cell? (O b c)=w.cell? (O b c):=λb c B C e=>bz<|(n b B C).trans<|er _ _ _ _ e
 have k:∀c,d.cell? (O a c)=(w.setCell (O a 2)<|I g).cell? (O a c):=λc=>bz<|n a W m
 refine⟨⟨a1,by rw[k];go_simp⟩,by rw[k];go_simp,by rw[k];go_simp,m,r,λU R hd=>?_,S,y⟩;let⟨D,qa,e,E⟩:=a0 U R hd;refine⟨D,qa,λc X F=>?_,λV Z l=>?_⟩
 .rw[o j _ Q r Q];exact ar9 q _ _<|E c X F
 obtain e|⟨p,H,K,a7,L,M⟩:=e
 .rw[e]at l;cases l
 have t:=M V Z l;have u:=dw w _ t;exact⟨p,H,u,by rw[o p _ (Nat.le_of_not_lt λP=>L<|z _ P) u K];exact t⟩
def apd(u:S.size<=40)(k:iu S)(a:ae):
  Calls prog 145 #[.string S] a λi j=>∃n l,i=.returned (.pointer<|some ⟨n,0,none⟩)/\(∀m:ae,(∀c,a.heap.size<=c->c<j.heap.size->m.heap[c]?=j.heap[c]?)->Co m j.heap.size n l (jv S).1.l (jv S).1.g (jv S).2)/\Below a.heap.size a j:=by
 have v:=J k;let⟨d,_⟩:=Cy k 41 ⟨0,0,[]⟩ ⟨0,0,[]⟩ ⟨0,0,0,0⟩ rfl rfl ⟨λh e hd=>by simp at hd,λh e hd=>by simp at hd⟩ ⟨λh e hd=>by simp at hd,λh e hd=>by simp at hd⟩ rfl rfl (ey _) (by show S.size-0<41;omega);have q:=J d.Db;have r:Y ((jv S).1.l.length<=1000):=by
  have o:=If S 41 ⟨0,0,[]⟩;have f:=d.le;rw[d.H]at f;have s:(jv S).1.l.length+0<=0+2*(dz S 41 ⟨0,0,[]⟩).1.H+2:=o;rw[Y];omega
 have t:Below a.heap.size a (a.alloc<|.cells #[.slice none 0 0,I 0,I 0,.string S,I 0] 241):=(bp _ _).alloc ah _;have d:∀c,(a.alloc<|.cells #[.slice none 0 0,I 0,I 0,.string S,I 0] 241).cell? (O a.heap.size c)=(#[.slice none 0 0,I 0,I 0,.string S,I 0]:Array af)[c]? :=λc=>yya _ a.heap.size c _ 241 (0,0)<|heap_alloc_last a _
 have f:∀c,(a.alloc<|.cells #[.slice none 0 0,I 0,I 0,.string S,I 0] 241).frozen? (O a.heap.size c)=false:=λc=>by
  rw[frozen?_alloc_cells a _ 241<|O a.heap.size c];simp[World.frozen?]
 have o:Y (Dr (a.alloc<|.cells #[.slice none 0 0,I 0,I 0,.string S,I 0] 241) a.heap.size S ⟨0,0,[]⟩ (.slice none 0 0)<|λc=>c<a.heap.size):=
  ⟨d 0,d 1,d 2,d 3,d 4,f 0,f 1,f 2,f 4,ey _,u,[],yyc _ _ _ _,λc e hd=>by simp at hd⟩
 go_in;go_wp21;go_call af3 41 a.heap.size ⟨0,0,[]⟩ (λc=>c<a.heap.size) S _ ⟨0,0,0,0⟩ _ o v ⟨λh e hd=>by simp at hd,λh e hd=>by simp at hd⟩ qD qD (λA w=>qB) rfl rfl (by show S.size-0<41;omega)as i p ⟨E,rfl,b,g⟩;have x:=b.c2;have y:=b.f2;rw[show dz S 41 ⟨0,0,[]⟩=jv S from rfl];go_wp21;go_ret;let⟨l,d⟩:=b.tree (jv S).2 q r a.heap.size ah<|λ_ f=>f;refine⟨a.heap.size,l,rfl,?_,?_⟩
 .have i:(p.setCell (O a.heap.size 2)<|I ((jv S).2:Int)).heap.size=p.heap.size:=by simp[World.setCell]
  rw[i];exact d
 have s:Below a.heap.size (a.alloc<|.cells #[.slice none 0 0,I 0,I 0,.string S,I 0] 241) p:=⟨g.os,g.tape,g.output,g.size,λc z=>g.block c qB Q<|by simp[Value.ownBlock]⟩;exact(t.trans s).setCell ah _
def Qzs(p:bs):Prop:=∀(n:Nat)(d:Nd),p.l[n]?=some d->Bc d/\(d.R=3->d.num<p.g/\∃z,d.ba=[z])/\d.lo<=900
theorem Qzs.add{d:bs}(k:Qzs d){c:Nd}(hd:Bc c)(l:c.R=3->c.num<d.g/\∃n,c.ba=[n])(i:c.lo<=900):Qzs (cp d a c).1:=by
 intro e g m
 have b:(d.l++[c])[e]?=some g:=m;obtain j|f:=hb e d.l.length
 .rw[oq j]at b;exact k e g b
 rw[sn f]at b;cases h:e-d.l.length with
 |zero=>rw[h]at b;cases b;exact⟨hd,l,i⟩
 |succ o=>grind
theorem Qzs.of{a q:bs}(i:Qzs a)(d:q.l=a.l:=by omega)(e:a.g<=q.g:=by omega):Qzs q:=by
 intro j f hd
 rw[d]at hd;let⟨g,b,h⟩:=i j f hd;grind
def ars(c:a<=2)(b:Nat->Bool):Bc (gb a b):=⟨by show a<=6;omega,by show 0<=1000;omega,by show 0<=1000;omega,by show-1<=(0:Int)/\(0:Int)<=1000;omega,by show(0:Int)<0\/((0:Nat):Int)<=0;omega⟩
def Jk(s:ag)(N:Nat)(ch:bs->bs×Nat):Prop:=∀(p:bs)(st:St),zx (N-1) s p st []->0<N->s.size-p.H<N->Qzs p->Qzs (ch p).1/\p.g<=(ch p).1.g
theorem aru(o:iu s)(p:Jk s a (dz s a)){b:bs}{c:St}(d:Cq a s b c g)(i:om s b.H=true)(j:Qzs b):Qzs (ep (dz s a) s b).1/\b.g<=(ep (dz s a) s b).1.g:=by
 have l:b.H<s.size/\bn mb (au s b.H)=false:=by
  unfold om at i;simpa using i
 by_cases e:au s b.H=40
 .rw[Tk e];have q:=d.rn;have f:run s (b.H+1)=kh c 40:=by
   rw[lf q,e,Mm d.m2 qE]
  have k:kh c 40=if c.o=5\/c.a=9 then none else some ⟨0,c.o+1,c.a+1,c.l⟩:=rfl
  let⟨m,h⟩:=o.all (show b.H+1<=s.size from Q);have n:m=⟨0,c.o+1,c.a+1,c.l⟩:=by
   rw[h,k]at f;split at f
   .cases f
   cases f;rfl
  have x:=d.N;have u:=d.zg;have v:=d.gc;let⟨r,t⟩:=p ⟨b.H+1,b.g+1,b.l⟩ ⟨0,c.o+1,c.a+1,c.l⟩ ⟨by rw[<-n];exact h,rfl,d.gd,qE,qE,qD,qE,qE⟩ Q qE (j.of rfl qE);have w:b.g+1<=(dz s a ⟨b.H+1,b.g+1,b.l⟩).1.g:=t;refine⟨r.add ⟨by show 3<=6;omega,by show 1<=1000;omega,by show 0<=1000;omega,by show-1<=(0:Int)/\(0:Int)<=1000;omega,by show(0:Int)<0\/((0:Nat):Int)<=0;omega⟩ (λ_=>⟨by show b.g<_;omega,_,rfl⟩)<|by show 0<=900;omega,by show b.g<=(dz s a ⟨b.H+1,b.g+1,b.l⟩).1.g;omega⟩
 unfold ep;simp only;rw[N e]
 (repeat' split)<;>exact⟨j.add (ars Q _) (λf=>by have h:(_:Nat)=3:=f;simp[gb]at h)<|by show 0<=900;omega,ah⟩
def Lh(c:b<=1000)(d:-1<=p/\p<=1000)(e:p<0\/(b:Int)<=p):Bc (gr a b p):=⟨by show 6<=6;omega,by show 1<=1000;omega,c,d,e⟩
def afb(b:a<=6)(c:g.length<=1000):Bc (ct a g):=⟨b,c,by show 0<=1000;omega,by show-1<=(0:Int)/\(0:Int)<=1000;omega,by show(0:Int)<0\/((0:Nat):Int)<=0;omega⟩
theorem ald(b:iu s){d:St}(n:run s a=some d)(g:d.m=1)(u:a<s.size)(o:au s a=123)(y:pk s (a+2)=44):au s (a+1)-48<=au s (a+3)-48:=by
 let⟨v,p,q,w⟩:=d;simp only at g;subst g;have h:run s (a+1)=some ⟨11,p,q,0⟩:=by
  rw[lf n,o];exact Qp
 have r:=b.qd h Q qD qD;let⟨z,c,i⟩:=b.next h r
 rw[Bl<|.inl rfl]at c;split at c
 .rename_i hd;cases c
  have j:=b.qd i Q qD qD;let⟨A,e,k⟩:=b.next i j
  rw[G rfl,Cw<|.inl rfl]at e;have l:au s (a+1+1)=44:=by
   have:=fh j;rw[show a+1+1=a+2 from rfl]at this|-;omega
  rw[N,G ⟨l,rfl⟩]at e;cases e
  have t:=b.qd k Q qD qD;let⟨B,f,x⟩:=b.next k t
  rw[Bl<|.inr rfl]at f;grind
 cases c
def asc(h:iu s)(p:Jk s a (dz s a)){b:bs}{v:St}(c:Cq a s b v g)(q:om s b.H=true)(w:Qzs b):Qzs (ki (dz s a) s b).1/\b.g<=(ki (dz s a) s b).1.g:=by
 have t:b.H<s.size/\bn mb (au s b.H)=false:=by
  unfold om at q;simpa using q
 let⟨d,e⟩:=aru h p c q w;let⟨x,F,n,u⟩:=Wg h (Cy h a) rfl rfl c.gd c.gd c.rn c.m2 t.1 c.N t.2;rw[x.H]at n;have f:∀(m k:Nat)(l:Int),(gr m k l).R=3->(gr m k l).num<(ep (dz s a) s b).1.g/\∃E,(gr m k l).ba=[E]:=λm k l z=>by simp[gr]at z
 by_cases B:pk s (ep (dz s a) s b).1.H=42
 .rw[abq B];exact⟨d.add (Lh Q Q<|.inl Q) (f _ _ _)<|by show(_:Nat)<=900;simp only[gr];omega,e⟩
 by_cases C:pk s (ep (dz s a) s b).1.H=43
 .rw[abr C];exact⟨d.add (Lh Q Q<|.inl Q) (f _ _ _)<|by show(_:Nat)<=900;simp only[gr];omega,e⟩
 by_cases D:pk s (ep (dz s a) s b).1.H=63
 .rw[abs D];exact⟨d.add (Lh Q Q<|.inr Q) (f _ _ _)<|by show(_:Nat)<=900;simp only[gr];omega,e⟩
 by_cases i:pk s (ep (dz s a) s b).1.H=123
 .have o:(ep (dz s a) s b).1.H<s.size:=by
   obtain A|A:=hb (ep (dz s a) s b).1.H s.size
   .exact A
   rw[qj]at i;omega
  have r:au s (ep (dz s a) s b).1.H=123:=by rw[fh o]at i;omega
  let⟨K,L,M,y⟩:=aa0 h n u o r;by_cases j:pk s ((ep (dz s a) s b).1.H+2)=44
  .rw[abu i j];let⟨P,U,R⟩:=y j;have H:=ald h n u o r j;exact⟨d.add (Lh Q Q<|.inr Q) (f _ _ _)<|by show(_:Nat)<=900;simp only[gr];omega,e⟩
  rw[abt i j];exact⟨d.add (Lh Q Q<|.inr Q) (f _ _ _)<|by show(_:Nat)<=900;simp only[gr];omega,e⟩
 rw[Tm (λj p=>Q)];exact⟨d,e⟩
theorem ajg{a:ag}(e:iu a)(j:a.size<=40){c:Nat}(i:Jk a c (dz a c)):∀(f:Nat)(b:bs)(g:St)(d:List Nat),Cq c a b g d->Qzs b->Qzs (qs (dz a c) a f b d).1/\b.g<=(qs (dz a c) a f b d).1.g
 |0,b,g,d,_,hp=>⟨hp,ah⟩
 |f+1,b,g,d,h,hp=>by
  rw[qs];rcases df (om a b.H)with hs|hs
  .rw[N<|Yn hs];let⟨l,m⟩:=asc e i h hs hp;let⟨k,n,q⟩:=h.next e hs
   let⟨o,p⟩:=ajg e j i f _ k _ n l;grind
  rw[G<|h.ov hs];have:=h.zl;have:=h.le;exact⟨hp.add (afb Q Q) (λk=>by simp[ct]at k)<|by show 0<=900;omega,ah⟩
theorem aa5{a:ag}(g:iu a)(j:a.size<=40){c:Nat}(m:Jk a c (dz a c)):∀(f:Nat)(b:bs)(i:St)(d:List Nat),zx c a b i d->Qzs b->Qzs (sw (dz a c) a f b d).1/\b.g<=(sw (dz a c) a f b d).1.g
 |0,b,i,d,_,hp=>⟨hp,ah⟩
 |f+1,b,i,d,h,hp=>by
  let⟨o,p⟩:=ajg g j m (a.size+1) b i [] (h.win g) hp;have q:=h.vu g;have r:sw (dz a c) a (f+1) b d=if pk a (ip (dz a c) a b).1.H=124 then sw (dz a c) a f ⟨(ip (dz a c) a b).1.H+1,(ip (dz a c) a b).1.g,(ip (dz a c) a b).1.l⟩ (d++[(ip (dz a c) a b).2])else cp (ip (dz a c) a b).1 (ip (dz a c) a b).1.H (ct 4<|d++[(ip (dz a c) a b).2]):=rfl
  rw[r];have k:Qzs (ip (dz a c) a b).1:=o;have l:b.g<=(ip (dz a c) a b).1.g:=p;by_cases e:pk a (ip (dz a c) a b).1.H=124
  .rw[G e];let⟨n,s⟩:=q.next (z:=(ip (dz a c) a b).2) h.zl h.N e
   let⟨t,u⟩:=aa5 g j m f _ n _ s<|k.of rfl ah;grind
  rw[N e];have:=h.zl;have:=h.le;exact⟨k.add (afb Q qB) (λe=>by simp[ct]at e)<|by show 0<=900;omega,l⟩
def aa7{a:ag}(c:iu a)(b:a.size<=40):∀N,Jk a N (dz a N)
 |0=>λf d _ e _ _=>Q
 |N+1=>λf d e _ h g=>aa5 c b (aa7 c b N) (a.size+1) f d [] e g
def am2(d:iu s)(c:s.size<=40):Qzs (jv s).1:=
 (aa7 d c 41 ⟨0,0,[]⟩ ⟨0,0,0,0⟩ ⟨rfl,rfl,⟨λb a hd=>by simp at hd,λb a hd=>by simp at hd⟩,qD,qD,qD,Q,ey _⟩ Q Q<|λb a hd=>by simp at hd).1
def ajz:Prop:=∀(p:Fp),Gd p.bc->(∀(n:Nat)(d:Nd),p.bc[n]?=some d->Bc d/\(d.R=3->d.num<p.eu/\∃z,d.ba=[z])/\d.lo<=900)->p.eu<=1000->∀n,n<p.bc.length->yj p n
def Oh(mf:Mf)(pt s:ag)(pl:Nat)(em:Bool):Option (List<|Int×Int):=if em=true then mf pt s pl else mz mf pt s pl
theorem am1{m:Mf}(x:fj m){c s:ag}(a1:iu c)(V:c.size<=40)(T:(il c).1.g=eo c)(W:(il c).2<(il c).1.l.length)(d:Nat)(U:d<=s.size)(t:Bool):
  ((∀a b,d<=a->a<=s.size->¬Rx (bi s (jv c).1.l (jv c).2) d t a b)->Oh m c s d t=none)/\
  ∀(a b:Nat) (f:co),zw s.size (Rx (bi s (jv c).1.l (jv c).2) d t) d a b->f.length=(jv c).1.g->Gq s (jv c).1.l (jv c).2 a b (tc (jv c).1.g) f->Oh m c s d t=some (((a:Int),(b:Int))::f):=by
 obtain ⟨K,D,a2,X⟩:=Qu a1 V;have qa:=X s;have a3:=vz s D.wf ((il c).2+1) (il c).2 Q;rw [←qa.m];have Z:∀j a b,zw s.size (bi s (il c).1.l (il c).2) j a b->∃f,m c s j=some (((a:Int),(b:Int))::f):=fun j a b g=>by
  obtain ⟨f,h,i⟩:=af9 s _ D.wf D.h3 ((il c).2+1) (il c).2 Q W a b (tc (eo c)) g.2.1;exact ⟨f,(x c s j).1 _ ⟨a,b,f,rfl,g,by rw [i];simp [tc],h⟩⟩
 have w:∀j a b f,zw s.size (bi s (il c).1.l (il c).2) j a b->f.length=(jv c).1.g->Gq s (jv c).1.l (jv c).2 a b (tc (jv c).1.g) f->m c s j=some (((a:Int),(b:Int))::f):=fun j a b f g n o=>by
  have i:jg s (jv c).1.l (jv c).2 a b (tc (jv c).1.g) f:=ac0 s _ _ _ _ _ _ _ o;have h:=(qa.g a b (by have:=g.2.1;have:=g.2.2.1;omega) g.2.2.2.1 _ _).2 i;refine (x c s j).1 _ ⟨a,b,f,rfl,g,by rw [n,←K,T], ?_⟩;grind
 have E:∀j,(∀a b,j<=a->a<=s.size->¬bi s (il c).1.l (il c).2 a b)->m c s j=none:=fun j h=>(x c s j).2 fun y ⟨a,b,f,_,g,_⟩=>h a b g.1 (by have:=g.2.1;have:=g.2.2.1;omega) g.2.2.2.1
 cases t
 .have hd:Oh m c s d false=mz m c s d:=rfl;rw [hd,mz];generalize a5:bi s (il c).1.l (il c).2=p at*
  have q:∀a b,p a b->¬(a=d/\b=d)->Rx p d false a b:=fun a b k i=>⟨k,fun _=>i⟩
  have L:∀a b,Rx p d false a b->¬(a=d/\b=d):=fun a b h=>h.2 rfl
  have M:∀(a b:Nat) (f:co),b≠d->m c s d=some (((a:Int),(b:Int))::f)->(match m c s d with|some y=>if (y.getD 0 (-1,-1)).2=(d:Int) then m c s (d+1) else some y|none=>none)=some (((a:Int),(b:Int))::f):=fun a b f R e=>by
   grind
  by_cases F:p d d
  .by_cases H:∃b,d<b/\p d b
   .obtain ⟨u,a4,P⟩:=H;refine ⟨fun h=>cb (q d u P Q) (h d u ah U),fun a b f g n o=> ?_⟩;obtain ⟨a0,z,A,r,B,C⟩:=g;have S:a=d:=by
     obtain e|e:=hb d a
     .grind
     omega
    subst S;have R:b≠a:=fun e=>L a b r ⟨rfl,e⟩
    exact M a b f R (w a a b f ⟨ah,z,A,r.1,fun v l k i=>Q,fun l k i=>C l k (q a l i Q)⟩ n o)
   obtain ⟨a4,P⟩:=Z d d d ⟨ah,ah,U,F,fun v l k i=>Q,fun l k i=>H ⟨l,k,i⟩⟩;rw [P];show (_->(if (d:Int)=(d:Int) then _ else _)=_)/\(∀(a b:Nat) (f:co),_->_->_->(if (d:Int)=(d:Int) then _ else _)=_)
   rw [G rfl];refine ⟨fun h=>E (d+1) fun a b k i u=>h a b Q i (q a b u Q),fun a b f g n o=> ?_⟩;obtain ⟨a0,z,A,r,B,C⟩:=g;have S:a≠d:=fun e=>by
    subst e;have:=L a b r;exact H ⟨b,Q,r.1⟩
   exact w (d+1) a b f ⟨Q,z,A,r.1,fun v l k i u=>B v l Q i (q v l u Q),fun l k i=>C l k (q a l i Q)⟩ n o
  have l:Rx p d false=p:=by
   funext a b;exact propext ⟨fun h=>h.1,fun h=>q a b h (fun e=>F qE)⟩
  rw [l];refine ⟨fun h=>by rw [E d h],fun a b f g n o=>M a b f (fun e=> ?_) (w d a b f g n o)⟩;have k:=g.1;have i:=g.2.1;have r:=g.2.2.2.1;grind
 have l:Rx (bi s (il c).1.l (il c).2) d true=bi s (il c).1.l (il c).2:=by
  funext a b;exact propext ⟨fun h=>h.1,fun h=>⟨h,fun h=>by cases h⟩⟩
 rw [l];exact ⟨fun h=>E d h,fun a b f g n o=>w d a b f g n o⟩
def Dd.lp(D:Dd):List ag->Dd
 | []=>D
 |t::r=>(D.print t).lp r
def Dd.pw(D:Dd):Dd:={D.lp D.ef with ef:=[]}
def Dd.jk(p:Dw)(D:Dd):Dd:=(if p.cf.quiet=true then D else D.print D.L).pw
def Qzu(c:ag):∀(b:List ag)(a:Dd),a.lp (b++[c])=(a.lp b).print c
 | [],a=>rfl
 |x::b,a=>by simp only[List.cons_append,Dd.lp];exact Qzu c b _
def Em:∀(b:List ag)(a:Dd),∃c,a.lp b={a with out:=c}/\c.size=a.out.size+fz b
 | [],a=>⟨a.out,rfl,by simp[fz]⟩
 |x::b,a=>by
  let⟨c,d,e⟩:=Em b<|a.print x;refine⟨c,by rw[Dd.lp,d];rfl,?_⟩;rw[e];simp only[Dd.print,uh,fz,vw,List.sum_cons];have:gp.size=1:=rfl;omega
def DE.nil{b:Dw}{c:Dd}(a:DE b w c x y):DE b (w.setCell (O b.b 11)<|.slice none 0 0) {c with ef:=[]} (.slice none 0 0) y:=
 ⟨a.row.put 11 (by show 11<18;omega) _,yyc _ _ _ _,mc ((bf.refl _ w).setCell 11 _) a.op a.a2,a.le,by simp[Value.ownBlock],a.a2,by simp[Value.ownBlock]⟩
def DQ.nil{c:Dw}{h a:ae}{e:Dd}{f i g:af}(d:DQ c f h a e i g):DQ c f h (a.setCell (O c.b 11)<|.slice none 0 0) {e with ef:=[]} (.slice none 0 0) g:=
 have b:bf c.b a (a.setCell (O c.b 11)<|.slice none 0 0):=(bf.refl _ a).setCell 11 _
 d.trans ⟨d.1.nil,b.os,b.tape,b.output,yh b.size.symm,λk _ j _ _=>b.block k j,λ_ d=>by simp[Value.ownBlock]at d⟩
def Uj(f:Dw)(a:Dd)(h j:af)(k:ae)(s:DE f k a h j)(v:a.out.size+fz a.ef<=1099511000000):
  Calls prog 93 #[.pointer<|some ⟨f.b,0,none⟩] k λc R=>c=.returned (.tuple #[])/\DQ f h k R a.pw (.slice none 0 0) j:=by
 have C:=J s.q;have e:a.ef.length<=fz a.ef:=by
  have:∀b:List ag,b.length<=fz b:=λb=>by
   induction b with
   |nil=>simp[fz]
   |cons o b d=>simp only[fz,vw,List.sum_cons,xv]at d|-;omega
  exact this _
 let⟨D,qa,c⟩:=yq s.cg;obtain⟨d,b⟩:∃d,d=a.ef.length:=⟨_,rfl⟩;have t:=J b;rw[<-b]at c;have T:d<=1099511000000:=Q
 have u:=J c;have E:=J v;clear s c e b v;go_in;go_wp21;go_loopw [2] (λo wr=>∃(b:Nat)(e:ag),b<=d/\o=I b/\Y (DQ f h k wr {a with out:=e} h j)/\Y (a.lp (a.ef.take b)={a with out:=e}/\e.size=a.out.size+fz (a.ef.take b))) (λo _=>d+1-(intOf o).toNat)
 .exact⟨0,a.out,Q,rfl,C,rfl,by simp[fz]⟩
 obtain⟨b,e,U,rfl,i,n⟩:=hrel;have P:=i.1.xc 11;rw[u.out]at P;by_cases p:b<d
 .have F:decide (b<d)=true:=qK p
  have m:b<a.ef.length:=by rw[<-t.out];exact p
  have q:=i.1.cg;obtain⟨_,H⟩|⟨r,S,c,_⟩:=El q
  .have g:a.ef.length=0:=H;omega
  have g:=t.symm;rw[u.out]at c;have w:D=some (O r 0):=by injection c
  have V:wr.cell? (O r b)=some (.string a.ef[b]):=by
   have l:wr.ownsRow f.B 9 1 (aa r a.ef.length qa) a.ef.length (sv a.ef):=by
    rw[g];rw[aa,<-w,<-u.out,<-g];exact q
   rw[l.cellAt b Q];simp[sv,m]
  simp only[O]at w;subst w;have L:Y (fz (a.ef.take b)+fz (a.ef.drop b)=fz a.ef):=by rw[Y,<-Qw,yzh]
  have M:Y (fz (a.ef.drop b)=(a.ef[b]).size+1+fz (a.ef.drop<|b+1)):=by
   rw[Y,Dn m];simp only[fz,vw,List.sum_cons]
  have x:Y (a.ef.take (b+1)=a.ef.take b++[a.ef[b]]):=by rw[Y,yzj,dy m];rfl
  have y:Y (fz (a.ef.take<|b+1)=fz (a.ef.take b)+(a.ef[b].size+1)):=by rw[Y,x.out,Qw];simp[fz]
  clear q c g;generalize a.ef[b]=l at*
  have z:e.size+l.size<=1099511000000:=by have:=L.out;have:=M.out;have:=n.2;have:=E.out;omega
  go_wp21;go_call Eo f {a with out:=e} h j l wr i.1 z as c W ⟨rfl,K⟩;have A:=J<|i.trans K;have B:Y (a.lp (a.ef.take<|b+1)={a with out:=e++l++gp}/\(e++l++gp).size=a.out.size+fz (a.ef.take<|b+1)):=by
   refine⟨by rw[x.out,Qzu,n.1];rfl,?_⟩;rw[uh,uh,n.2,y.out];have:gp.size=1:=rfl;omega
  go_wp21;go_roundw
  .exact⟨b+1,_,Q,qJ,A,B⟩
  simp[intOf];omega
 have l:b=d:=Q
 subst l;have q:=i.1.cd 11;have m:Y (DQ f h k (wr.setCell (O f.b 11)<|.slice none 0 0) a.pw (.slice none 0 0) j):=by
  have g:=n.1;rw[t.out,yzc]at g;rw[Y,Dd.pw,g];exact i.nil
 go_wp21;go_returns;exact⟨rfl,m⟩
def Ua(c:Dw)(a:Dd)(d g:af)(f:ae)(j:DE c f a d g)(l:a.out.size+a.L.size+1+fz a.ef<=1099511000000:=by omega):
  Calls prog 94 #[.pointer<|some ⟨c.b,0,none⟩] f λe n=>e=.returned (.tuple #[])/\DQ c d f n (a.jk c) (.slice none 0 0) g:=by
 have o:=j.xc 4;have w:=j.xc 9;have p:Y (∀h i,DQ c d f h i d g->i.out.size+fz i.ef<=1099511000000->a.jk c=i.pw->Calls prog 93 #[.pointer<|some ⟨c.b,0,none⟩] h λe n=>e=.returned (.tuple #[])/\DQ c d f n (a.jk c) (.slice none 0 0) g):=λh i q s t=>by
  go_call Uj c i d g h q.1 s as e r ⟨rfl,b⟩;rw[t];exact⟨rfl,q.trans b⟩
 cases b:c.cf.quiet
 .rw[b]at o;have u:Y (a.jk c=(a.print a.L).pw):=by rw[Y,Dd.jk,b];rfl
  have m:=Eo c a d g a.L f j;have k:(a.print a.L).out.size=a.out.size+a.L.size+1:=by
   show(a.out++a.L++gp).size=_
   rw[uh,uh];rfl
  have v:Y ((a.print a.L).out.size+fz (a.print a.L).ef<=1099511000000):=by rw[Y,k];exact l
  go_in;go_wp21;go_call m;rintro e h ⟨rfl,b⟩;have k:=p h _ b v u;go_wp21;go_call k;rintro e r ⟨rfl,b⟩;have m:=J b;go_wp21;go_returns;exact⟨rfl,m⟩
 rw[b]at o;have k:=p f a j.q Q (by rw[Dd.jk,b];rfl);go_in;go_wp21;go_call k;rintro e r ⟨rfl,b⟩;have m:=J b;go_wp21;go_returns;exact⟨rfl,m⟩
def qm(c:Nat)(D:Dd):ag:=if c=103\/c=120 then D.bt else if c=71 then D.L++gp++D.bt else D.L
def ql(c:Nat)(D:Dd):ag:=if c=104\/c=120 then D.L else if c=72 then D.bt++gp++D.L else D.bt
def Dd.wq(p:Dw)(c:Nat)(D:Dd):Dd:=
 if(qm c D).size<=p.cf.space/\(ql c D).size<=p.cf.space then {D with L:=qm c D,bt:=ql c D} else {D with ck:=4}
def auw(c:Dw)(a:Dd)(e j:af)(b:Nat)(i:ae)(k:DE c i a e j)(S:a.L.size<=1000)(R:a.bt.size<=1000)(U:b<256):
  Calls prog 144 #[.pointer<|some ⟨c.b,0,none⟩,.int .u8 b] i λr E=>r=.returned (.bool<|decide<|(qm b a).size<=c.cf.space/\(ql b a).size<=c.cf.space)/\DQ c e i E (a.wq c b) e j:=by
 have y:=k.xc 9;have D:=k.xc 10;have z:∀d:ae,(Op.stringOp .add a.L ⟨#[10]⟩).run prog d=.ok (.string<|a.L++gp) d:=λd=>yye (P:=prog) (w:=d) _ _ (by show _+1<=_;omega)
 have A:∀d:ae,(Op.stringOp .add a.bt ⟨#[10]⟩).run prog d=.ok (.string<|a.bt++gp) d:=λd=>yye (P:=prog) (w:=d) _ _ (by show _+1<=_;omega)
 have f:(a.L++gp).size=a.L.size+1:=by rw[uh];rfl
 have g:(a.bt++gp).size=a.bt.size+1:=by rw[uh];rfl
 have B:∀d:ae,(Op.stringOp .add (a.L++gp) a.bt).run prog d=.ok (.string<|a.L++gp++a.bt) d:=λd=>yye (P:=prog) (w:=d) _ _ Q
 have C:∀d:ae,(Op.stringOp .add (a.bt++gp) a.L).run prog d=.ok (.string<|a.bt++gp++a.L) d:=λd=>yye (P:=prog) (w:=d) _ _ Q
 clear f g;go_in;go_upto_block 0 with fail
 go_cut [5,6] (λK L H=>K=.string (qm b a)/\L=.string (ql b a)/\H=i)
 case first=>
  have o:b=103\/b=104\/b=120\/b=71\/b=72\/(b≠103/\b≠104/\b≠120/\b≠71/\b≠72):=Q
  obtain rfl|rfl|rfl|rfl|rfl|⟨f,g,h,l,m⟩:=o
  all_goals try (go_wp21;go_meet;exact⟨rfl,rfl,rfl⟩)
  have u:((b:Int)==103)=false:=hh;have v:((b:Int)==104)=false:=hh;have p:((b:Int)==120)=false:=hh;have q:((b:Int)==71)=false:=hh;have s:((b:Int)==72)=false:=hh;have n:Y (qm b a=a.L/\ql b a=a.bt):=by
   rw[Y,qm,ql];simp[f,g,h,l,m]
  clear f g h l m;go_wp21;go_meet;exact⟨by rw[n.1],by rw[n.2],rfl⟩
 obtain⟨rfl,rfl,f⟩:=hcut;have w:=f.symm;subst w;clear f z A B C;have h:a.wq c b=(if(qm b a).size<=c.cf.space/\(ql b a).size<=c.cf.space then {a with L:=qm b a,bt:=ql b a} else {a with ck:=4}):=rfl;obtain⟨f,l⟩:∃f,f=qm b a:=⟨_,rfl⟩;obtain⟨g,n⟩:∃g,g=ql b a:=⟨_,rfl⟩;have m:Y (f=qm b a/\g=ql b a):=⟨l,n⟩;rw[<-l,<-n]at h|-;have s:=J h;clear l n h;have l:=Xk c a e j f i k;go_wp21;go_call l;rintro r F ⟨rfl,h⟩;have x:=J h;have n:=Xk c _ e j g F h.1;clear l h;go_wp21;go_call n;rintro r q ⟨rfl,h⟩;have t:=J<|x.trans h;clear n h;by_cases h:f.size<=c.cf.space
 .by_cases l:g.size<=c.cf.space
  .have u:decide (f.size<=c.cf.space)=true:=qK h
   have v:decide (g.size<=c.cf.space)=true:=qK l
   have n:DQ c e i q a e j:=by
    have:=t;rwa[Dd.room,Dd.room,N,N]at this
   have y:=n.1.xc 9;have D:=n.1.xc 10;have P:=n.1.cd 9;have M:=n.1.cd 10;have o:Y (DQ c e i ((q.setCell (O c.b 9)<|.string f).setCell (O c.b 10)<|.string g) (a.wq c b) e j):=by
    rw[Y,s.out,G ⟨h,l⟩];exact(n.L f).bt g
   have p:Y (decide ((qm b a).size<=c.cf.space/\(ql b a).size<=c.cf.space)=true):=by rw[Y,<-m.1,<-m.2];simp[h,l]
   clear n h l;go_wp21;go_ret;exact⟨by rw[p.out];rfl,o⟩
  have u:decide (f.size<=c.cf.space)=true:=qK h
  have v:decide (g.size<=c.cf.space)=false:=qK l
  have o:Y (DQ c e i q (a.wq c b) e j):=by
   have:=t;rw[Y,s.out,N<|λk=>l k.2];rwa[Dd.room,G,show a.room c f=a from N Q]at this
  have p:Y (decide ((qm b a).size<=c.cf.space/\(ql b a).size<=c.cf.space)=false):=by rw[Y,<-m.1,<-m.2];simp;omega
  clear h l;go_wp21;go_ret;exact⟨by rw[p.out];rfl,o⟩
 have u:decide (f.size<=c.cf.space)=false:=qK h
 have o:Y (DQ c e i q (a.wq c b) e j):=by
  have:=t;rw[Y,s.out,N<|λk=>h k.1];rw[show a.room c f={a with ck:=4} from G Q,Dd.room]at this;split at this<;>exact this
 have p:Y (decide ((qm b a).size<=c.cf.space/\(ql b a).size<=c.cf.space)=false):=by rw[Y,<-m.1,<-m.2];simp;omega
 clear h;go_wp21;go_ret;exact⟨by rw[p.out];rfl,o⟩
structure Dc where
 di:Nat
 fst:Wh
 snd:Wh
 neg:Bool
 cn:Nat
 text:ag
 L:ag
 all:Bool
 kr:Bool
 num:Nat
 one:ag
 two:ag
def ig(c:Dc)(ta tb tt:af):List af:=
 [.int .u8 c.di,I c.fst.sort,I c.fst.num,ta,I c.snd.sort,I c.snd.num,tb,.bool c.neg,I c.cn,.string c.text,tt,.bool c.all,.bool c.kr,I c.num,.string c.one,.string c.two]
def Dd.kj(c:Dc)(D:Dd):Dd×Int:=
 let D1:=if c.di=99 then D.print c.text else D
 if c.di=68/\ci D1.L 0<D1.L.size then({D1 with L:=D1.L.extract (ci D1.L 0+1) D1.L.size},-3)else(D1,-2)
def anp(g:Dw)(a:Dd)(k q t u v:af)(b:Dc)(c:ae)(z:DE g c a k q)(L:a.L.size<=1000)(D:a.out.size+b.text.size<=1099511000000)(M:b.di<256):
  Calls prog 136 #[.pointer<|some ⟨g.b,0,none⟩,.agg (ig b t u v).toArray] c λs K=>s=.returned (.int .i64 (a.kj b).2)/\DQ g k c K (a.kj b).1 k q:=by
 go_in;by_cases i:b.di=99
 .have E:((b.di:Int)==99)=true:=by simp[i]
  have h:Y (a.kj b=(a.print b.text,-2)):=by
   rw[Y,Dd.kj];simp[i]
  go_wp2_with (refine ti 3 rfl rfl 177 (.tmp 1) rfl (ig b t u v) rfl ?_;intro l B d n;have m:=d.xc 0;have w:=d.xc 9;have j:=J<|z.q.below n;have x:=j.1.xc 9;clear d n);have f:=Eo g a k q b.text l j.1 D;go_call f;rintro s p ⟨rfl,e⟩;have y:=(ac 0<|e.keep (g:=c.heap.size) z ah).trans m;have C:=J<|j.trans e;have F:p.cell? (O g.b 9)=some (.string a.L):=e.1.xc 9;clear e m w x f;have o:=Tj a.L p;go_wp21;go_call o;rintro s r ⟨rfl,e⟩;have H:=(ac 0<|e.block _<|dw p _ y).trans y;have f:=J<|C.below e;clear e o y F;go_wp21;go_ret;rw[h.out];exact⟨rfl,f⟩
 have E:((b.di:Int)==99)=false:=hh;go_wp2_with (refine ti 3 rfl rfl 177 (.tmp 1) rfl (ig b t u v) rfl ?_;intro l B d n;have m:=d.xc 0;have w:=d.xc 9;have j:=J<|z.q.below n;have x:=j.1.xc 9;clear d n);have o:=Tj a.L l;go_call o;rintro s r ⟨rfl,e⟩;have H:=(ac 0<|e.block _<|dw l _ m).trans m;have f:=J<|j.below e;have n:=f.1.xc 9;have p:=f.1.cd 9;clear e o m w x;by_cases hd:b.di=68
 .have A:((b.di:Int)==68)=true:=by simp[hd]
  by_cases e:ci a.L 0<a.L.size
  .have h:Y (a.kj b=({a with L:=a.L.extract (ci a.L 0+1) a.L.size},-3)):=by
    rw[Y,Dd.kj];simp[i,hd,e]
   have d:Dz a.L=(ci a.L 0:Int):=G e;have o:decide ((ci a.L 0:Int)<0)=false:=qD
   rw[d];have m:Y (DQ g k c (r.setCell (O g.b 9)<|.string<|a.L.extract (ci a.L 0+1) a.L.size) {a with L:=a.L.extract (ci a.L 0+1) a.L.size} k q):=f.L _;generalize ci a.L 0=w at*
   clear d;go_wp21;go_ret;rw[h.out];exact⟨rfl,m⟩
  have h:Y (a.kj b=(a,-2)):=by
   rw[Y,Dd.kj];simp[i,hd,e]
  have d:Dz a.L=-1:=N e;rw[d];go_wp21;go_ret;rw[h.out];exact⟨rfl,f⟩
 have h:Y (a.kj b=(a,-2)):=by
  rw[Y,Dd.kj];simp[i,hd]
 go_wp21;go_ret;rw[h.out];exact⟨rfl,f⟩
def Dd.next(p:Dw)(join:Bool)(D:Dd):Dd×Int:=
 if D.yg=true then(D.last,-4)
 else if D.zm=true then({D.jk p with ck:=1},-4)
 else
  let D1:=if join=true then D else D.jk p
  let t:=if join=true then D.L++gp else⟨#[]⟩
  (D1.oe p t,if D1.rm p t=true then-1 else-4)
theorem ard(b:Dw)(a:Dd)(e f:af)(c:Bool)(E:Nat)(q:ae)(U:((E:Int)==110)= !c)(F:DE b q a e f)(R:a.L.size<=900)(y:a.out.size+a.L.size+1+fz a.ef<=1099511000000)(M:a.ji=false)(z:a.rest.size<=1099511000000)(A:a.number<=1099511000000):
  Calls prog 137 #[.pointer<|some ⟨b.b,0,none⟩,.int .u8 E] q λi w=>i=.returned (.int .i64 (a.next b c).2)/\∃K,DQ b e q w (a.next b c).1 K f:=by
 have g:=Vi b a e f q F;have B:Y (∀d,DE b d a e f->Calls prog 94 #[.pointer<|some ⟨b.b,0,none⟩] d λi w=>i=.returned (.tuple #[])/\DQ b e d w (a.jk b) (.slice none 0 0) f):=λd p=>Ua b a e f d p y
 have H:Y ((a.jk b).rest=a.rest/\(a.jk b).number=a.number):=by
  have:=Em;rw[Y,Dd.jk,Dd.pw];split
  .let⟨h,p,_⟩:=Em a.ef a;grind
  let⟨h,p,_⟩:=Em (a.print a.L).ef<|a.print a.L;rw[p];exact⟨rfl,rfl⟩
 clear F y;go_in;go_wp21;go_call g;rintro i d ⟨rfl,h⟩;have t:=J h;clear g h;cases r:a.yg
 .have k:a.last=a:=by rw[Dd.last,r];rfl
  have g:Y (DQ b e q d a e f):=by rw[Y,<-k];exact t
  have x:=g.1.xc 17;have S:=g.1.xc 9;rw[M]at x;clear k t;cases C:a.zm
  .have j:Y (a.next b c=((if c=true then a else a.jk b).oe b<|if c=true then a.L++gp else⟨#[]⟩,if(if c=true then a else a.jk b).rm b (if c=true then a.L++gp else⟨#[]⟩)=true then-1 else-4)):=by rw[Y,Dd.next,r,C];rfl
   have T:∀s:ae,(Op.stringOp .add a.L ⟨#[10]⟩).run prog s=.ok (.string<|a.L++gp) s:=λs=>yye (P:=prog) (w:=s) _ _ (by show _+1<=_;omega)
   have L:(a.L++gp).size<=1000:=by rw[uh];show _+1<=_;omega
   cases c
   .rw[N qG,N qG]at j;have l:=B d g.1;go_wp21;go_call l;rintro i D ⟨rfl,h⟩;have v:=J<|g.trans h;have m:=Vn b (a.jk b) (.slice none 0 0) f ⟨#[]⟩ false D h.1 (by rw[H.1];exact z) (by show 0<=_;omega) (by rw[H.2];exact A);clear h l;generalize(a.jk b).oe b ⟨#[]⟩=P at*
    generalize(a.jk b).rm b ⟨#[]⟩=u at*
    go_wp21;go_call m;rintro i w3 ⟨rfl,n⟩;have o:=J<|v.trans n;clear n m;cases u
    all_goals
     go_wp21;go_ret;rw[j.out];exact⟨rfl,_,o⟩
   rw[G rfl,G rfl]at j;have m:=Vn b a e f (a.L++gp) false d g.1 z L A;generalize a.oe b (a.L++gp)=P at*
   generalize a.rm b (a.L++gp)=u at*
   go_wp21;go_call m;rintro i w3 ⟨rfl,n⟩;have o:=J<|g.trans n;clear n m;cases u
   all_goals
    go_wp21;go_ret;rw[j.out];exact⟨rfl,_,o⟩
  have j:Y (a.next b c=({a.jk b with ck:=1},-4)):=by rw[Y,Dd.next,r,C];rfl
  have l:=B d g.1;go_wp21;go_call l;rintro i D ⟨rfl,h⟩;have v:=J<|g.trans h;have m:=h.1.xc 16;have n:=h.1.cd 16;have o:=J<|v.ck 1;clear h l;go_wp21;go_ret;rw[j.out];exact⟨rfl,_,o⟩
 have j:Y (a.next b c=(a.last,-4)):=by rw[Y,Dd.next,r];rfl
 have k:a.last={a with ji:=true}:=by rw[Dd.last,r];rfl
 have x:d.cell? (O b.b 17)=some (.bool true):=by
  have:=t.1;rw[k]at this;exact this.xc 17
 clear k;go_wp21;go_ret;rw[j.out];exact⟨rfl,_,t⟩
def iv(l:List Nat):List af:=l.map λ(n:Nat)=>I n
structure Hq(w:ae)(rb n:Nat)(ns:List ag)(gs:List Nat):Prop where
 ls:∃ao cap,w.cell? (O rb 2)=some (.slice ao n cap)
 nm:∃v,w.cell? (O rb 3)=some v/\w.ownsRow 0 9 1 v ns.length (sv ns)
 gl:∃v,w.cell? (O rb 4)=some v/\w.ownsRow 0 3 1 v gs.length (iv gs)
 len:gs.length=ns.length
 ye:ns.length<=1000
def goalF(n:Nat)(t:ag):List ag->List Nat->Nat
 |a::r,g::q=>if a=t then g else goalF n t r q
 |_,_=>n
def ao9(c:List ag)(b:List Nat)(a:Nat)(e:a<c.length)(d:a<b.length):goalF i S (c.drop a) (b.drop a)=if c[a]=S then b[a] else goalF i S (c.drop<|a+1) (b.drop<|a+1):=by
 rw[Dn e,Dn d,goalF]
def ac8(c:List ag)(d:List Nat)(h:ag)(f:ae)(M:Hq f i j c d)(R:j<=1000):
  Calls prog 141 #[.pointer<|some ⟨i,0,none⟩,.string h] f λg P=>g=.returned (.int .i64 (goalF j h c d:Int))/\Below f.heap.size f P:=by
 let⟨⟨S,x,T⟩,⟨U,V,l⟩,⟨W,X,m⟩,e,o⟩:=M;obtain⟨b,a⟩:∃b,b=c.length:=⟨_,rfl⟩;have s:Y (c.length=b/\d.length=b):=⟨a.symm,by rw[e,a]⟩;let⟨t,B,u⟩:=yq l;let⟨v,C,w⟩:=yq m;rw[<-a]at u;rw[e,<-a]at w;subst u w;have y:Y (f.ownsRow 0 9 1 (.slice t b B) b<|sv c):=by rw[Y];rw[a]at l|-;exact l
 have z:Y (f.ownsRow 0 3 1 (.slice v b C) b<|iv d):=by rw[Y];rw[e,<-a]at m;exact m
 have qa:b<=1000:=Q
 obtain⟨k,n⟩:∃k,k=goalF j h c d:=⟨_,rfl⟩;rw[<-n];have D:=J n;clear l m e o a n;go_in;go_wp21;go_loop [5] (λr=>∃(a:Nat),a<=b/\r=I a/\Y (k=goalF j h (c.drop a) (d.drop a))) (λr=>b+1-(intOf r).toNat)
 .exact⟨0,Q,rfl,D⟩
 obtain⟨a,Z,rfl,q⟩:=hrel;by_cases A:a<b
 .have n:a<c.length:=by rw[s.1];exact A
  have o:a<d.length:=by rw[s.2];exact A
  have p:=ao9 j h c d a n o;obtain⟨E,rfl⟩:∃e,t=some (O e 0):=by
   obtain⟨g,F⟩|⟨e,x,g,_⟩:=El y
   .omega
   exact⟨e,by injection g⟩
  obtain⟨H,rfl⟩:∃e,v=some (O e 0):=by
   obtain⟨g,F⟩|⟨e,x,g,_⟩:=El z
   .omega
   exact⟨e,by injection g⟩
  have K:f.cell? (O E a)=some (.string c[a]):=by rw[y.cellAt a Q];simp[sv,n]
  have L:f.cell? (O H a)=some (I d[a]):=by rw[z.cellAt a Q];simp[iv,o]
  have a0:(a:Int)<b:=Q
  by_cases l:c[a]=h
  .have m:Y (k=d[a]):=by rw[Y,q.out,p,G l]
   rw[l]at K;clear p l;generalize d[a]=e at*
   go_wp2;go_ret;exact⟨by rw[m.out];rfl,bp _ _⟩
  have a1:=aaw (by simpa using l);have m:Y (k=goalF j h (c.drop<|a+1) (d.drop<|a+1)):=by rw[Y,q.out,p,N l]
  generalize c[a]=a2 at*
  go_wp2;go_round
  .exact⟨a+1,Q,qJ,m⟩
  simp[intOf];omega
 have m:Y (k=j):=by rw[Y,q.out,yym<|by rw[s.1];omega];rfl
 go_wp2;go_ret;exact⟨by rw[m.out];rfl,bp _ _⟩
def Oc:Sem.run prog (convert 99 9<|aa W.heap.size 1 1) (W.alloc<|.cells #[.int .u8 i] 5)=.ok (.string<|ce [UInt8.ofNat i]) (W.alloc<|.cells #[.int .u8 i] 5):=by
 rw[run_convert_bytes_arg (P:=prog) _ 99 5 underlying99 underlying5 W.heap.size 0 1 1 [(i:Int)] rfl (λa b=>by
  rw[yya _ W.heap.size (0+a) _ 5 (0,0)<|heap_alloc_last W _];obtain rfl:a=0:=Q
  rfl) 9 underlying9]
 rfl
def Mu(N n:Nat)(s:ag):Prop:=(n=0/\s.size≠0/\Lib.decDigits N=Qjj s)\/(0<n/\Lib.decDigits N=Lib.decDigits n++Qjj s)
def Mu.step(h:Mu a b s)(i:0<b):Mu a (b/10) (ce [UInt8.ofNat<|48+b%10]++s):=by
 have f:(ce [UInt8.ofNat<|48+b%10]++s).size≠0:=by rw[uh];show 1+s.size≠0;omega
 have d:Qjj (ce [UInt8.ofNat<|48+b%10]++s)=UInt8.ofNat (48+b%10)::Qjj s:=by simp[Qjj,ce]
 obtain⟨j,c,_⟩|⟨_,c⟩:=h
 .omega
 by_cases e:b<10
 .rw[Lib.decDigits_one e]at c;refine .inl ⟨Q,f,?_⟩;rw[c,d,show b%10=b from Q];rfl
 have g:Lib.decDigits b=Lib.decDigits (b/10)++[UInt8.ofNat<|48+b%10]:=by rw[Lib.decDigits,dif_neg e]
 rw[g]at c;refine .inr ⟨Q,?_⟩;rw[c,d];simp
def amk(x:i<=1099511000000)(y:1<=i):
  Calls prog 140 #[.int .i64 i] W λj p=>j=.returned (.string<|itoa i)/\Below W.heap.size W p:=by
 go_in;go_wp21;go_loopw [0,3] (λe sv wr=>∃(a:Nat)(b:ag),e=I a/\sv=.string b/\b.size+a<=i+1/\Y (Mu i a b)/\Y (Below W.heap.size W wr)) (λe _ _=>(intOf e).toNat)
 .exact⟨i,⟨#[]⟩,rfl,rfl,by show 0+i<=i+1;omega,.inr ⟨Q,by simp[Qjj]⟩,bp _ _⟩
 obtain⟨a,b,rfl,rfl,u,f,g⟩:=hrel;have z:Int.tmod (a:Int) 10=((a%10:Nat):Int):=by rw[Int.tmod_eq_emod_of_nonneg Q];omega
 have q:Int.tdiv (a:Int) 10=((a/10:Nat):Int):=by rw[Int.tdiv_eq_ediv_of_nonneg Q];omega
 by_cases l:0<a
 .have k:=J<|f.step l;have v:∀c:ae,Sem.run prog (convert 99 9<|aa c.heap.size 1 1) (c.alloc<|.cells #[.int .u8<|48+((a%10:Nat):Int)] 5)=.ok (.string<|ce [UInt8.ofNat<|48+a%10]) (c.alloc<|.cells #[.int .u8<|48+((a%10:Nat):Int)] 5):=λc=>by
   have:=Oc (48+a%10) c;rwa[show((48+a%10:Nat):Int)=48+((a%10:Nat):Int)by omega]at this
  have r:∀d:ae,(Op.stringOp .add (ce [UInt8.ofNat<|48+a%10]) b).run prog d=.ok (.string<|ce [UInt8.ofNat<|48+a%10]++b) d:=λd=>yye (P:=prog) (w:=d) _ _ (by show 1+b.size<=_;omega)
  have t:a%10<10:=Nat.mod_lt _ Q;have w:(ce [UInt8.ofNat<|48+a%10]++b).size=1+b.size:=by rw[uh];rfl
  have hd:a/10+1<=a:=Q
  generalize ce [UInt8.ofNat<|48+a%10]=s at*
  generalize h:a%10=n at*
  generalize o:a/10=m at*
  have h:Below W.heap.size W (wr.alloc<|.cells #[.int .u8<|48+(n:Int)] 5):=g.alloc g.size _
  go_wp21;go_roundw
  .exact⟨m,_,rfl,rfl,Q,k,h⟩
  simp[intOf];omega
 have k:a=0:=Q
 subst k;have c:Y (itoa i=b/\b.size≠0):=by
  obtain⟨_,d,h⟩|⟨d,h⟩:=f
  .refine⟨?_,d⟩;rw[itoa,Lib.itoa,N,show((i:Int)).toNat=i from Q,h];rfl
  omega
 have d:=Hg c.2;go_wp21;go_ret;exact⟨by rw[c.1];rfl,g⟩
def Eg(s:ag)(sp:List (Int×Int))(k:Nat):ag:=if 0<=(sp.getD k (-1,-1)).1 then s.extract (sp.getD k (-1,-1)).1.toNat (sp.getD k (-1,-1)).2.toNat else⟨#[]⟩
def xl(t s:ag)(sp:List (Int×Int)):Nat->Nat->ag->ag
 |0,_,out=>out
 |f+1,i,out=>
  if i<t.size then
   if au t i=38 then xl t s sp f (i+1) (out++Eg s sp 0)
   else if au t i=92 then
    if 49<=au t (i+1)/\au t (i+1)<=57 then xl t s sp f (i+2) (out++Eg s sp (au t (i+1)-48))
    else xl t s sp f (i+2) (out++ce [UInt8.ofNat<|val<|au t<|i+1])
   else xl t s sp f (i+1) (out++ce [UInt8.ofNat<|au t i])
  else out
def Gc(t:ag)(n:Nat):Nat->Nat->Prop
 |0,_=>True
 |f+1,i=>
  i<t.size->
   if au t i=92 then i+1<t.size/\(49<=au t (i+1)->au t (i+1)<=57->au t (i+1)-48<n)/\Gc t n f (i+2)
   else Gc t n f (i+1)
def akf(s:ag)(sp:List (Int×Int)):Prop:=∀(k:Nat)(x y:Int),sp[k]?=some (x,y)->0<=x->x<=y/\y<=(s.size:Int)
def Sj:S++(⟨#[]⟩:ag)=S:=by
 apply va;simp
theorem an8(f:List (Int×Int))(l aE:Nat)(k:ae)(aW:S.size<=400)(aV:T.size<=1000)(a3:rx k l f)(a4:akf T f)(aF:0<f.length)(aN:f.length<=1001)(a1:Gc S f.length (S.size+1) 0):
  Calls prog 182 #[.string S,.string T,.slice (some ⟨l,0,none⟩) f.length aE] k λE aK=>E=.returned (.string<|xl S T f (S.size+1) 0 ⟨#[]⟩)/\Below k.heap.size k aK:=by
 have R:=J a3;have Z:=J a4;have a9:=J a1;obtain⟨B,a⟩:∃B,B=xl S T f (S.size+1) 0 ⟨#[]⟩:=⟨_,rfl⟩;rw[<-a];have aA:=J a;go_in;go_wp2_with fail;have F:l<k.heap.size:=by
  let⟨a,_⟩:=R.out 0 f[0].1 f[0].2<|dy aF;exact dw k _ a
 go_loopw [7,8] (λov iv wr=>∃(a e:Nat)(d:ag),ov=.string d/\iv=I a/\a<=S.size/\S.size+1<=e+a/\d.size<=1000*a/\Y (B=xl S T f e a d)/\Y (Gc S f.length e a)/\Y (Below k.heap.size k wr)) (λ_ iv _=>S.size+1-(intOf iv).toNat)
 .exact⟨0,S.size+1,⟨#[]⟩,rfl,rfl,ey _,ah,ah,aA,a9,bp _ _⟩
 obtain⟨a,e,d,rfl,rfl,aU,aT,aO,X,a8,h⟩:=hrel;by_cases H:a<S.size
 .obtain⟨e,rfl⟩:∃U,e=U+1:=⟨e-1,Q⟩;have A:=Cx S a H;have c:=X.out;have u:=a8 H;rw[xl,G H]at c;have aP:(a:Int)<S.size:=Q
  have aL:d.size<=400000:=by have:1000*a<=1000*400:=yzy ah Q;omega
  by_cases v:au S a=38
  .rw[G v]at c;rw[N]at u;have s:=J u;have aG:((S[a].toNat:Int)==38)=true:=by rw[A,v];rfl
   have a5:((S[a].toNat:Int)==92)=false:=by rw[A,v];rfl
   obtain⟨g,o,m⟩:∃g o,f[0]?=some (g,o):=⟨_,_,dy Q⟩;let⟨C,D,_,_⟩:=R.out _ g o m;have C:=(ac ((0)*2)<|h.block l F).trans C;have D:=(ac ((0)*2+1)<|h.block l F).trans D;have p:Y (Eg T f (0)=if 0<=g then T.extract g.toNat o.toNat else⟨#[]⟩):=by rw[Y,Eg,yz,m];rfl
   have y:=Z _ g o m;by_cases i:0<=g
   .let⟨L,aB⟩:=y i;rw[p.out,G i]at c;obtain⟨q,rfl⟩:=yyq i;obtain⟨r,rfl⟩:=yyq<|Int.le_trans i L;have j:=J c;have M:(T.extract q r).size<=1000:=by rw[lw];omega
    have t:(d++T.extract q r).size<=1000*(a+1):=by rw[uh];omega
    have K:∀b:ae,(Op.stringOp .add d<|T.extract q r).run prog b=.ok (.string<|d++T.extract q r) b:=λb=>yye (P:=prog) (w:=b) _ _ Q
    go_wp2_with fail;go_quiet (fail);go_wp2_with fail;go_roundw
    .exact⟨a+1,e,_,rfl,qJ,Q,Q,t,j,s,Nw h _⟩
    simp[intOf];omega
   rw[p.out,N i]at c;have j:Y (B=xl S T f e (a+1) d):=by rw[Y,c,Sj]
   go_wp2_with fail;go_roundw
   .grind
   simp[intOf];omega
  rw[N v]at c;have aG:((S[a].toNat:Int)==38)=false:=by rw[A];exact hh
  by_cases w:au S a=92
  .rw[G w]at c;rw[G w]at u;let⟨aC,P,qa⟩:=u;have a5:((S[a].toNat:Int)==92)=true:=by rw[A,w];rfl
   have s:=J qa;have a0:=Cx S (a+1) aC;have aM:(a:Int)+1<(S.size:Int):=Q
   have x:=λb=>Ew (au S<|a+1) b<|ms _ _
   have aQ:val (au S<|a+1)<256:=by
    unfold val;split
    .omega
    exact ms _ _
   by_cases hd:49<=au S (a+1)/\au S (a+1)<=57
   .rw[G hd]at c;have aI:=P hd.1 hd.2
    obtain⟨g,o,m⟩:∃g o,f[au S (a+1)-48]?=some (g,o):=⟨_,_,dy Q⟩;let⟨C,D,_,_⟩:=R.out _ g o m;have C:=(ac ((au S (a+1)-48)*2)<|h.block l F).trans C;have D:=(ac ((au S (a+1)-48)*2+1)<|h.block l F).trans D;have p:Y (Eg T f (au S (a+1)-48)=if 0<=g then T.extract g.toNat o.toNat else⟨#[]⟩):=by rw[Y,Eg,yz,m];rfl
    have y:=Z _ g o m;have W:=hd.1;have a2:=hd.2;have a6:decide (49<=au S (a+1))=true:=qK W
    have a7:decide (au S (a+1)<=57)=true:=qK a2
    have aJ:(0:Int)<=((au S (a+1)-48:Nat):Int):=Q
    have aR:((au S (a+1)-48:Nat):Int)<f.length:=Q
    have aS:(au S (a+1):Int)-48=((au S (a+1)-48:Nat):Int):=Q
    generalize val (au S<|a+1)=aD at*
    by_cases i:0<=g
    .let⟨L,aB⟩:=y i;rw[p.out,G i]at c;obtain⟨q,rfl⟩:=yyq i;obtain⟨r,rfl⟩:=yyq<|Int.le_trans i L;have j:=J c;have M:(T.extract q r).size<=1000:=by rw[lw];omega
     have t:(d++T.extract q r).size<=1000*(a+2):=by rw[uh];omega
     have K:∀b:ae,(Op.stringOp .add d<|T.extract q r).run prog b=.ok (.string<|d++T.extract q r) b:=λb=>yye (P:=prog) (w:=b) _ _ Q
     go_wp2_with fail;go_call x;rintro E V ⟨rfl,n⟩;have z:=n.symm;subst z;go_wp2_with fail;go_quiet (fail);go_wp2_with fail;go_roundw
     .exact⟨a+2,e,_,rfl,qJ,Q,Q,t,j,s,Nw h _⟩
     simp[intOf];omega
    have aH:decide (0<=g)=false:=qK i
    rw[p.out,N i]at c;have j:Y (B=xl S T f e (a+2) d):=by rw[Y,c,Sj]
    go_wp2_with fail;go_call x;rintro E V ⟨rfl,n⟩;have z:=n.symm;subst z;go_wp2_with fail;go_roundw
    .grind
    simp[intOf];omega
   rw[N hd]at c;have aD:au S (a+1)<49\/57<au S (a+1):=Q
   obtain a6|a7:=aD
   have aI:decide ((49:Int)<=(au S (a+1):Int))=false:=qB
   rotate_left
   have aI:decide ((au S (a+1):Int)<=57)=false:=qB
   all_goals
    have j:=J c;have a2:=Oc<|val<|au S<|a+1;have t:(d++ce [UInt8.ofNat<|val<|au S<|a+1]).size<=1000*(a+2):=by rw[uh];show _+1<=_;omega
    have K:∀b:ae,(Op.stringOp .add d<|ce [UInt8.ofNat<|val<|au S<|a+1]).run prog b=.ok (.string<|d++ce [UInt8.ofNat<|val<|au S<|a+1]) b:=λb=>yye (P:=prog) (w:=b) _ _ qE
    generalize ce [UInt8.ofNat<|val<|au S<|a+1]=W at*
    go_wp2_with fail;go_call x;rintro E V ⟨rfl,n⟩;have z:=n.symm;subst z;go_wp2_with fail;go_roundw
    .exact⟨a+2,e,_,rfl,qJ,Q,Q,t,j,s,h.alloc h.size _⟩
    simp[intOf];omega
  rw[N w]at c;rw[N w]at u;have s:=J u;have a5:((S[a].toNat:Int)==92)=false:=by rw[A];exact hh
  have j:=J c;have a2:=Oc<|au S a;have t:(d++ce [UInt8.ofNat<|au S a]).size<=1000*(a+1):=by rw[uh];show _+1<=_;omega
  have K:∀b:ae,(Op.stringOp .add d<|ce [UInt8.ofNat<|au S a]).run prog b=.ok (.string<|d++ce [UInt8.ofNat<|au S a]) b:=λb=>yye (P:=prog) (w:=b) _ _ qE
  generalize ce [UInt8.ofNat<|au S a]=W at*
  go_wp2_with fail;go_roundw
  .exact⟨a+1,e,_,rfl,qJ,Q,Q,t,j,s,h.alloc h.size _⟩
  simp[intOf];omega
 have c:Y (B=d):=by
  have b:=X.out;obtain⟨e,rfl⟩:∃U,e=U+1:=⟨e-1,Q⟩;rw[xl,N H]at b;exact b
 go_wp2_with fail;go_ret;exact⟨by rw[c.out];rfl,h⟩
