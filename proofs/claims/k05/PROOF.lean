import PyProof.Rows.All
import Wide.All
import OpenK.AllK
import Wide.FinOn
import KE.OsRunLaw
import KE.KIsAll
import KE.KTryMore
import HandS.ForMost
import HandS.Exc
import HandS.ExcInit
import HandS.ExcIs
import HandS.IsInst
import PyProof.ReprReads
import HandS.ExcField
import HandS.ExcOwn
import HandS.ExcValue
import HandS.Defaults
import HandS.Walk
import KE.GoesMore
import HandS.Gcd
import HandS.WordsExc
import KE.KMathGC
import HandS.Dict
import KE.KDictKeyed
import HandS.TupSets
import HandS.SetKeys
import HandS.TupAny
import HandS.TupMul
import HandS.Wide
import HandS.Style
import HandS.CallSlots
import HandS.OwnEq
import HandS.Property
import HandS.ClsMeth
import HandS.FStr
import KE.KCallOwn
import KE.KFmtOwn
import PyProof.InstNe
import HandS.Zip
import HandS.Codes
import KE.SortData
import KE.DataCmp
import PyProof.TupleOfSeq
import HandS.Conv
import HandS.TupLe
import KE.KeyNested
import HandS.SetBool
import HandS.TryMany
import HandS.StrSplit
import HandS.StrMore
import HandS.TryOnly
import HandS.SortKw
import KE.KMinBuiltin
import HandS.RaiseMore
import HandS.Star
import KE.KDictWalk
import HandS.DictComp
import KE.KDictCopyH
import KE.KRevSl
import KE.KSetDisp
import HandS.SetFor
import HandS.Strs
import KE.KDictPairs
import HandS.List
import PyProof.Rows.SortStr
import PySem.Challenge.RW_talkmeans_k05_numbers_that_are_refused
set_option Elab.async false
set_option maxRecDepth 100000
set_option maxHeartbeats 40000000
set_option linter.all false
set_option exponentiation.threshold 9000
section
open PySem PySem.W PySem.Calls PyProof.Rows
namespace K05
section
local macro_rules | `(tactic| refine $t:term) => `(tactic| contradiction)
set_option maxHeartbeats 0 in
theorem pre (h:False):PySem.W.OpenRow.Holds (PySem.W.OpenLaw.row PySem.Challenge.rw_talkmeans_k05_numbers_that_are_refused):=by
 k_headL
end
abbrev hR:PySem.W.OpenRow:=PySem.W.OpenLaw.row PySem.Challenge.rw_talkmeans_k05_numbers_that_are_refused
noncomputable def hAs:List Addr:=(pre.heap_1 { strHash:=fun _=>0,shareClass:=fun _=>0,mergeTok:=fun t=>t,idOf:=fun _=>0,idOfShared:=fun _ _=>0,followText:=fun _=>false,idOfImm:=fun _=>0 }).map (·.1)
noncomputable def hN0:List PySem.Str:=[PySem.Str.ofString "_wall",PySem.Str.ofString "TalkError",PySem.Str.ofString "InvalidTalk",PySem.Str.ofString "InvalidText",PySem.Str.ofString "InvalidNumbers",PySem.Str.ofString "is_int",PySem.Str.ofString "is_number",PySem.Str.ofString "is_number_word",PySem.Str.ofString "is_sequence",PySem.Str.ofString "is_pair",PySem.Str.ofString "is_value",PySem.Str.ofString "common_divisor",PySem.Str.ofString "common_multiple",PySem.Str.ofString "lowest",PySem.Str.ofString "as_pair",PySem.Str.ofString "checked_numbers",PySem.Str.ofString "even_tops",PySem.Str.ofString "means",PySem.Str.ofString "LONGEST_WEIGHT",PySem.Str.ofString "Talk",PySem.Str.ofString "first_wrong_row",PySem.Str.ofString "is_row_of",PySem.Str.ofString "normal_row",PySem.Str.ofString "rows_behind",PySem.Str.ofString "even_rows",PySem.Str.ofString "mixed_row",PySem.Str.ofString "_law_box",PySem.Str.ofString "_law_take",PySem.Str.ofString "_law_pick",PySem.Str.ofString "_law_rows",PySem.Str.ofString "_law_value",PySem.Str.ofString "_law_any",PySem.Str.ofString "_law_deep",PySem.Str.ofString "_law_is_whole",PySem.Str.ofString "_law_is_value"]
noncomputable def hN1:List PySem.Str:=[PySem.Str.ofString "_law_due",PySem.Str.ofString "_law_refused"]
noncomputable def hNames:List PySem.Str:=hN0++hN1
noncomputable def hV:Program:=PySem.W.view PySem.Challenge.pw_talkmeans_k05_numbers_that_are_refused [0,42]
theorem hEk:∀ P,hAs=(pre.heap_1 P).map (·.1):=by intro P; kernel_rfl
noncomputable abbrev hH:PySem.W.Hook:=PySem.W.kHook pre.heap_1 hAs hEk
noncomputable def hOb (s:PySem.W.SharedT):List (Option Obj):=hAs.map (HeadRun.getT s)
theorem hOb_eq (s:PySem.W.SharedT):hOb s=hH.obs s.abs:=List.map_congr_left fun a _=>HeadRun.getT_eq s a
set_option maxHeartbeats 0 in
theorem hRun:∀ w:World,HeadRun.RunEqI hR hV hH hOb 12000 hNames w:=by intro w; unfold HeadRun.RunEqI; kernel_rfl
end K05
end
namespace Tk
open PySem PySem.Spec PyProof.Rows L2
structure FnG (P:Program) (w:World) (K:PySem.W.Frag) (mg:Str→Option Value) (base:Heap) (CX:CXT) (k:Nat) (f:Addr) (fd:FuncData) (ps:List Str) (sp:Sp):Prop where
 arity:∀ vs H Q E,sp vs H Q E→vs.length=ps.length
 go:∀ (A:Around) (outer:List Env) (s:Shared) (H:Hp) (args:Args) (us:List Value) (vs:List V) (Q:VK) (E:XK),A.guards=some [] →
  Room k A→Env0 P w K mg base A outer s H→BindsTo s fd args (ps.zip us)→Vals vs us→sp vs H Q E →
   codeAny (model P w) A (.call (.ref f) args) (CR CX outer P w H s Q E) s
section
variable {P:Program} {w:World} {K:PySem.W.Frag} {mg:Str→Option Value} {base:Heap}
theorem okG {x qual:Str} {st:Stmt} {f:Addr} {fd:FuncData} {N ps:List Str} {k:Nat} {sp:Sp} (F:Fun K x qual st f fd) (S:FnScope N ps (defScope st)) (ar:∀ vs H Q E,sp vs H Q E→vs.length=ps.length)
  (body:∀ (cdv:Value) (A:Around) (outer:List Env) (s:Shared) (H:Hp) (vs:List V) (Q:VK) (E:XK),A.guards=some []→Room k (A.deeper (envOfC qual (defScope st) s.heap.objs.size f cdv))→sp vs H Q E →
   ∃ t,PSs (cxOf CX0 P w K mg base N qual (defScope st) f cdv A outer s H E).nox (defBody st) t∧t { nx:=fun _ H'=>Q .non H',rt:=Q } (start N vs) H) :
  FnG P w K mg base CX0 (k+1) f fd ps sp:=by
 refine ⟨ar,fun A outer s H args us vs Q E gd room env bnd rel ask=>?_⟩
 obtain ⟨oc,od,kV,doc,pm,an,cdv,ct,osl,efd,look,hcode⟩:=F.ex
 subst efd
 have KH:K.In s.heap:=env.mod.kin.keeps fun b o e=>(env.bs b o e).1
 have noLim:s.heap.NoLimit:=env.mod.nolimit.keeps fun b o e=>(env.bs b o e).1
 have kinds:∀ y∈ps.zip us,(defScope st).names.lookup y.1=some .local∨((defScope st).names.lookup y.1=some .cell∧((cellsFrom (s.heap.objs.size+1) (defScope st).names []).lookup y.1).isSome=true):=by
  rintro ⟨n,v⟩ hy
  have hn:n∈ps:=(List.of_mem_zip hy).1
  cases S.par n hn with
  | inl q=>exact Or.inl q
  | inr q=>exact Or.inr ⟨q,PySem.W.cellsFrom_some _ _ _ (Or.inl q)⟩
 refine codeAny_call_function room.depth (KH _ _ look) rfl S.co S.gen rfl (PySem.W.codeRec_of KH hcode) (bnd _ _ _ _ ?_)
 refine wpAny_newFunctionEnv_cells S.kind kinds fun env' he s1 x=>?_
 subst he
 refine ⟨noLim.keeps x.toInCall.keep,codeAny_func ?_⟩
 obtain ⟨t,tr,ans⟩:=body cdv A outer s H vs Q E gd (room.deeper _) ask
 have inv:=inv_start (CX:=CX0) (E:=E) S room.hd env (ar _ _ _ _ ask) rel x
 refine wpAny_mono (tr.nox.run [] s1 (start N vs) H _ inv ans) (fun fl s' out=>?_) fun e s' out=>out
 cases fl with
 | brk=>obtain ⟨_,_,_,q⟩:=out; exact q.elim
 | cont=>obtain ⟨_,_,_,q⟩:=out; exact q.elim
 | next=>obtain ⟨σ',H',J,q⟩:=out; exact ⟨V.non,H',J.os,J.bare,J.base,J.hok,rfl,q⟩
 | ret u=>obtain ⟨v,σ',H',J,rv,q⟩:=out; exact ⟨v,H',J.os,J.bare,J.base,J.hok,rv,q⟩
end
section
variable {X:Cx} {CX:CXT} {k:Nat} {f:Addr} {fd:FuncData} {ps:List Str} {sp:Sp} {dvs:List V} {ds:List Value} {E:XK} {x:Str} {p pos:Pos} {e:Expr} {es:List Expr} {t:TA}
def rRepr (K:PySem.W.Frag):List V→Hp→VK→Prop:=fun xs H Q =>
 ∃ (x:V) (d:PyData),xs=[x]∧Dp K H x d∧d.showable=true∧d.hasDict=false∧d.depth≤60∧d.shown.length+64≤sizeLine∧Q (.str d.shown) H
theorem call_repr (gd:X.A.guards=some []) (hu:X.A.units+64 < cLine):CallR X (.builtin "repr") (rRepr X.K):=by
 intro pins s σ H xs us Q I r h
 obtain ⟨x,d,rfl,dp,sh,nd,dd,sz,q⟩:=h
 obtain ⟨u,rfl,ru⟩:=vals1 r
 obtain ⟨as,rd⟩:=Dp.reads I d x u dp ru
 have fin:∀ (h':Heap) (t tk:Tok),(∀ b o,s.heap.get? b=some o→h'.get? b=some o)→EP X pins σ Q (Value.str d.shown t) { s with heap:=h',toks:=tk } :=
  fun h' t tk keep=>⟨V.str d.shown,H,I.kept keep,⟨t,rfl⟩,q⟩
 by_cases isR:isDisplay d=true
 ·obtain ⟨a,rfl⟩:=isRef_of_reads rd isR
  exact repr_of_reads' rd sh (PyData.noDict_hsm nd) gd (by omega) (fun _ _ e=>e) (fun h' t tk keep=>fin h' t tk keep) (by omega)
 ·have plain:∀ (y:Str),y=d.shown→EP X pins σ Q (Value.str y s.toks) { s with toks:=s.toks+1 }:=by
   rintro y rfl
   exact ⟨V.str d.shown,H,I.tok _,⟨_,rfl⟩,q⟩
  cases dp with
  | non=>cases ru; exact PySem.P.repr_of_none (plain _ rfl)
  | bl b=>cases ru; exact PySem.P.repr_of_bool (plain _ (by cases b <;> rfl))
  | int i=>obtain ⟨t,rfl⟩:=ru; exact PySem.P.repr_of_int (by simpa [PyData.showable] using sh) (plain _ rfl)
  | str y=>obtain ⟨t,rfl⟩:=ru; exact PySem.P.repr_of_str (plain _ rfl) (Nat.le_trans (Nat.le_add_right _ 64) sz)
  | lst _ _=>exact absurd rfl isR
  | tup _ _=>exact absurd rfl isR
end
section
variable {P:Program} {w:World} {K:PySem.W.Frag} {mg mb:Str→Option Value} {k:Nat} {fa a:Addr} {fd:FuncData} {x:Str} {sp:Sp} {s₁:Shared} {vs:List Value} {ns:List Int}
structure Ahead (K:PySem.W.Frag) (h:Heap) (a:Addr) (H:Hp):Prop where
 only:Only H
 one:∀ b,H b≠none→b=a
 free:H a≠none→K.lookup a=none
theorem Ahead.no {h:Heap} {H:Hp} (Z:Ahead K h a H) {b:Addr} (hb:b≠a):H b=none:=Classical.byContradiction fun q=>hb (Z.one b q)
theorem Ahead.mod {h:Heap} {H:Hp} (Z:Ahead K h a H) (hK:K.In h) (hm:h.Ns mainGlobals mg) (hbu:h.Ns builtinsNs mb) (hbb:∀ y:Str,y ≠ "__name__" → mb y=bootBuiltins y) (hl:h.NoLimit)
  {o:Obj} (ha:h.get? a=some o) (nd:∀ es ep,o.data≠.dict es ep):Mod K mg (hidT h H):=by
 have into:∀ {L:Addr} {m:Str→Option Value},h.Ns L m→(hidT h H).Ns L m:=by
  rintro L m ⟨u,es,ep,g1,g2,rest⟩
  have ne:L≠a:=by
   rintro rfl
   rw [ha] at g1
   cases g1
   exact nd es ep g2
  exact ⟨u,es,ep,hidT_get g1 (Z.no ne),g2,rest⟩
 have inK:K.In (hidT h H):=by
  intro b u hu
  refine hidT_get (hK b u hu) (Classical.byContradiction fun q=>?_)
  have e:=Z.one b q
  subst e
  rw [Z.free q] at hu
  cases hu
 obtain ⟨mc,l1,l2⟩:=hl
 exact ⟨inK,into hm,⟨mb,into hbu,hbb⟩,⟨mc,into l1,l2⟩⟩
theorem lawG (KX:K.In s₁.heap) (hm:s₁.heap.Ns mainGlobals mg) (hbu:s₁.heap.Ns builtinsNs mb) (hbb:∀ y:Str,y ≠ "__name__" → mb y=bootBuiltins y) (hlim:s₁.heap.NoLimit) (hgen:s₁.gens=#[])
  (ha:s₁.heap.get? a=some { cls:=.type "list",data:=.seq vs.toArray }) (hi:IntsAre vs ns) (hl:ns.length≤sizeLine) (hr:Room k callerA)
  (F:∀ base:Heap,K.In base→base.Ns mainGlobals mg→FnG P w K mg base CX0 k fa fd [x] sp) (bnd:∀ (s:Shared) (u:Value),BindsTo s fd ⟨[u],[]⟩ [(x,u)])
  (ask:∀ H:Hp,Only H→SqL K H a (ns.map V.int)→sp [.ref a] H (fun v _=>v=.bl true) fun _ _ _=>False) :
  codeAny (model P w) callerA (.call (.ref fa) ⟨[.ref a],[]⟩) (fun r s'=>r=.ok (.ret (.bool true))∧OldK s₁.heap s'.heap∧s'.os=s₁.os∧AllBare s'.gens) s₁:=by
 have rel:=vals_ints hi
 have from_:∀ H:Hp,Ahead K s₁.heap a H→SqL K H a (ns.map V.int)→HOk P w H s₁.heap →
   codeAny (model P w) callerA (.call (.ref fa) ⟨[.ref a],[]⟩) (fun r s'=>r=.ok (.ret (.bool true))∧OldK s₁.heap s'.heap∧s'.os=s₁.os∧AllBare s'.gens) s₁:=by
  intro H Z sq ok
  have M:Mod K mg (hidT s₁.heap H):=Z.mod KX hm hbu hbb hlim ha (fun es ep e=>by cases e)
  have env:Env0 P w K mg (hidT s₁.heap H) callerA [] s₁ H :=
   {frames:=rfl,mod:=M,bs:=fun b o e=>of_hidT e,bsz:=Nat.le_of_eq (hidT_size _ _),funs:=True.intro,frf:=fun b hb=>absurd hb List.not_mem_nil,hok:=ok,bare:=AllBare.of_eq hgen }
  refine codeAny_mono ((F _ M.kin M.glob).go callerA [] s₁ H ⟨[.ref a],[]⟩ [.ref a] [.ref a] _ _ rfl hr env (bnd s₁ (.ref a)) (.cons rfl .nil) (ask H Z.only sq)) ?_
  rintro (er | fl) s' out
  ·exact out.elim
  ·cases fl with
   | next=>exact out.elim
   | brk=>exact out.elim
   | cont=>exact out.elim
   | ret u =>
    obtain ⟨v,H',os,bare,un,ok',ru,rfl⟩:=out
    cases ru
    refine ⟨rfl,OldK.of_keep ?_,os,bare⟩
    intro b o e
    by_cases q:H b=none
    ·exact un.keep b o e q List.not_mem_nil List.not_mem_nil
    ·rcases Z.only b with z | ⟨ob,xs,z⟩
     ·exact absurd z q
     ·have e1:=(ok b _ z).1
      have e2:=(ok' b _ (un.frzs b ob _ z)).1
      rw [e1] at e
      cases e
      exact e2
 rcases hk:K.lookup a with _ | o
 ·refine from_ (fun b=>if b=a then some (.frz { cls:=.type "list",data:=.seq vs.toArray } (.lst (ns.map V.int))) else none) ⟨fun b=>?_,fun b q=>?_,fun _=>hk⟩ (.inl (.inr ⟨_,if_pos rfl⟩)) (fun b u z=>?_)
  ·by_cases hb:b=a
   ·exact .inr ⟨_,_,if_pos hb⟩
   ·exact .inl (if_neg hb)
  ·exact Classical.byContradiction fun hb=>q (if_neg hb)
  ·dsimp only at z
   by_cases hb:b=a
   ·subst hb
    rw [if_pos rfl] at z
    cases z
    exact ⟨ha,by rw [List.length_map]; exact hl,vs,_,rel,ha⟩
   ·rw [if_neg hb] at z
    cases z
 ·have e:=KX a o hk
  rw [ha] at e
  cases e
  exact from_ (fun _=>none) ⟨fun _=>.inl rfl,fun b q=>absurd rfl q,fun q=>absurd rfl q⟩ (.inr ⟨_,vs.toArray,_,hk,rfl,rfl,rfl,by rw [List.size_toArray,hi.length]; exact hl,by simpa using rel⟩) (fun b u z=>by cases z)
end
theorem walkG {l:PySem.W.OpenLaw} {k:Nat} {q:Program} {loose:List Str} {XP:(Str→Option Value)→Heap→Prop} {YP:World→Heap→Prop} {d:DefRec} {K:Params→PySem.W.Frag} {sp:PySem.W.Frag→Sp} {x:Str}
  (hn:l.most=some 63) (hdf:d.params.defaults=[]) (hr:Room k callerA) (hY:∀ (w:World) (h:Heap),YP w h→(K w.params).In h)
  (F:∀ (w:World) (mg:Str→Option Value) (fa:Addr) (h:Heap),(K w.params).In h→h.Ns mainGlobals mg→mg d.name=some (.ref fa) →
   ∃ fd:FuncData,(∀ (s:Shared) (u:Value),BindsTo s fd ⟨[u],[]⟩ [(x,u)])∧∀ base:Heap,(K w.params).In base→base.Ns mainGlobals mg→FnG l.prog w (K w.params) mg base CX0 k fa fd [x] (sp (K w.params)))
  (ask:∀ (K:PySem.W.Frag) (H:Hp) (a:Addr) (ns:List Int),ns.length≤63→Only H→SqL K H a (ns.map V.int)→sp K [.ref a] H (fun v _=>v=.bl true) fun _ _ _=>False) :
  PySem.W.WalkO q loose XP YP l.row.toRowW d [] (fun f vs=>PySem.call f vs):=by
 refine Att.attach_call hn hdf ?_
 intro w s₀ s₁ mg mb fa o pm cd doc a vs ns G Y ho hd hcd hmg hobj hints hlen hgen
 have KX:=hY w _ Y
 obtain ⟨fd,bnd,hF⟩:=F w mg fa _ KX G.T.g hmg
 exact lawG KX G.T.g G.T.b G.T.builtins G.T.nolimit hgen hobj hints (Nat.le_trans hlen (by decide)) hr hF bnd (fun H hO hS=>ask _ H a ns hlen hO hS)
end Tk
namespace PySem
namespace HandSPX
open Builtin Builtin.ObjectAttr
structure Tail (bm:List Value) (Bn:String):Prop where
 has:bm.contains (.type Bn)=true
 na:bm.contains (.type "AttributeError")=false
 nn:bm.contains (.type "NameError")=false
section
variable {M:Model} {A:Around} {E:Value→Shared→Prop} {h:Heap} {g:Array GenState} {d:Drawn} {t:Nat} {os:OsState} {prog:Program} {w:World} {R:Result→Shared→Prop}
variable {nm q:Str} {C N:Addr} {bs bm bmN:List Value} {hdct:Bool} {sn:List Str} {sub:List Value} {ab:Bool} {col:Option Bool} {dd:Option Addr} {k0 k1 k2 k3 k5:Option Value} {Bn newId initId:String}
end
end HandSPX
end PySem
namespace PySem
namespace HandSPX
open Builtin Builtin.ObjectAttr
section
variable {prog:Program} {w:World} {A:Around} {E:Value→Shared→Prop} {R:Result→Shared→Prop} {hp:Heap} {g:Array GenState} {d:Drawn} {t:Nat} {os:OsState}
theorem storeK {K:W.Frag} {name:Str} {tk:Tok} {v:Value} {x C:Addr} {fv:Array Value} {cd:ClassData} (X:K.In hp) (hx:hp.get? x=some { cls:=.ref C,data:=.fields fv }) (hcd:W.clsIn K C=some cd)
  (pass:∀ self,refuseLoop self "__setattr__" cd.mro=pure ()) (ob:cd.mro.contains (.type "object")=true) (ne:cd.mro.isEmpty=false) (hh:cd.hasDict=true) (ha:W.findIn K (.ref C) name=some none)
  (fin:∀ h' tk' dx,(∀ b o,b≠x→hp.get? b=some o→h'.get? b=some o)→hp.objs.size≤dx→dx≠x→h'.get? x=some { cls:=.ref C,dict:=some dx,data:=.fields fv } →
   h'.Ns1 dx (fun y=>if y=name then some v else none)→R (.ok (.ret .none)) ⟨h',g,d,tk',os⟩) :
  codeAny (model prog w) A (.call (.builtin "object.__setattr__") ⟨[.ref x,.str name tk,v],[]⟩) R ⟨hp,g,d,t,os⟩:=by
 have I:W.InstAt hp x { cls:=.ref C,data:=.fields fv } C none:=⟨hx,rfl,rfl,trivial⟩
 have SO:=F.store_object
 have xs:x≠hp.objs.size:=Nat.ne_of_lt (Heap.lt_size hx)
 have sb:W.Looks (model prog w) hp (isInstance (.ref x) (.type "object")) true:=I.type.andThen (W.looks_mroIn X (by unfold W.mroIn; rw [hcd,Option.bind_some,if_neg (by rw [ne]; decide),ob]))
 have mro_:W.Looks (model prog w) hp (mroOf (.ref C)) cd.mro:=(W.looks_clsIn X hcd).andThen .now
 have taker:W.Looks (model prog w) hp (storeTaker? none) none:=.now
 have clsD:W.Looks (model prog w) hp (classData C) cd:=W.looks_clsIn X hcd
 refine codeAny_call_builtin SO.slot.plain SO.entry (@W.check_slot (model prog w) _ _ ⟨hp,g,d,t,os⟩ "object.__setattr__" "object" "__setattr__" (.ref x) [.str name tk,v] [] _ SO.kind SO.split sb (SO.args (.ref x) (.str name tk) v) ?_)
 rw [W.osa_eq,refuse_eq]
 refine wpAny_bind (wpAny_bind (I.type.at (wpAny_bind (mro_.at ?_))))
 rw [pass]
 refine wpAny_pure (wpAny_bind (I.type.at (wpAny_bind ((W.looks_findIn X ha).at (wpAny_bind (taker.at ?_))))))
 show wpAny _ _ (storeInOwnDict (.ref x) (.ref C) (.str name tk) name v false) _ _ _
 obtain ⟨nm,bs,mro,ns,qn,hd,sn,sb',ab,col,del⟩:=cd
 dsimp only at hh
 subst hh
 unfold storeInOwnDict ownDictForStores
 repeat (first | with_reducible refine store_in_new ?_ ?_ | with_reducible refine wpAny_loadPart_at hx ?_ | with_reducible refine clsD.at ?_ | wp_step)
 ·exact ⟨_,#[],_,(Heap.get?_update_ne _ _ _ _ xs.symm).trans (Heap.get?_push_at rfl rfl),rfl,fun e he=>absurd he (by simp),fun _=>rfl⟩
 ·intro h' tk' hn' sm
  have old:(hp.push { cls:=.type "dict",data:=.dict #[] }).get? x=some { cls:=.ref C,data:=.fields fv }:=Heap.get?_push_of_some _ hx
  refine fin h' tk' hp.objs.size ?_ (Nat.le_refl _) xs.symm ((sm.2 x xs).trans (Heap.get?_update_self _ old rfl)) hn'
  intro b o hb ho
  exact (sm.2 b (Nat.ne_of_lt (Heap.lt_size ho))).trans ((Heap.get?_update_ne _ _ _ _ hb).trans (Heap.get?_push_of_some _ ho))
end
end HandSPX
end PySem
namespace Tk
open PySem PySem.Spec PyProof.Rows L2
structure OxC (K:PySem.W.Frag) (C:Addr):Prop where
 cls:∃ nm q N bs bm sn sub ab col dd k0 k1 k2 k3 k5 Bn newId initId bmN,K.lookup C=some (excClassObj nm q C N bs bm true sn sub ab col dd k0 k1 k2 k3 k5 newId)∧ExcBaseFacts Bn newId initId bmN∧PySem.HandSPX.Tail bm Bn ∧
  (∀ self,refuseLoop self "__setattr__" (.ref C :: bm)=pure ())∧(Value.ref C :: bm).contains (.type "object")=true
 sa:PySem.W.findIn K (.ref C) "__setattr__" = some (some (.builtin "object.__setattr__"))
 kC:PySem.W.keepIn K (.ref C)=true
section
variable {X:Cx} {pins:List (Addr×Obj)} {σ:L2.St} {H:Hp} {s:Shared} {a C:Addr} {f:Str} {y:V} {u:Value} {Q:Unit→Shared→Prop} {E:Value→Shared→Prop} {A:Around}
theorem exo_other {e C:Addr} {d:Option Addr} {H:Hp} (h:H e=some (exo e C d)) {b:Addr} {o:HO} (hb:H b=some o) (n:∀ φ,o≠.ext φ):b≠e:=by
 rintro rfl
 rw [h] at hb
 exact n _ (Option.some.inj hb).symm
theorem setFirst (T:OxC X.K C) (I:Inv X pins σ H s) (e:H a=some (exo a C none)) (no:PySem.W.findIn X.K (.ref C) f=some none) (ry:RelV y u)
  (fin:∀ dx s',H dx=none→dx≠a→Inv X pins σ (upd (upd H dx (exd dx [(f,y)])) a (exo a C (some dx))) s'→Q () s'):wpAny (model X.prog X.w) A (setAttr (.ref a) f u) Q E s:=by
 obtain ⟨nm,q,N,bs,bm,sn,sub,ab,col,dd,k0,k1,k2,k3,k5,Bn,newId,initId,bmN,hC,_,_,pass,hob⟩:=T.cls
 have cd:PySem.W.clsIn X.K C=some { name:=nm,bases:=bs,mro:=.ref C :: bm,ns:=N,qualname:=q,hasDict:=true,slotNames:=sn,subclasses:=sub,abstract:=ab,collection:=col,hasDel:=false }:=by
  unfold PySem.W.clsIn
  rw [hC] <;> rfl
 obtain ⟨t1,ho⟩:=exo_at I.hok e
 obtain ⟨hp,g,dr,tk,os⟩:=s
 refine PySem.W.set_plain I.kIn (ox:=PySem.HandSPX.excO C t1) (od:=none) ⟨ho,rfl,rfl,trivial⟩ T.sa ?_
 refine PySem.HandSPX.storeK I.kIn ho cd pass hob rfl rfl no ?_
 intro h' tk' dx keep big ne hx hn
 have fresh:H dx=none:=I.hok.fresh big
 have offA:∀ {b:Addr},H b=none→b≠a:=by
  rintro b n rfl
  rw [e] at n
  cases n
 have offD:∀ {b:Addr} {o:HO},H b=some o→b≠dx:=fun q=>ne_of_none q fresh
 have same:∀ {b:Addr} {o:HO},H b=some o→(∀ φ,o≠.ext φ)→upd (upd H dx (exd dx [(f,y)])) a (exo a C (some dx)) b=some o:=fun q n=>by
  rw [upd_ne (exo_other e q n),upd_ne (offD q)]
  exact q
 have UN:Un X.fs [] H (upd (upd H dx (exd dx [(f,y)])) a (exo a C (some dx))) hp h' :=
  {keep:=fun b o q n _ _=>keep b o (offA n) q
   slot:=fun b o q n _ _=>⟨o.slots,keep b o (offA n) q⟩
   free:=fun b o q n _=>by
    have hb:b≠dx:=Nat.ne_of_lt (Nat.lt_of_lt_of_le (Heap.lt_size q) big)
    rw [upd_ne (offA n),upd_ne hb]
    exact n
   there:=fun b o q _=>by
    rcases Nat.decEq b a with hb | hb
    ·exact ⟨o,keep b o hb q⟩
    ·exact ⟨_,hb ▸ hx⟩
   tups:=fun b xs q=>same q (fun φ z=>by cases z)
   frzs:=fun b o v q=>same q (fun φ z=>by cases z)
   tbls:=fun b ps q=>⟨#[],by rw [same q (fun φ z=>by cases z)]; simp⟩ }
 refine fin dx _ fresh ne (I.un (t':=tk') UN ?_)
 intro b o q
 rcases Nat.decEq b a with hb | hb
 ·rw [upd_ne hb] at q
  rcases Nat.decEq b dx with hd | hd
  ·rw [upd_ne hd] at q
   refine (I.hok b o q).stay (fun c v hc z=>keep c v ?_ z) (fun c hc=>same hc (fun φ z=>by cases z)) (fun c xs hc=>same hc (fun φ z=>by cases z))
   rcases hc with rfl | hc
   ·exact hb
   ·exact exo_other e hc (fun φ z=>by cases z)
  ·subst hd
   rw [upd_same] at q
   cases q
   exact exd_ok hn (relO_put (fs:=[]) ry fun _=>True.intro)
 ·subst hb
  rw [upd_same] at q
  cases q
  exact exo_ok hx
end
def tFirst (K:PySem.W.Frag) (f:Str) (to te:TE):TS:=fun D σ H=>te σ H fun y H1=>to σ H1 fun x H2=>∃ a C:Addr,x=.ref a∧OxC K C∧PySem.W.findIn K (.ref C) f=some none∧H2 a=some (exo a C none) ∧
 ∀ dx,H2 dx=none→dx≠a→D.nx σ (upd (upd H2 dx (exd dx [(f,y)])) a (exo a C (some dx)))
theorem ps_first {X:Cx} {o e:Expr} {to te:TE} {f:Str} {p pos:Pos} (ho:PE X o to) (he:PE X e te) (hs:swapsWith e (some (.Attribute o f p)) pos.line X.env=pure false:=by rfl):PS X (.Assign [.Attribute o f p] e pos) (tFirst X.K f to te):=by
 constructor
 intro pins s σ H D I h
 refine plainObj_wpAny_Assign_Attribute (thn (he.run pins s σ H _ I h) ?_) hs
 rintro v s1 ⟨y,H1,I1,r1,q1⟩
 refine thn (ho.run pins s1 σ H1 _ I1 q1) ?_
 rintro u s2 ⟨x,H2,I2,r2,a,C,rfl,T,no,ea,q⟩
 cases r2
 exact setFirst T I2 ea no r1 fun dx s' n ne J=>⟨σ,_,J,q dx n ne⟩
def spInit (K:PySem.W.Frag) (f:Str):Sp:=fun vs H Q _=>∃ (a C:Addr) (y:V),vs=[.ref a,y]∧OxC K C∧PySem.W.findIn K (.ref C) f=some none∧H a=some (exo a C none) ∧
 ∀ dx,H dx=none→dx≠a→Q .non (upd (upd H dx (exd dx [(f,y)])) a (exo a C (some dx)))
section
variable {X:Cx} {pins:List (Addr×Obj)} {σ:L2.St} {H:Hp} {s:Shared} {C fI:Addr} {f nm:Str} {y:V} {u:Value} {k:Nat} {fd:FuncData} {Q:VK}
end
section
variable {X:Cx} {C fI:Addr} {f nm x:Str} {k:Nat} {fd:FuncData} {e:Expr} {t:TA} {p pos kp:Pos}
end
section
variable {K:PySem.W.Frag} {D x:Addr} {ox:Obj} {od:Option Obj}
open PySem.Calls PySem.W in
theorem kitxV (c:ExcC K D) (hob:clsIn K D≠none):KitX K (.ref x) (.ref D) (fun h=>InstAt h x ox D od):=by
 have found:findObj K D od "__class__" = some (.bind (.builtin "getset_descriptor.__get__") (.builtin "object.__class__")):=by
  obtain ⟨cd,hc,_⟩:=any_some c.hd
  unfold findObj
  rw [hc,Option.bind_some,c.ha,Option.bind_some]
  simp [c.hn,c.ht]
 refine ⟨fun _ _ _ I=>I.type,?_,?_,?_⟩
 ·intro M h X _ A Q E s k q
  unfold isType loadHead
  cases e:clsIn K D with
  | none=>exact absurd e hob
  | some cd =>
   unfold clsIn at e
   split at e
   ·rename_i ho
    exact wpAny_bind (wpAny_loadPart (k _ _ (X _ _ ho)) (wpAny_pure q))
   ·cases e
 ·intro h tp dd its n sl X htp
  cases e:clsIn K D with
  | none=>exact absurd e hob
  | some cd =>
   unfold clsIn at e
   split at e
   ·rename_i ho
    refine Bool.eq_false_iff.mpr fun q=>?_
    obtain rfl:D=tp:=Value.ref.inj (beq_iff_eq.mp q)
    rw [X _ _ ho] at htp
    cases htp
   ·cases e
 ·intro prog w A E Q s X I fin
  obtain ⟨hp,g,d,t,os⟩:=s
  have ty:=I.type (M:=model prog w)
  have lk1:=looks_findIn (M:=model prog w) X c.hg
  have lk2:=looks_findIn (M:=model prog w) X c.hk
  have lk3:=looks_find (M:=model prog w) X I found
  have sb:Looks (model prog w) hp (isInstance (.ref x) (.type "BaseException")) true:=ty.andThen (looks_subIn X c.hs)
  have n0:(Value.builtin "BaseException.__getattribute__" == Value.builtin "object.__getattribute__")=false:=by decide +kernel
  have n1:(onTheHeap (Value.ref D) && Value.builtin "BaseException.__getattribute__" == Value.builtin "object.__getattribute__")=false:=by rw [n0]; rfl
  have n2:(false && onTheHeap (Value.builtin "BaseException.__getattribute__"))=false:=rfl
  unfold getAttr? getAttrBy? getAttrBy
  refine wpAny_bind (wpAny_mkText (wpAny_bind (wpAny_attempt (wpAny_holding (wpAny_bind (ty.at (wpAny_bind (lk1.at ?_))))))))
  show wpAny _ _ (if (onTheHeap (Value.ref D) && Value.builtin "BaseException.__getattribute__" == Value.builtin "object.__getattribute__")=true then _ else _) _ _ _
  rw [n1,if_neg Bool.false_ne_true]
  unfold getAttrByItsOwn hookBefore
  refine wpAny_bind ?_
  rw [if_pos (show onTheHeap (Value.ref D)=true from rfl)]
  refine lk2.at (wpAny_bind (wpAny_attempt (wpAny_holding ?_)))
  unfold callGetattribute
  rw [n2,if_neg Bool.false_ne_true]
  unfold boundAndCalled
  rw [PySem.F.excAttr_ValueError.ga.bind (.ref x)]
  refine wpAny_bind (wpAny_pure ?_)
  show wpAny _ _ (call (.builtin "BaseException.__getattribute__") [.ref x,.str "__class__" t]) _ _ _
  refine wpAny_call (codeAny_call_builtin PySem.F.excAttr_ValueError.ga.plain PySem.F.entry_bexc_ga ?_)
  refine @check_slot (model prog w) _ _ ⟨hp,g,d,t+1,os⟩ "BaseException.__getattribute__" "BaseException" "__getattribute__" (.ref x) [.str "__class__" t] [] _ (by decide +kernel) (by decide +kernel) sb (PySem.F.args_bexc_ga (.ref x) (.str "__class__" t)) ?_
  unfold Builtin.«object.__getattribute__»
  refine wpAny_bind (wpAny_of_eq (a:=((Value.ref x:Value),[Value.str "__class__" t])) (by first | rfl | (simp only [slotArgs]; rfl)) ?_)
  refine wpAny_bind (wpAny_pure (wpAny_bind (ty.at (wpAny_bind (lk3.at ?_)))))
  show wpAny _ _ (holding [Value.builtin "object.__class__"] (call (.builtin "getset_descriptor.__get__") [.builtin "object.__class__",.ref x,.ref D]) >>= ret) _ _ _
  refine wpAny_bind (wpAny_holding (wpAny_call (class_get (s:=⟨hp,g,d,t+1,os⟩) (ox:=ox) (od:=od) X I c.hm (wpAny_pure ?_))))
  show wpAny _ _ (handedOut (.ref D)) _ _ _
  rw [handedOut_of (v:=.ref D) rfl]
  first
   | exact wpAny_pure (wpAny_pure fin)
   | exact wpAny_pure fin
   | exact wpAny_pure (wpAny_bind (wpAny_pure (wpAny_pure fin)))
end
mutual
inductive Da (S:Addr→Prop) (H:Hp):V→PyData→Prop
 | non:Da S H .non .none
 | bl (b:Bool):Da S H (.bl b) (.bool b)
 | int (i:Int):Da S H (.int i) (.int i)
 | str (x:Str):Da S H (.str x) (.str x)
 | lst {p:Addr} {xs:List V} {ds:List PyData}:S p→H p=some (.lst xs)→DaAll S H xs ds→Da S H (.ref p) (.list ds)
 | tup {p:Addr} {xs:List V} {ds:List PyData}:S p→H p=some (.tup xs)→DaAll S H xs ds→Da S H (.ref p) (.tuple ds)
inductive DaAll (S:Addr→Prop) (H:Hp):List V→List PyData→Prop
 | nil:DaAll S H [] []
 | cons {v:V} {vs:List V} {d:PyData} {ds:List PyData}:Da S H v d→DaAll S H vs ds→DaAll S H (v :: vs) (d :: ds)
end
section
variable {S S':Addr→Prop} {H H':Hp} {K:PySem.W.Frag}
mutual
theorem Da.dp:∀ (d:PyData) (v:V),Da S H v d→Dp K H v d
 | .none,_,h=>by cases h; exact .non
 | .bool b,_,h=>by cases h; exact .bl b
 | .int i,_,h=>by cases h; exact .int i
 | .str x,_,h=>by cases h; exact .str x
 | .list ds,_,h=>by
  cases h with
  | lst _ e r=>exact .lst (SqL.of e) (DaAll.dp ds _ r)
 | .tuple ds,_,h=>by
  cases h with
  | tup _ e r=>exact .tup (SqT.of e) (DaAll.dp ds _ r)
 | .dict _,_,h=>by cases h
theorem DaAll.dp:∀ (ds:List PyData) (vs:List V),DaAll S H vs ds→DpAll K H vs ds
 | [],_,h=>by cases h; exact .nil
 | d :: ds,_,h=>by
  cases h with
  | cons x r=>exact .cons (Da.dp d _ x) (DaAll.dp ds _ r)
end
mutual
theorem Da.to (k:∀ b o,S b→H b=some o→H' b=some o):∀ (d:PyData) (v:V),Da S H v d→Da S H' v d
 | .none,_,h=>by cases h; exact .non
 | .bool b,_,h=>by cases h; exact .bl b
 | .int i,_,h=>by cases h; exact .int i
 | .str x,_,h=>by cases h; exact .str x
 | .list ds,_,h=>by
  cases h with
  | lst n e r=>exact .lst n (k _ _ n e) (DaAll.to k ds _ r)
 | .tuple ds,_,h=>by
  cases h with
  | tup n e r=>exact .tup n (k _ _ n e) (DaAll.to k ds _ r)
 | .dict _,_,h=>by cases h
theorem DaAll.to (k:∀ b o,S b→H b=some o→H' b=some o):∀ (ds:List PyData) (vs:List V),DaAll S H vs ds→DaAll S H' vs ds
 | [],_,h=>by cases h; exact .nil
 | d :: ds,_,h=>by
  cases h with
  | cons x r=>exact .cons (Da.to k d _ x) (DaAll.to k ds _ r)
end
mutual
theorem Da.weak (k:∀ b,S b→S' b):∀ (d:PyData) (v:V),Da S H v d→Da S' H v d
 | .none,_,h=>by cases h; exact .non
 | .bool b,_,h=>by cases h; exact .bl b
 | .int i,_,h=>by cases h; exact .int i
 | .str x,_,h=>by cases h; exact .str x
 | .list ds,_,h=>by
  cases h with
  | lst n e r=>exact .lst (k _ n) e (DaAll.weak k ds _ r)
 | .tuple ds,_,h=>by
  cases h with
  | tup n e r=>exact .tup (k _ n) e (DaAll.weak k ds _ r)
 | .dict _,_,h=>by cases h
theorem DaAll.weak (k:∀ b,S b→S' b):∀ (ds:List PyData) (vs:List V),DaAll S H vs ds→DaAll S' H vs ds
 | [],_,h=>by cases h; exact .nil
 | d :: ds,_,h=>by
  cases h with
  | cons x r=>exact .cons (Da.weak k d _ x) (DaAll.weak k ds _ r)
end
theorem DaAll.length:∀ {vs:List V} {ds:List PyData},DaAll S H vs ds→vs.length=ds.length
 | _,_,.nil=>rfl
 | _,_,.cons _ r=>congrArg Nat.succ r.length
end
structure Fine (m k:Nat) (d:PyData):Prop where
 shows:d.showable=true
 plain:d.hasDict=false
 dep:d.depth≤k
 len:d.shown.length≤m
 lay:d.canLay0=true
theorem Fine.mono {m k m' k':Nat} {d:PyData} (f:Fine m k d) (h1:m≤m') (h2:k≤k'):Fine m' k' d:=⟨f.shows,f.plain,Nat.le_trans f.dep h2,Nat.le_trans f.len h1,f.lay⟩
theorem Fine.none:Fine 4 0 .none:=⟨rfl,rfl,Nat.le_refl _,by decide +kernel,rfl⟩
theorem Fine.bool (b:Bool):Fine 5 0 (.bool b):=⟨rfl,rfl,Nat.le_refl _,by cases b <;> decide +kernel,rfl⟩
theorem fine_all {m k:Nat}:∀ {ds:List PyData},(∀ d∈ds,Fine m k d)→PyData.showableAll ds=true∧PyData.hasDictAll ds=false∧PyData.depthAll ds≤k∧piled (PyData.shownAll ds)≤(m+2) * ds.length∧PyData.canLayAll0 ds=true
 | [],_=>⟨rfl,rfl,Nat.zero_le _,Nat.zero_le _,rfl⟩
 | d :: ds,h=>by
  obtain ⟨a1,a2,a3,a4,a5⟩:=fine_all (ds:=ds) fun e he=>h e (List.mem_cons_of_mem _ he)
  have f:=h d List.mem_cons_self
  refine ⟨?_,?_,?_,?_,?_⟩
  ·simp only [PyData.showableAll,f.shows,a1,Bool.and_self]
  ·simp only [PyData.hasDictAll,f.plain,a2,Bool.or_self]
  ·simp only [PyData.depthAll]
   exact Nat.max_le.mpr ⟨f.dep,a3⟩
  ·have l:=f.len
   simp only [PyData.shownAll,piled_cons,List.length_cons,Nat.mul_add,Nat.mul_one]
   omega
  ·simp only [PyData.canLayAll0,f.lay,a5,Bool.and_self]
theorem listText_le (ts:List Str):(listText ts).length≤piled ts+2:=by
 cases ts with
 | nil=>decide +kernel
 | cons t r =>
  have h:=textFrom_length_pos r 1 (("[" : Str)++(if (0:Nat) > 0 then ", " else "" : String)++t) (Nat.succ_pos 0)
  have e:(listText (t :: r)).length=(textFrom 1 (("[" : Str)++(if (0:Nat) > 0 then ", " else "" : String)++t) r).length+1:=by
   show (textFrom 0 "[" (t :: r) ++ "]").length=_
   rw [strLen_append]; rfl
  have e2:((("[" : Str)++(if (0:Nat) > 0 then ", " else "" : String)++t)).length=1+t.length:=by
   rw [strLen_append,strLen_append]; rfl
  rw [e,h,e2,piled_cons]
  omega
theorem tupleText_le (ts:List Str):(tupleText ts).length≤piled ts+2:=by
 have close:(((if ts.length == 1 then ",)" else ")" : String):Str)).length≤2:=by split <;> decide +kernel
 have opn:((("(" : String):Str)).length=1:=rfl
 by_cases h:ts=[]
 ·subst h
  decide +kernel
 ·have j:=join_length_add ts h
  unfold tupleText
  rw [strLen_append,strLen_append,opn]
  omega
theorem Fine.list {m k:Nat} {ds:List PyData} (h:∀ d∈ds,Fine m k d):Fine ((m+2) * ds.length+2) (k+1) (.list ds):=by
 obtain ⟨a1,a2,a3,a4,a5⟩:=fine_all h
 refine ⟨by simpa [PyData.showable] using a1,by simpa [PyData.hasDict] using a2,?_,?_,by simpa [PyData.canLay0] using a5⟩
 ·simp only [PyData.depth]; omega
 ·simp only [PyData.shown]
  exact Nat.le_trans (listText_le _) (by omega)
theorem Fine.tuple {m k:Nat} {ds:List PyData} (h:∀ d∈ds,Fine m k d):Fine ((m+2) * ds.length+2) (k+1) (.tuple ds):=by
 obtain ⟨a1,a2,a3,a4,a5⟩:=fine_all h
 refine ⟨by simpa [PyData.showable] using a1,by simpa [PyData.hasDict] using a2,?_,?_,by simpa [PyData.canLay0] using a5⟩
 ·simp only [PyData.depth]; omega
 ·simp only [PyData.shown]
  exact Nat.le_trans (tupleText_le _) (by omega)
end Tk
namespace PySem
open AutoSeq1 (wpAny_loadPart')
theorem meets_enumT (l:Addr) (items:Array Value) (n:Nat) (dct:Option Addr) (sl:Array (Option Value)) :
  Meets (Builtin.«enumerate.__new__» ⟨[.type "enumerate",.ref l],[]⟩) (fun _ R s=>s.heap.get? l=some { cls:=.type "tuple",dict:=dct,data:=.seq items n,slots:=sl } ∧
   R (.ok (.ret (.ref (s.heap.push { cls:=.type "tuple_iterator",data:=.fields #[.ref l,.int 0 0] }).objs.size)))
    {s with heap:=(s.heap.push { cls:=.type "tuple_iterator",data:=.fields #[.ref l,.int 0 0] }).push { cls:=.type "enumerate",data:=.fields #[.none,.bool false,.ref s.heap.objs.size,rawInt 0,.none,.none] } }) :=
 .of_wp fun prog w A R s h=>by
  obtain ⟨hp,g,d,tk,os⟩:=s
  obtain ⟨hl,fin⟩:=h
  have sb:=sub_enumerate
  have isT:Heap.IsTuple (Shared.heap ⟨hp,g,d,tk,os⟩) l items:=⟨_,hl,rfl,n,rfl⟩
  wp_walk using wpAny_loadPart' hl
  refine wpAny_stack_any fun _=>wpAny_pure ?_
  split
  ·rename_i c _ _ _ _ _
   cases (c == Value.type "enumerate") <;>
   ·wp_walk using wpAny_loadPart' hl,wpAny_pyIter_tuple isT
    exact ⟨_,rfl,fin⟩
  ·wp_walk using wpAny_loadPart' hl,wpAny_pyIter_tuple isT
   exact ⟨_,rfl,fin⟩
theorem call_enumT {prog:Program} {w:World} {A:Around} {E:Value→Shared→Prop} {s:Shared} {l:Addr} {items:Array Value} {Q:Value→Shared→Prop} (isT:s.heap.IsTuple l items)
  (fin:∀ h',IsEnum h' (s.heap.objs.size+1) s.heap.objs.size 0 .none→h'.IsTupleIter s.heap.objs.size l 0→h'.objs.size=s.heap.objs.size+2 →
   (∀ b o,s.heap.get? b=some o→h'.get? b=some o)→Q (.ref (s.heap.objs.size+1)) { s with heap:=h' }) :
  wpAny (model prog w) A (call (.type "enumerate") [.ref l]) Q E s:=by
 obtain ⟨⟨c,dct,dt,sl⟩,hl,hc,n,hd⟩:=isT
 obtain rfl:c=.type "tuple" := hc
 obtain rfl:dt=.seq items n:=hd
 refine callType_new F.called_enumerate (by decide) (F.typeCall_enumerate_1 _) (F.newCall_enumerate_1 _) (fun obj=>F.args_object_init_2 obj _) F.entry_enumerate_new (meets_enumT l items n dct sl) ⟨hl,?_⟩
 have z:(s.heap.push { cls:=.type "tuple_iterator",data:=.fields #[.ref l,.int 0 0] }).objs.size=s.heap.objs.size+1:=Heap.size_push ..
 show _∧_
 rw [z]
 have en:IsEnum ((s.heap.push { cls:=.type "tuple_iterator",data:=.fields #[.ref l,.int 0 0] }).push { cls:=.type "enumerate",data:=.fields #[.none,.bool false,.ref s.heap.objs.size,rawInt 0,.none,.none] }) (s.heap.objs.size+1) s.heap.objs.size 0 .none:=by
  have g:=Heap.get?_push_size (s.heap.push { cls:=.type "tuple_iterator",data:=.fields #[.ref l,.int 0 0] }) (o:={ cls:=.type "enumerate",data:=.fields #[.none,.bool false,.ref s.heap.objs.size,rawInt 0,.none,.none] }) rfl
  rw [z] at g
  exact g
 exact ⟨⟨_,en,rfl⟩,fin _ en ⟨_,Heap.get?_push_of_some _ (Heap.get?_push_size _ rfl),rfl,rfl⟩ (by rw [Heap.size_push,z]) fun b o x=>Heap.get?_push_of_some _ (Heap.get?_push_of_some _ x)⟩
end PySem
namespace Tk
open PySem PySem.Spec PyProof.Rows L2
def SqE (K:PySem.W.Frag) (H:Hp) (a:Addr) (xs:List V):Prop:=SqL K H a xs∨SqT K H a xs
def At (H:Hp) (a:Addr):Hp→Prop:=fun H'=>∀ o,H a=some o→H' a=some o
theorem At.list {K:PySem.W.Frag} {H H':Hp} {a:Addr} {xs:List V} (h:SqL K H a xs) (k:At H a H'):SqL K H' a xs:=by
 rcases h with (h | ⟨o,h⟩) | h
 ·exact .inl (.inl (k _ h))
 ·exact .inl (.inr ⟨o,k _ h⟩)
 ·exact .inr h
theorem At.tup {K:PySem.W.Frag} {H H':Hp} {a:Addr} {xs:List V} (h:SqT K H a xs) (k:At H a H'):SqT K H' a xs:=by
 rcases h with (h | ⟨o,h⟩) | h
 ·exact .inl (.inl (k _ h))
 ·exact .inl (.inr ⟨o,k _ h⟩)
 ·exact .inr h
def IteT (K:PySem.W.Frag) (a:Addr):It :=
 ⟨fun i H=>∃ (xs:List V) (x:V),SqT K H a xs∧xs[i]?=some x,fun i H v H'=>∃ T x,v=.ref T∧H T=none∧H'=upd H T (.tup [.int (i:Nat),x])∧∀ xs,SqT K H a xs→xs[i]?=some x,fun i H=>∃ xs:List V,SqT K H a xs∧xs.length≤i⟩
theorem turnT {P:Program} {w:World} {K:PySem.W.Frag} {elts:List Expr} {kk:Nat} {tpos:Pos} (a e it:Addr) :
  Turn P w K (.Tuple elts kk tpos) (IteT K a) [e,it] e (fun i h=>(∃ old,IsEnum h e it ((i:Nat):Int) old)∧h.IsTupleIter it a i∧e≠it) where
 mem:=List.mem_cons_self
 obj:=by
  rintro i h ⟨⟨old,he⟩,⟨o,ho,hc,hd⟩,_⟩ b hb
  rcases List.mem_cons.mp hb with rfl | hb
  ·exact ⟨_,he,fun v q=>nomatch q⟩
  ·obtain rfl:=List.mem_singleton.mp hb
   exact ⟨o,ho,fun v q=>by rw [hd] at q; cases q⟩
 keep:=by
  rintro i h h' ⟨⟨old,he⟩,hi,hne⟩ k
  exact ⟨⟨old,k e List.mem_cons_self _ he⟩,hi.at fun o q=>k it (by simp) o q,hne⟩
 item:=by
  intro X hP hw hK hc i pins s σ H E I hf st hg
  subst hP hw hK
  obtain ⟨⟨old,he⟩,hit,hne⟩:=st
  obtain ⟨xs,x,hq,hx⟩:=hg
  obtain ⟨its,rv,isT,_⟩:=I.tuple hq
  obtain ⟨u,hu,ru⟩:=rv.get hx
  have isT':s.heap.IsTuple a its.toArray:=isT
  have le:e < s.heap.objs.size:=Heap.lt_size he
  have li:it < s.heap.objs.size:=by
   obtain ⟨_,q,_⟩:=hit
   exact Heap.lt_size q
  have ai:a≠it:=by
   rintro rfl
   obtain ⟨o1,q1,c1,_⟩:=hit
   obtain ⟨o2,q2,c2,_⟩:=isT'
   rw [q1] at q2
   cases q2
   rw [c1] at c2
   injection c2 with z
   exact absurd z (by decide)
  have ae:e∉[it,a]:=by
   intro m
   rcases List.mem_cons.mp m with q | m
   ·exact hne q
   ·obtain rfl:=List.mem_singleton.mp m
    obtain ⟨o2,q2,c2,_⟩:=isT'
    rw [he] at q2
    cases q2
    injection c2 with z
    exact absurd z (by decide)
  have lt:i < its.toArray.size:=by
   have:=(List.getElem?_eq_some_iff.mp hu).1
   simpa using this
  have hand:X.A.in1.handled=none:=I.ok.hd hc
  refine wpAny_pyNext_enum_itemD (Draws.tuple hand it a ai its.toArray) he ⟨hit,isT'⟩ lt hne ae ?_
  intro y h' tk hy out st' tupN sz keep
  obtain rfl:u=y:=by
   have hy':its.toArray[i]?=some y:=hy
   rw [List.getElem?_toArray,hu] at hy'
   exact Option.some.inj hy'
  refine ⟨_,rfl,wpAny_letOwnedTupleGo_enum (s:={ s with heap:=h',toks:=tk+1 }) out fun h'' he' sb=>?_⟩
  have tup2:h''.get? s.heap.objs.size=some { cls:=.type "tuple",data:=.seq #[.int i tk,u] }:=(sb.2 _ (Nat.ne_of_gt le)).trans tupN
  have new:ObjOk X.prog X.w (upd H s.heap.objs.size (.tup [.int (i:Nat),x])) h'' s.heap.objs.size (.tup [.int (i:Nat),x]) :=
   ⟨by show 2≤sizeLine; decide,[.int i tk,u],.cons ⟨_,rfl⟩ (.cons ru .nil),⟨_,tup2,rfl,_,rfl⟩⟩
  have old_:∀ b ob,b∉[e,it]→s.heap.get? b=some ob→h''.get? b=some ob:=fun b ob hb q =>
   (sb.2 b (fun z=>hb (by simp [z]))).trans (keep b ob (fun z=>hb (by simp [z])) (fun z=>hb (by simp [z])) q)
  refine ⟨.ref s.heap.objs.size,_,I.turnedNew (ch:=[e,it]) old_ hf (Nat.le_refl _) new,rfl,⟨_,x,rfl,I.hok.fresh (Nat.le_refl _),rfl,?_⟩,⟨⟨u,?_⟩,st'.1.at fun o q=>(sb.2 it (Ne.symm hne)).trans q,hne⟩,?_⟩
  ·intro ys hy
   rw [I.tuple_inj hy hq]
   exact hx
  ·have e1:((i+1:Nat):Int)=(i:Int)+1:=by omega
   rw [e1]
   exact he'
  ·intro b hb
   have lb:b < s.heap.objs.size:=by
    rcases List.mem_cons.mp hb with rfl | hb
    ·exact le
    ·obtain rfl:=List.mem_singleton.mp hb
     exact li
   rw [upd_ne (Nat.ne_of_lt lb)]
   exact (hf b hb).1
 done:=by
  intro X hP hw hK hc i pins s σ H E I hf st hg
  subst hP hw hK
  obtain ⟨⟨old,he⟩,hit,hne⟩:=st
  obtain ⟨xs,hq,hx⟩:=hg
  obtain ⟨its,rv,isT,_⟩:=I.tuple hq
  obtain ⟨f0,f1,f2,f3,f4,f5⟩:=hf it (by simp)
  have isT':s.heap.IsTuple a its.toArray:=isT
  have hand:X.A.in1.handled=none:=I.ok.hd hc
  have none_:its.toArray[i]?=none:=by
   have:=rv.length
   simp
   omega
  have D:Draws X.prog X.w X.A.in1 it [it,a] i (fun _ _=>False) (fun j h=>j=i∧h.IsTupleIter it a i∧h.IsTuple a its.toArray) :=
   {live:=fun _ _ st=>let ⟨o,ho,_⟩:=st.2.1; ⟨o,ho⟩
    frame:=fun _ _ _ st hk=>⟨st.1,st.2.1.at fun o e=>hk it (by simp) o e,st.2.2.at fun o e=>hk a (by simp) o e⟩
    item:=fun j s Q E lt st=>absurd st.1 (Nat.ne_of_lt lt)
    done:=fun s Q E st hE=>wpAny_nextOf_tuple_end hand st.2.1 st.2.2 none_ hE }
  exact wpAny_pyNext_enum_endD D he ⟨rfl,hit,isT'⟩ fun h' eb=>⟨rfl,I.turned (t':=s.toks) (fun b o hb q=>eb b o hb q) f0 f1 f3 f4 f5⟩
 self:=by
  rintro A i s Q E ⟨⟨_,he⟩,_⟩ h
  exact wpAny_pyIter_enum he h
theorem walkT {K:PySem.W.Frag} {a:Addr} {xs:List V}:Walk (IteT K a) xs.length (fun H=>SqT K H a xs) (YPair (fun i=>some (.int (i:Nat))) (fun i=>xs[i]?)):=by
 refine ⟨fun i _ hi q=>⟨xs,xs[i],q,by simp [hi]⟩,fun _ q=>⟨xs,q,Nat.le_refl _⟩,fun i H v H' _ q y=>?_⟩
 obtain ⟨T,x,h1,h2,h3,h4⟩:=y
 exact ⟨T,.int (i:Nat),x,h1,h2,h3,rfl,h4 xs q⟩
theorem seqT_same {K:PySem.W.Frag} {H H':Hp} {a:Addr} {xs:List V} (e:Same H H') (h:SqT K H a xs):SqT K H' a xs:=At.tup h fun o q=>e _ _ q
section
variable {K:PySem.W.Frag} {H H':Hp}
mutual
theorem dp_keep (k:Same H H'):∀ (d:PyData) (v:V),Dp K H v d→Dp K H' v d
 | .none,_,h=>by cases h; exact .non
 | .bool b,_,h=>by cases h; exact .bl b
 | .int i,_,h=>by cases h; exact .int i
 | .str x,_,h=>by cases h; exact .str x
 | .list ds,_,h=>by
  cases h with
  | lst e r=>exact .lst (k.seq e) (dpAll_keep k ds _ r)
 | .tuple ds,_,h=>by
  cases h with
  | tup e r=>exact .tup (seqT_same k e) (dpAll_keep k ds _ r)
 | .dict _,_,h=>by cases h
theorem dpAll_keep (k:Same H H'):∀ (ds:List PyData) (vs:List V),DpAll K H vs ds→DpAll K H' vs ds
 | [],_,h=>by cases h; exact .nil
 | d :: ds,_,h=>by
  cases h with
  | cons x r=>exact .cons (dp_keep k d _ x) (dpAll_keep k ds _ r)
end
end
def kindOf:PyData→String
 | .none => "NoneType"
 | .bool _ => "bool"
 | .int _ => "int"
 | .str _ => "str"
 | .list _ => "list"
 | .tuple _ => "tuple"
 | .dict _ => "dict"
def isI:PyData→Bool | .int _=>true | _=>false
def rIsS (K:PySem.W.Frag) (C a:Addr) (cls:Value) (d:Option Addr):List V→Hp→VK→Prop:=fun xs H Q=>∃ (c:V) (u:Value) (b:Bool) (dd:Addr) (fs:List (Str×V)),xs=[.ref a,c]∧cls=.ref C∧ClsV c u∧d=some dd∧H dd=some (.xd fs)∧PySem.W.kitOne K (.ref C) u=some b∧Q (.bl b) H
theorem call_isS {X:Cx} {a C:Addr} {oe:Obj} {cls:Value} {d:Option Addr} {pn:List (Addr×Obj)} (ec:ExcC X.K C) (hz:Zc cls d oe) (hf:∃ vs,oe.data=.fields vs):CallR (X.suite a ((a,oe) :: pn)) (.builtin "isinstance") (rIsS X.K C a cls d):=by
 intro pins s σ H xs us Q I r h
 obtain ⟨c,u,b,dd,fs,rfl,hcl,cv,rfl,ed,kit,q⟩:=h
 subst hcl
 obtain ⟨u1,u2,rfl,r1,r2⟩:=vals2 r
 cases r1
 obtain rfl:=cv.eq r2
 have hob:PySem.W.clsIn X.K C≠none:=by
  obtain ⟨cd,hc,_⟩:=PySem.W.any_some ec.hd
  rw [hc]
  simp
 obtain ⟨at_,_⟩:=I.pin (a,oe) (List.mem_append_left _ List.mem_cons_self)
 obtain ⟨vs,hd⟩:=hf
 have ox:ObjOk X.prog X.w H s.heap dd (.xd fs):=I.hok dd _ ed
 obtain ⟨mA,hns,_⟩:=ox
 obtain ⟨od,ho,_⟩:=lookIn_ns hns
 have inst:PySem.W.InstAt s.heap a oe C (some od):=⟨at_,hz.1,by unfold PySem.W.notCls; rw [hd] <;> rfl,by rw [hz.2]; exact ho⟩
 exact PySem.W.kia_one (kitxV (od:=some od) ec hob) I.kIn inst kit (fun z=>nomatch z) fun tk=>⟨.bl b,H,I.tok tk,rfl,q⟩
end Tk
namespace Tk
open PySem PySem.Spec PyProof.Rows L2
theorem lcm_log {a b k:Nat} (ha:a < 2 ^ k) (hb:b < 2 ^ k):(Nat.lcm a b).log2≤2 * k :=
 PySem.W.mg_log (Nat.lt_of_le_of_lt (Nat.le_trans (PySem.W.mc_lcm_le a b) (Nat.mul_le_mul (Nat.le_of_lt ha) (Nat.le_of_lt hb))) (by
  rw [← Nat.pow_add]
  exact Nat.pow_lt_pow_right (by decide) (by omega)))
theorem log_max1 {a k:Nat} (ha:a < 2 ^ k):(max 1 a).log2≤k:=PySem.W.mg_log (by
 have h1:1≤2 ^ k:=Nat.one_le_two_pow
 have h2:2 ^ (k+1)=2 ^ k * 2:=Nat.pow_succ ..
 omega)
theorem log_max {a b k:Nat} (ha:a < 2 ^ k) (hb:b < 2 ^ k):(max a b).log2≤k:=PySem.W.mg_log (by
 have h2:2 ^ (k+1)=2 ^ k * 2:=Nat.pow_succ ..
 omega)
def rLcmL:List V→Hp→VK→Prop:=fun vs H Q=>∃ a b:Int,vs=[.int a,.int b]∧a.natAbs.log2 < 12000∧b.natAbs.log2 < 12000∧Q (.int ((Nat.lcm a.natAbs b.natAbs:Nat):Int)) H
theorem lt_of_log {a k:Nat} (h:a.log2 < k):a < 2 ^ k:=Nat.lt_of_lt_of_le Nat.lt_log2_self (Nat.pow_le_pow_right (by decide) h)
theorem mc_lcmL {prog:Program} {w:World} {A:Around} {E:Value→Shared→Prop} {s:Shared} {Q:Value→Shared→Prop} {a b:Int} {t u:Tok} {k:Nat} (hk:k≤12000) (ha:a.natAbs < 2 ^ k) (hb:b.natAbs < 2 ^ k)
  (h:Q (.int ((a.natAbs.lcm b.natAbs:Nat):Int) s.toks) { s with toks:=s.toks+1 }):wpAny (model prog w) A (call (.builtin "math.lcm") [.int a t,.int b u]) Q E s:=by
 have h1:=log_max1 ha
 have h2:=log_max ha hb
 have h3:=lcm_log ha hb
 have hl:((((Nat.lcm 1 a.natAbs).lcm b.natAbs:Nat):Int)).natAbs.log2 < bitsLine:=by
  rw [PySem.W.mc_lcm_one]
  show (a.natAbs.lcm b.natAbs).log2 < 134217728
  omega
 have g:=PySem.W.mg_run_lcm a t b u (by omega) (by omega) hl
 rw [PySem.W.mc_lcm_one] at g
 exact call_function_meets PySem.W.MGF.kind_lcm PySem.W.MGF.plain_lcm PySem.W.MGF.entry_lcm (PySem.W.MGF.args_lcm _ _) g.meets h
theorem cr_lcmL {X:Cx}:CallR X (.builtin "math.lcm") rLcmL:=by
 intro pins s σ H vs us Q I r h
 obtain ⟨a,b,rfl,ha,hb,q⟩:=h
 obtain ⟨t,u,rfl⟩:=Vals.int2 r
 generalize e:12000=k at ha hb
 exact mc_lcmL (Nat.le_of_eq e.symm) (lt_of_log ha) (lt_of_log hb) ⟨.int _,H,I.tok _,⟨_,rfl⟩,q⟩
theorem sum_rawT {pr:Program} {wo:World} {Ar:Around} {Er:Value→Shared→Prop} {st:Shared} {tp:Addr} {us:List Value} {ks:List Int} {R:Value→Shared→Prop}
  (calm:Ar.handled=none) (tup:st.heap.IsTuple tp us.toArray) (whl:IntsAre us ks)
  (fin:∀ g n u,(∀ c o,st.heap.get? c=some o→g.get? c=some o)→R (.int ks.sum u) { st with heap:=g,toks:=n }) :
  wpAny (model pr wo) Ar (call (.builtin "sum") [.ref tp]) R Er st:=by
 rcases whl.allInts.items with ⟨zs,ez⟩
 have sums:numsOf (intItems zs).toList=ks:=ez ▸ whl.numsOf
 rw [ez] at tup
 have old:tp < st.heap.objs.size:=tup.elim fun _ z=>Heap.lt_size z.1
 have still:(st.heap.push { cls:=.type "tuple_iterator",data:=.fields #[.ref tp,.int 0 0] }).IsTuple tp (intItems zs) :=
  tup.elim fun o z=>⟨o,Heap.get?_push_of_some _ z.1,z.2⟩
 have walk:=Walks.tuple (prog:=pr) (w:=wo) (A:=Ar.in1) calm _ tp (Nat.ne_of_lt old) (intItems zs)
 refine call_sum_walkG (wpAny_pyIter_tuple tup ⟨_,_,_,_,_,_,numAt zs,rfl,walk,⟨⟨_,Heap.get?_push_size _ rfl,rfl,rfl⟩,still⟩,?_,(fun _ _=>intItems_at),?_⟩)
 ·intro c hc
  rw [Heap.size_push]
  rcases List.mem_cons.mp hc with z | z
  ·exact z ▸ Nat.lt_succ_self _
  ·exact List.mem_singleton.mp z ▸ Nat.lt_succ_of_lt old
 ·intro g n u kept
  have whole:preSum (numAt zs) (intItems zs).size=ks.sum:=by
   rw [← sums,nums_intItems,preSum_eq,List.take_of_length_le]
   simp [intItems]
  rw [whole]
  refine fin g n u fun c o z=>kept c o (fun m=>?_) (Heap.get?_push_of_some _ z)
  have:=Heap.lt_size z
  rw [List.mem_singleton.mp m] at this
  exact Nat.lt_irrefl _ this
def rSumE (K:PySem.W.Frag):List V→Hp→VK→Prop:=fun vs H Q=>∃ (a:Addr) (ns:List Int),vs=[V.ref a]∧SqE K H a (ns.map V.int)∧Q (.int ns.sum) H
theorem cr_sumE {X:Cx} (hc:X.calm=true):CallR X (.builtin "sum") (rSumE X.K):=by
 intro pins s σ H vs us Q I r h
 obtain ⟨a,ns,rfl,hs,q⟩:=h
 rcases hs with hs | hs
 ·exact cr_sum hc pins s σ H _ us Q I r ⟨a,ns,rfl,hs,q⟩
 ·obtain ⟨its,rv,hl,_⟩:=I.tuple hs
  rw [Vals.ref1 r]
  exact sum_rawT (I.ok.hd hc) (show s.heap.IsTuple a its.toArray from hl) rv.ints fun h' tk t' hk=>⟨.int _,H,I.kept hk,⟨_,rfl⟩,q⟩
end Tk
namespace Pl
open PySem PySem.Spec PyProof.Rows L2 Tk
inductive KK where
 | K | T
inductive D where
 | non | bl (b:Bool) | int (i:Int) | str (x:Str)
 | lst (l:List D) | tup (l:List D) | wri (l:List D) | obj (c:Nat) (l:List D)
 | ty (n:String) | cls (c:Nat)
 | dic (k:KK) (ks vs:List D)
inductive MO where
 | lst (l:List D) | ins (c:Nat) (fs:List (Str×D)) | dct (k:KK) (l:List (D×D)) | lls (l:List (List D)) | dls (k:KK) (l:List (D×List D)) | set (k:KK) (l:List D)
inductive SV where
 | dat (d:D) | own (m:MO) | lck (m:MO)
inductive RV where
 | dat (d:D) | own (m:MO) | bor (i:Nat) | shr (i:Nat)
abbrev Sl:=List (Option SV)
structure Cl where
 adr:Nat→Addr
 att:Nat→List Str
 w:World
 p:Program
def KD:Key→D
 | .inl i=>.int i
 | .inr x=>.str x
mutual
def nestD:D→Option NestedKey
 | .int i=>some (.num i)
 | .str x=>some (.text x)
 | .tup l=>(nestsD l).map .tup
 | _=>none
def nestsD:List D→Option (List NestedKey)
 | []=>some []
 | d :: ds=>match nestD d,nestsD ds with
  | some k,some ks=>some (k :: ks)
  | _,_=>none
end
def keyD:D→Option Key
 | .int i=>some (.inl i)
 | .str x=>some (.inr x)
 | _=>none
def keysD:List D→Option (List Key)
 | []=>some []
 | d :: ds=>match keyD d,keysD ds with
  | some k,some ks=>some (k :: ks)
  | _,_=>none
structure SetN0 (w:World) (a:Addr) (L:List (Addr×NestedKey)) (h:Heap):Prop where
 ex:∃ es ep t,(∃ o,h.get? a=some o∧o.ExactSet∧o.data=.set es ep t)∧es.toList=L.map (fun p=>(p.2.hash w,Value.ref p.1))∧TabOk t (L.map fun p=>p.2.hash w)∧(L.map (·.2)).Nodup∧(w.params.followText "set-order" = true∨t.led=true)∧L.length * 5 < t.mask * 3∧L.length < 64
def SetNw (w:World) (a:Addr) (L:List (Addr×NestedKey)):HO:=.ext (SetN0 w a L)
def DNok (w:World) (a:Addr) (L:List (NestedKey×Addr×V)) (h:Heap):Prop :=
 ∃ (xs:List (NestedKey×Addr×Value)) (o:Obj) (es:Array DictEntry) (ep:Nat),Paired (fun (p:NestedKey×Addr×V) (q:NestedKey×Addr×Value)=>p.1=q.1∧p.2.1=q.2.1∧RelV p.2.2 q.2.2) L xs ∧
  h.get? a=some o∧o.ExactDict∧o.data=.dict es ep∧es.toList=xs.map (fun x=>⟨x.1.hash w,.ref x.2.1,x.2.2⟩)∧(xs.map (·.1)).Nodup∧xs.length≤sizeLine∧(a == sysModules)=false
def DN (w:World) (a:Addr) (L:List (NestedKey×Addr×V)):HO:=.ext (DNok w a L)
def DictIs (w:World) (k:KK) (u:HO) (a:Addr) (ps:List (D×V×V)):Prop:=match k with
 | .K=>∃ kvs:List (Key×V),u=.dK kvs∧ps=kvs.map fun p=>(KD p.1,kV p.1,p.2)
 | .T=>∃ L:List (NestedKey×Addr×V),u=DN w a L∧(∀ x∈L,x.1.depth≤8)∧ps.map (fun p=>(nestD p.1,p.2.1,p.2.2))=L.map fun x=>(some x.1,V.ref x.2.1,x.2.2)
def ValsOf (od:Obj) (as:List Addr):Prop:=∃ es ep,od.data=.dict es ep∧es.toList.map (·.val)=as.map Value.ref
mutual
inductive Rep (K:PySem.W.Frag) (C:Cl) (F:Hp):V→D→Prop
 | non:Rep K C F .non .non
 | bl (b:Bool):Rep K C F (.bl b) (.bl b)
 | int (i:Int):Rep K C F (.int i) (.int i)
 | str (x:Str):Rep K C F (.str x) (.str x)
 | ty (n:String):Rep K C F (.ty n) (.ty n)
 | cls (c:Nat):Rep K C F (.ref (C.adr c)) (.cls c)
 | lst {p:Addr} {xs:List V} {ds:List D}:F p=some (.lst xs)→Reps K C F xs ds→Rep K C F (.ref p) (.lst ds)
 | wri {p:Addr} {xs:List V} {ds:List D}:SqL K F p xs→Reps K C F xs ds→Rep K C F (.ref p) (.wri ds)
 | tup {p:Addr} {xs:List V} {ds:List D}:SqT K F p xs→Reps K C F xs ds→Rep K C F (.ref p) (.tup ds)
 | dic {p:Addr} {k:KK} {od:Obj} {u:HO} {ps:List (D×V×V)} {ks vs:List D}:F p=some (.frz od u)→DictIs C.w k u p ps→ps.map (·.1)=ks→Reps K C F (ps.map (·.2.1)) ks→Reps K C F (ps.map (·.2.2)) vs→Rep K C F (.ref p) (.dic k ks vs)
 | obj {p dx:Addr} {fs:List (Str×V)} {ds:List D} {c:Nat}:F p=some (.ins (C.adr c) dx fs)→fs.map (·.1)=C.att c→Reps K C F (fs.map (·.2)) ds→Rep K C F (.ref p) (.obj c ds)
inductive Reps (K:PySem.W.Frag) (C:Cl) (F:Hp):List V→List D→Prop
 | nil:Reps K C F [] []
 | cons {v:V} {vs:List V} {d:D} {ds:List D}:Rep K C F v d→Reps K C F vs ds→Reps K C F (v :: vs) (d :: ds)
end
theorem Same.tup {K:PySem.W.Frag} {H H':Hp} {a:Addr} {xs:List V} (e:Same H H') (h:SqT K H a xs):SqT K H' a xs:=by
 rcases h with (h | ⟨o,h⟩) | h
 ·exact .inl (.inl (e _ _ h))
 ·exact .inl (.inr ⟨o,e _ _ h⟩)
 ·exact .inr h
section
variable {K:PySem.W.Frag} {C:Cl} {F F' H H':Hp}
mutual
theorem Rep.mono (s:Same F F'):∀ (d:D) (v:V),Rep K C F v d→Rep K C F' v d
 | .non,_,h=>by cases h; exact .non
 | .bl b,_,h=>by cases h; exact .bl b
 | .int i,_,h=>by cases h; exact .int i
 | .str x,_,h=>by cases h; exact .str x
 | .ty n,_,h=>by cases h; exact .ty n
 | .cls c,_,h=>by cases h; exact .cls c
 | .lst ds,_,h=>by cases h with | lst e r=>exact .lst (s _ _ e) (Reps.mono s ds _ r)
 | .wri ds,_,h=>by cases h with | wri e r=>exact .wri (s.seq e) (Reps.mono s ds _ r)
 | .tup ds,_,h=>by cases h with | tup e r=>exact .tup (Same.tup s e) (Reps.mono s ds _ r)
 | .obj c ds,_,h=>by cases h with | obj e n r=>exact .obj (s _ _ e) n (Reps.mono s ds _ r)
 | .dic k ks vs,_,h=>by cases h with | dic e i n r q=>exact .dic (s _ _ e) i n (Reps.mono s ks _ r) (Reps.mono s vs _ q)
theorem Reps.mono (s:Same F F'):∀ (ds:List D) (vs:List V),Reps K C F vs ds→Reps K C F' vs ds
 | [],_,h=>by cases h; exact .nil
 | d :: ds,_,h=>by cases h with | cons x r=>exact .cons (Rep.mono s d _ x) (Reps.mono s ds _ r)
end
theorem Rep.to {d:D} {v:V} (h:Rep K C F v d) (s:Same F F'):Rep K C F' v d:=Rep.mono s d v h
theorem Reps.to {ds:List D} {vs:List V} (h:Reps K C F vs ds) (s:Same F F'):Reps K C F' vs ds:=Reps.mono s ds vs h
theorem Reps.length:∀ {vs:List V} {ds:List D},Reps K C F vs ds→vs.length=ds.length
 | _,_,.nil=>rfl
 | _,_,.cons _ r=>congrArg Nat.succ r.length
theorem Reps.snoc:∀ {vs:List V} {ds:List D} {v:V} {d:D},Reps K C F vs ds→Rep K C F v d→Reps K C F (vs++[v]) (ds++[d])
 | _,_,_,_,.nil,x=>.cons x .nil
 | _,_,_,_,.cons y r,x=>.cons y (r.snoc x)
theorem Reps.append:∀ {vs us:List V} {ds es:List D},Reps K C F vs ds→Reps K C F us es→Reps K C F (vs++us) (ds++es)
 | _,_,_,_,.nil,x=>x
 | _,_,_,_,.cons y r,x=>.cons y (r.append x)
theorem Reps.get:∀ {vs:List V} {ds:List D} {i:Nat} {v:V},Reps K C F vs ds→vs[i]?=some v→∃ d,ds[i]?=some d∧Rep K C F v d
 | _,_,_,_,.nil,e=>by simp at e
 | _,_,0,_,.cons x _,e=>by simp at e; subst e; exact ⟨_,rfl,x⟩
 | _,_,i+1,_,.cons _ r,e=>by
  obtain ⟨d,h1,h2⟩:=r.get (i:=i) (by simpa using e)
  exact ⟨d,by simpa using h1,h2⟩
theorem Reps.at:∀ {vs:List V} {ds:List D} {i:Nat} {d:D},Reps K C F vs ds→ds[i]?=some d→∃ v,vs[i]?=some v∧Rep K C F v d
 | _,_,_,_,.nil,e=>by simp at e
 | _,_,0,_,.cons x _,e=>by simp at e; subst e; exact ⟨_,rfl,x⟩
 | _,_,i+1,_,.cons _ r,e=>by
  obtain ⟨d,h1,h2⟩:=r.at (i:=i) (by simpa using e)
  exact ⟨d,by simpa using h1,h2⟩
theorem Reps.take:∀ {vs:List V} {ds:List D} (n:Nat),Reps K C F vs ds→Reps K C F (vs.take n) (ds.take n)
 | _,_,0,_=>.nil
 | _,_,_+1,.nil=>.nil
 | _,_,n+1,.cons x r=>.cons x (r.take n)
theorem Reps.drop:∀ {vs:List V} {ds:List D} (n:Nat),Reps K C F vs ds→Reps K C F (vs.drop n) (ds.drop n)
 | _,_,0,r=>r
 | _,_,_+1,.nil=>.nil
 | _,_,n+1,.cons _ r=>r.drop n
theorem Reps.set:∀ {vs:List V} {ds:List D} (n:Nat) {v:V} {d:D},Reps K C F vs ds→Rep K C F v d→Reps K C F (vs.set n v) (ds.set n d)
 | _,_,_,_,_,.nil,_=>.nil
 | _,_,0,_,_,.cons _ r,x=>.cons x r
 | _,_,n+1,_,_,.cons y r,x=>.cons y (r.set n x)
end
def DictAt (w:World) (k:KK) (H:Hp) (a:Addr) (ps:List (D×V×V)):Prop:=∃ u,H a=some u∧Mut (some u)∧DictIs w k u a ps
inductive Lists (K:PySem.W.Frag) (C:Cl) (F H:Hp):List Addr→List (List D)→Prop
 | nil:Lists K C F H [] []
 | cons {b:Addr} {as:List Addr} {vs:List V} {l:List D} {ls:List (List D)}:F b=none→H b=some (.lst vs)→Reps K C F vs l→Lists K C F H as ls→Lists K C F H (b :: as) (l :: ls)
def RepM (K:PySem.W.Frag) (C:Cl) (F H:Hp) (a:Addr):MO→Prop
 | .lst l=>F a=none∧∃ vs,H a=some (.lst vs)∧Reps K C F vs l
 | .ins c fs=>F a=none∧∃ dx vs,H a=some (.ins (C.adr c) dx vs)∧vs.map (·.1)=fs.map (·.1)∧Reps K C F (vs.map (·.2)) (fs.map (·.2))
 | .dct k l=>F a=none∧∃ ps,DictAt C.w k H a ps∧ps.map (·.1)=l.map (·.1)∧Reps K C F (ps.map (·.2.1)) (l.map (·.1))∧Reps K C F (ps.map (·.2.2)) (l.map (·.2))
 | .lls l=>F a=none∧∃ as:List Addr,H a=some (.lst (as.map .ref))∧(a :: as).Nodup∧Lists K C F H as l
 | .dls k l=>F a=none∧∃ (od:Obj) (u:HO) (ps:List (D×V×V)) (as:List Addr),H a=some (.frz od u)∧DictIs C.w k u a ps∧ValsOf od as∧ps.map (·.1)=l.map (·.1)∧Reps K C F (ps.map (·.2.1)) (l.map (·.1))∧ps.map (·.2.2)=as.map .ref∧(a :: as).Nodup∧Lists K C F H as (l.map (·.2))
 | .set .K l=>F a=none∧∃ (ks:List Key) (S:Key→Bool),H a=some (SetK C.p C.w a S l.length)∧keysD l=some ks∧ks.Nodup∧∀ k,S k=true↔k∈ks
 | .set .T l=>F a=none∧∃ (ks:List NestedKey) (L:List (Addr×NestedKey)),H a=some (SetNw C.w a L)∧nestsD l=some ks∧ks.Nodup∧(L.map (·.2)).Perm ks∧∀ p∈L,∃ d∈l,nestD d=some p.2∧p.2.depth≤8∧Rep K C F (.ref p.1) d
def Foot (H:Hp) (a:Addr):MO→Addr→Prop
 | .lls _=>fun x=>x=a∨∃ as:List Addr,H a=some (.lst (as.map .ref))∧x∈as
 | .dls k _=>fun x=>x=a∨∃ (od:Obj) (u:HO) (as:List Addr),H a=some (.frz od u)∧ValsOf od as∧x∈as
 | _=>fun x=>x=a
theorem Foot.root (H:Hp) (a:Addr) (m:MO):Foot H a m a:=by
 cases m with
 | lls _=>exact .inl rfl
 | dls _ _=>exact .inl rfl
 | _=>rfl
section
variable {K:PySem.W.Frag} {C:Cl} {F F' H H':Hp}
theorem DictAt.same {w:World} {k:KK} {a:Addr} {ps:List (D×V×V)} (h:DictAt w k H a ps) (e:H' a=H a):DictAt w k H' a ps:=by
 obtain ⟨u,q,z⟩:=h
 exact ⟨u,e.trans q,z⟩
theorem DictAt.there {w:World} {k:KK} {a:Addr} {ps:List (D×V×V)} (h:DictAt w k H a ps):∃ o,H a=some o:=by
 obtain ⟨u,q,z⟩:=h
 exact ⟨u,q⟩
theorem vrefs_inj:∀ {as bs:List Addr},as.map Value.ref=bs.map Value.ref→as=bs
 | [],[],_=>rfl
 | [],_ :: _,h=>by cases h
 | _ :: _,[],h=>by cases h
 | a :: as,b :: bs,h=>by
  rw [List.map_cons,List.map_cons] at h
  injection h with h1 h2
  injection h1 with h1
  rw [h1,vrefs_inj h2]
theorem ValsOf.one {od:Obj} {as bs:List Addr} (h:ValsOf od as) (h':ValsOf od bs):as=bs:=by
 obtain ⟨es,ep,e,z⟩:=h
 obtain ⟨es',ep',e',z'⟩:=h'
 rw [e] at e'
 cases e'
 exact vrefs_inj (z.symm.trans z')
theorem refs_inj:∀ {as bs:List Addr},as.map V.ref=bs.map V.ref→as=bs
 | [],[],_=>rfl
 | [],_ :: _,h=>by cases h
 | _ :: _,[],h=>by cases h
 | a :: as,b :: bs,h=>by
  rw [List.map_cons,List.map_cons] at h
  injection h with h1 h2
  injection h1 with h1
  rw [h1,refs_inj h2]
theorem Lists.at:∀ {as:List Addr} {ls:List (List D)} {b:Addr},Lists K C F H as ls→b∈as→F b=none∧∃ vs,H b=some (.lst vs)
 | _,_,_,.nil,h=>by cases h
 | _,_,b,.cons n e r t,h=>by
  rcases List.mem_cons.mp h with rfl | h
  ·exact ⟨n,_,e⟩
  ·exact t.at h
theorem Lists.length:∀ {as:List Addr} {ls:List (List D)},Lists K C F H as ls→as.length=ls.length
 | _,_,.nil=>rfl
 | _,_,.cons _ _ _ t=>congrArg Nat.succ t.length
theorem Lists.to (s:Same F F'):∀ {as:List Addr} {ls:List (List D)},Lists K C F H as ls→(∀ x∈as,H' x=H x∧F' x=none)→Lists K C F' H' as ls
 | _,_,.nil,_=>.nil
 | _,_,.cons n e r t,h=>.cons (h _ List.mem_cons_self).2 ((h _ List.mem_cons_self).1.trans e) (r.to s) (t.to s fun x hx=>h x (List.mem_cons_of_mem _ hx))
theorem Lists.get:∀ {as:List Addr} {ls:List (List D)} {i:Nat} {l:List D},Lists K C F H as ls→ls[i]?=some l→∃ b vs,as[i]?=some b∧F b=none∧H b=some (.lst vs)∧Reps K C F vs l
 | _,_,_,_,.nil,e=>by simp at e
 | _,_,0,_,.cons n h r _,e=>by simp at e; subst e; exact ⟨_,_,rfl,n,h,r⟩
 | _,_,i+1,_,.cons _ _ _ t,e=>by
  obtain ⟨b,vs,h1,h2⟩:=t.get (i:=i) (by simpa using e)
  exact ⟨b,vs,by simpa using h1,h2⟩
theorem RepM.foot {a:Addr} {m:MO} (h:RepM K C F H a m) {x:Addr} (f:Foot H a m x):F x=none∧∃ o,H x=some o:=by
 cases m with
 | lst l=>obtain ⟨n,vs,e,_⟩:=h; cases (show x=a from f); exact ⟨n,_,e⟩
 | ins c fs=>obtain ⟨n,dx,vs,e,_⟩:=h; cases (show x=a from f); exact ⟨n,_,e⟩
 | dct k l=>obtain ⟨n,ps,e,_⟩:=h; cases (show x=a from f); exact ⟨n,e.there⟩
 | set k l =>
  cases (show x=a from f)
  cases k with
  | K=>obtain ⟨n,ks,S,e,_⟩:=h; exact ⟨n,_,e⟩
  | T=>obtain ⟨n,ks,L,e,_⟩:=h; exact ⟨n,_,e⟩
 | lls l =>
  obtain ⟨n,as,e,_,t⟩:=h
  rcases f with rfl | ⟨bs,e',hx⟩
  ·exact ⟨n,_,e⟩
  ·rw [e] at e'
   injection e' with e'
   injection e' with e'
   rw [← refs_inj e'] at hx
   obtain ⟨n',vs,h'⟩:=t.at hx
   exact ⟨n',_,h'⟩
 | dls k l =>
  obtain ⟨n,od,u,ps,as,e,_,vo,_,_,er,_,t⟩:=h
  rcases f with rfl | ⟨od',u',bs,e',vo',hx⟩
  ·exact ⟨n,_,e⟩
  ·rw [e] at e'
   injection e' with e'
   injection e' with e1 e2
   subst e1
   rw [← vo.one vo'] at hx
   obtain ⟨n',vs,h'⟩:=t.at hx
   exact ⟨n',_,h'⟩
theorem RepM.there {a:Addr} {m:MO} (h:RepM K C F H a m):∃ o,H a=some o:=(h.foot (Foot.root H a m)).2
theorem RepM.free {a:Addr} {m:MO} (h:RepM K C F H a m):F a=none:=(h.foot (Foot.root H a m)).1
theorem Foot.same {a:Addr} {m:MO} (e:H' a=H a) {x:Addr}:Foot H' a m x↔Foot H a m x:=by
 cases m with
 | lls l=>exact ⟨fun f=>f.imp_right fun ⟨as,q,hx⟩=>⟨as,e.symm.trans q,hx⟩,fun f=>f.imp_right fun ⟨as,q,hx⟩=>⟨as,e.trans q,hx⟩⟩
 | dls k l=>exact ⟨fun f=>f.imp_right fun ⟨od,u,as,q,er,hx⟩=>⟨od,u,as,e.symm.trans q,er,hx⟩,fun f=>f.imp_right fun ⟨od,u,as,q,er,hx⟩=>⟨od,u,as,e.trans q,er,hx⟩⟩
 | lst _=>exact Iff.rfl
 | ins _ _=>exact Iff.rfl
 | dct _ _=>exact Iff.rfl
 | set _ _=>exact Iff.rfl
theorem RepM.to {a:Addr} {m:MO} (h:RepM K C F H a m) (s:Same F F') (e:∀ x,Foot H a m x→H' x=H x∧F' x=none):RepM K C F' H' a m:=by
 have ea:=e a (Foot.root H a m)
 cases m with
 | lst l=>obtain ⟨n,vs,q,r⟩:=h; exact ⟨ea.2,vs,ea.1.trans q,r.to s⟩
 | ins c fs=>obtain ⟨n,dx,vs,q,nm,r⟩:=h; exact ⟨ea.2,dx,vs,ea.1.trans q,nm,r.to s⟩
 | dct k l=>obtain ⟨n,ps,q,nm,r,r'⟩:=h; exact ⟨ea.2,ps,q.same ea.1,nm,r.to s,r'.to s⟩
 | set k l=>cases k with
  | K=>obtain ⟨n,ks,S,q,r⟩:=h; exact ⟨ea.2,ks,S,ea.1.trans q,r⟩
  | T=>obtain ⟨n,ks,L,q,r1,r2,r3,r4⟩:=h; exact ⟨ea.2,ks,L,ea.1.trans q,r1,r2,r3,fun p hp=>let ⟨d,h1,h2,h3,h4⟩:=r4 p hp; ⟨d,h1,h2,h3,h4.to s⟩⟩
 | lls l=>obtain ⟨n,as,q,nd,t⟩:=h; exact ⟨ea.2,as,ea.1.trans q,nd,t.to s fun x hx=>e x (.inr ⟨as,q,hx⟩)⟩
 | dls k l=>obtain ⟨n,od,u,ps,as,q,di,vo,nm,r,er,nd,t⟩:=h; exact ⟨ea.2,od,u,ps,as,ea.1.trans q,di,vo,nm,r.to s,er,nd,t.to s fun x hx=>e x (.inr ⟨od,u,as,q,vo,hx⟩)⟩
end
def OwnA (ρ:Sl) (σ:L2.St) (H:Hp) (x:Addr):Prop:=∃ (i:Nat) (m:MO) (a:Addr),ρ[i]?=some (some (.own m))∧σ[i]?=some (some (.ref a))∧Foot H a m x
def thing:SV→Option MO
 | .dat _=>none
 | .own m=>some m
 | .lck m=>some m
def Held (ρ:Sl) (σ:L2.St) (H:Hp) (x:Addr):Prop:=∃ (i:Nat) (s:SV) (m:MO) (a:Addr),ρ[i]?=some (some s)∧thing s=some m∧σ[i]?=some (some (.ref a))∧Foot H a m x
theorem OwnA.held {ρ:Sl} {σ:L2.St} {H:Hp} {x:Addr} (h:OwnA ρ σ H x):Held ρ σ H x:=by
 obtain ⟨i,m,a,e1,e2,f⟩:=h
 exact ⟨i,_,m,a,e1,rfl,e2,f⟩
structure Bw where
 B:Nat→Option Addr
 np:Nat
def noB:Bw:=⟨fun _=>none,0⟩
structure RepSt (K:PySem.W.Frag) (C:Cl) (B:Bw) (ρ:Sl) (F:Hp) (σ:L2.St) (H:Hp):Prop where
 len:σ.length=ρ.length
 sub:Same F H
 dat:∀ (i:Nat) (d:D),ρ[i]?=some (some (.dat d))→∃ v,σ[i]?=some (some v)∧Rep K C F v d
 thg:∀ (i:Nat) (s:SV) (m:MO),ρ[i]?=some (some s)→thing s=some m→∃ a,σ[i]?=some (some (.ref a))∧RepM K C F H a m
 sep:∀ (i j:Nat) (a b x:Addr) (m m':MO) (s:SV),i≠j→ρ[i]?=some (some (.own m))→ρ[j]?=some (some s)→thing s=some m'→σ[i]?=some (some (.ref a))→σ[j]?=some (some (.ref b))→Foot H a m x→Foot H b m' x→False
 fix:∀ (i:Nat) (m:MO),i < B.np→ρ[i]?=some (some (.own m))→∃ a,B.B i=some a∧σ[i]?=some (some (.ref a))
section
variable {K:PySem.W.Frag} {C:Cl} {B:Bw} {F H:Hp} {ρ:Sl} {σ:L2.St}
theorem RepSt.own (st:RepSt K C B ρ F σ H) {i:Nat} {m:MO} (h:ρ[i]?=some (some (.own m))):∃ a,σ[i]?=some (some (.ref a))∧RepM K C F H a m:=st.thg i _ m h rfl
theorem RepSt.held (st:RepSt K C B ρ F σ H) {x:Addr} (h:Held ρ σ H x):F x=none∧∃ o,H x=some o:=by
 obtain ⟨i,s,m,a,e1,e2,e3,f⟩:=h
 obtain ⟨b,q,r⟩:=st.thg i s m e1 e2
 rw [e3] at q
 cases q
 exact r.foot f
end
structure At0 where
 S:Addr→Prop
 L:Addr→Prop
 F:Hp
 H:Hp
 K:Nat→Addr→MO→Prop
def Lck (ρ:Sl) (σ:L2.St) (i:Nat) (a:Addr) (m:MO):Prop:=ρ[i]?=some (some (.lck m))∧σ[i]?=some (some (.ref a))
def here (ρ:Sl) (F:Hp) (σ:L2.St) (H:Hp):At0:=⟨OwnA ρ σ H,Held ρ σ H,F,H,Lck ρ σ⟩
structure Post (K:PySem.W.Frag) (C:Cl) (B:Bw) (z:At0) (ρ:Sl) (F:Hp) (σ:L2.St) (H:Hp):Prop where
 mono:Same z.F F
 frame:∀ b o,z.H b=some o→¬ z.S b→H b=some o
 new:∀ b o,F b=some o→z.F b=some o∨z.H b=none∨z.S b
 st:RepSt K C B ρ F σ H
 low:∀ a,OwnA ρ σ H a→z.S a∨z.H a=none
 lowL:∀ a,Held ρ σ H a→z.L a∨z.H a=none
 good:∀ x,z.S x→z.L x
 lks:∀ i a m,Lck ρ σ i a m→z.K i a m
section
variable {K:PySem.W.Frag} {C:Cl} {B:Bw} {z:At0} {F1 H1 F2 H2 F H:Hp} {ρ ρ1 ρ2:Sl} {σ σ1 σ2:L2.St}
theorem Post.start (h:RepSt K C B ρ F σ H):Post K C B (here ρ F σ H) ρ F σ H :=
 ⟨Same.refl _,fun _ _ e _=>e,fun _ _ e=>.inl e,h,fun _ y=>.inl y,fun _ y=>.inl y,fun _ y=>OwnA.held y,fun _ _ _ y=>y⟩
theorem Post.there (p:Post K C B z ρ1 F1 σ1 H1) {b:Addr} (h:H1 b=none):z.S b∨z.H b=none:=by
 by_cases s:z.S b
 ·exact .inl s
 ·cases e:z.H b with
  | none=>exact .inr rfl
  | some o =>
   rw [p.frame b o e s] at h
   cases h
theorem Post.old (p:Post K C B z ρ1 F1 σ1 H1) {b:Addr} (h:H1 b=none):z.L b∨z.H b=none:=(p.there h).imp_left (p.good b)
theorem Post.trans (p:Post K C B z ρ1 F1 σ1 H1) {B':Bw} (q:Post K C B' (here ρ1 F1 σ1 H1) ρ2 F2 σ2 H2):Post K C B' z ρ2 F2 σ2 H2 where
 mono:=p.mono.trans q.mono
 frame:=fun b o e s=>q.frame b o (p.frame b o e s) fun y=>(p.low b y).elim s fun n=>by rw [n] at e; cases e
 new:=fun b o e=>by
  rcases q.new b o e with h | h | h
  ·exact p.new b o h
  ·exact (p.there h).symm.imp_right id |> .inr
  ·exact .inr (p.low b h).symm
 st:=q.st
 low:=fun a y=>by
  rcases q.low a y with h | h
  ·exact p.low a h
  ·exact p.there h
 lowL:=fun a y=>by
  rcases q.lowL a y with h | h
  ·exact p.lowL a h
  ·exact p.old h
 good:=p.good
 lks:=fun i a m y=>p.lks i a m (q.lks i a m y)
theorem Post.stays (q:Post K C B (here ρ1 F1 σ1 H1) ρ2 F2 σ2 H2) {x:Addr} (n:F1 x=none) {o:HO} (h:H1 x=some o) (no:¬ OwnA ρ1 σ1 H1 x):H2 x=H1 x∧F2 x=none:=by
 refine ⟨(q.frame x o h no).trans h.symm,?_⟩
 cases y:F2 x with
 | none=>rfl
 | some u =>
  rcases q.new x u y with h' | h' | h'
  ·exact n.symm.trans h' |> fun w=>by cases w
  ·exact h.symm.trans h' |> fun w=>by cases w
  ·exact (no h').elim
def RepRV (K:PySem.W.Frag) (C:Cl) (z:At0) (ρ:Sl) (F:Hp) (σ:L2.St) (H:Hp) (v:V):RV→Prop
 | .dat d=>Rep K C F v d
 | .own m=>∃ a,v=.ref a∧RepM K C F H a m∧∀ x,Foot H a m x→¬ Held ρ σ H x∧(z.S x∨z.H x=none)
 | .bor i=>σ[i]?=some (some v)
 | .shr i=>σ[i]?=some (some v)
theorem Held.of {s:SV} {m:MO} {i:Nat} {a x:Addr} (e:ρ[i]?=some (some s)) (t:thing s=some m) (q:σ[i]?=some (some (.ref a))) (f:Foot H a m x):Held ρ σ H x:=⟨i,s,m,a,e,t,q,f⟩
theorem RepRV.carry {v:V} {r:RV} (h:RepRV K C z ρ1 F1 σ H1 v r) (q:Post K C B (here ρ1 F1 σ H1) ρ2 F2 σ H2):RepRV K C z ρ2 F2 σ H2 v r:=by
 cases r with
 | dat d=>exact Rep.to h q.mono
 | bor i=>exact h
 | shr i=>exact h
 | own m =>
  obtain ⟨a,e,rm,no⟩:=h
  have st:∀ x,Foot H1 a m x→H2 x=H1 x∧F2 x=none:=fun x f=>by
   obtain ⟨n,o,ho⟩:=rm.foot f
   exact q.stays n ho fun y=>(no x f).1 y.held
  have ea:=(st a (Foot.root _ _ _)).1
  refine ⟨a,e,rm.to q.mono st,fun x f=>?_⟩
  have f1:=(Foot.same ea).mp f
  refine ⟨fun y=>?_,(no x f1).2⟩
  rcases q.lowL x y with h | h
  ·exact (no x f1).1 h
  ·obtain ⟨_,o,ho⟩:=rm.foot f1
   exact h.symm.trans ho |> fun w=>by cases w
theorem RepRV.since {v:V} {r:RV} (p:Post K C B z ρ1 F1 σ1 H1) (h:RepRV K C (here ρ1 F1 σ1 H1) ρ2 F2 σ2 H2 v r):RepRV K C z ρ2 F2 σ2 H2 v r:=by
 cases r with
 | dat d=>exact h
 | bor i=>exact h
 | shr i=>exact h
 | own m =>
  obtain ⟨a,e,rm,no⟩:=h
  refine ⟨a,e,rm,fun x f=>⟨(no x f).1,?_⟩⟩
  rcases (no x f).2 with s | s
  ·exact p.low x s
  ·exact p.there s
end
inductive Res (α:Type) where
 | ok (a:α) (ρ:Sl)
 | exc (c:Nat) (fs:List (Str×D)) (ρ:Sl)
abbrev Ef (α:Type):=Sl→Option (Res α)
abbrev DE:=Ef RV
def bindE {α β:Type} (f:Ef α) (k:α→Ef β):Ef β:=fun ρ=>match f ρ with
 | some (.ok a ρ')=>k a ρ'
 | some (.exc c fs ρ')=>some (.exc c fs ρ')
 | none=>none
def retE {α:Type} (a:α):Ef α:=fun ρ=>some (.ok a ρ)
def ExcAt (K:PySem.W.Frag) (C:Cl) (F H:Hp):Option Addr→List (Str×D)→Prop
 | none,fs=>fs=[]
 | some d,fs=>F d=none∧∃ vs,H d=some (.xd vs)∧vs.map (·.1)=fs.map (·.1)∧Reps K C F (vs.map (·.2)) (fs.map (·.2))
structure Kd (K:PySem.W.Frag) (C:Cl) (α β:Type) where
 rep:At0→Sl→Hp→L2.St→Hp→β→α→Prop
 since:∀ {B:Bw} {z:At0} {F1 H1 F2 H2:Hp} {ρ1 ρ2:Sl} {σ1 σ2:L2.St} {v:β} {a:α},Post K C B z ρ1 F1 σ1 H1→rep (here ρ1 F1 σ1 H1) ρ2 F2 σ2 H2 v a→rep z ρ2 F2 σ2 H2 v a
def kR (K:PySem.W.Frag) (C:Cl):Kd K C RV V:=⟨RepRV K C,fun p h=>RepRV.since p h⟩
def kB (K:PySem.W.Frag) (C:Cl):Kd K C Bool Bool:=⟨fun _ _ _ _ _ v a=>v=a,fun _ h=>h⟩
inductive RepRVs (K:PySem.W.Frag) (C:Cl) (z:At0) (ρ:Sl) (F:Hp) (σ:L2.St) (H:Hp):List V→List RV→Prop
 | nil:RepRVs K C z ρ F σ H [] []
 | cons {v:V} {vs:List V} {r:RV} {rs:List RV}:RepRV K C z ρ F σ H v r→RepRVs K C z ρ F σ H vs rs →
  (∀ m,r=.own m→∀ (k:Nat) (m':MO) (a b x:Addr),rs[k]?=some (.own m')→vs[k]?=some (.ref b)→v=.ref a→Foot H a m x→¬ Foot H b m' x)→RepRVs K C z ρ F σ H (v :: vs) (r :: rs)
theorem RepRVs.since {K:PySem.W.Frag} {C:Cl} {B:Bw} {z:At0} {F1 H1 F2 H2:Hp} {ρ1 ρ2:Sl} {σ1 σ2:L2.St} (p:Post K C B z ρ1 F1 σ1 H1):∀ {vs:List V} {rs:List RV},RepRVs K C (here ρ1 F1 σ1 H1) ρ2 F2 σ2 H2 vs rs→RepRVs K C z ρ2 F2 σ2 H2 vs rs
 | _,_,.nil=>.nil
 | _,_,.cons x r n=>.cons (RepRV.since p x) (RepRVs.since p r) n
theorem RepRVs.at {K:PySem.W.Frag} {C:Cl} {z:At0} {F H:Hp} {ρ:Sl} {σ:L2.St}:∀ {vs:List V} {rs:List RV} {k:Nat} {r:RV},RepRVs K C z ρ F σ H vs rs→rs[k]?=some r→∃ v,vs[k]?=some v∧RepRV K C z ρ F σ H v r
 | _,_,_,_,.nil,e=>by simp at e
 | _,_,0,_,.cons x _ _,e=>by simp at e; subst e; exact ⟨_,rfl,x⟩
 | _,_,k+1,_,.cons _ t _,e=>by
  obtain ⟨v,h1,h2⟩:=t.at (k:=k) (by simpa using e)
  exact ⟨v,by simpa using h1,h2⟩
theorem RepRVs.length {K:PySem.W.Frag} {C:Cl} {z:At0} {F H:Hp} {ρ:Sl} {σ:L2.St}:∀ {vs:List V} {rs:List RV},RepRVs K C z ρ F σ H vs rs→vs.length=rs.length
 | _,_,.nil=>rfl
 | _,_,.cons _ t _=>congrArg Nat.succ t.length
def kL (K:PySem.W.Frag) (C:Cl):Kd K C (List RV) (List V):=⟨RepRVs K C,fun p h=>RepRVs.since p h⟩
def GoalA {K:PySem.W.Frag} {C:Cl} {α β:Type} (k:Kd K C α β) (B:Bw) (W:WX) (z:At0) (σ:L2.St) (Q:β→Hp→Prop):Option (Res α)→Prop
 | some (.ok r ρ)=>∀ v F H,Post K C B z ρ F σ H→k.rep z ρ F σ H v r→Q v H
 | some (.exc c fs ρ)=>∀ dd F H,Post K C B z ρ F σ H→ExcAt K C F H dd fs→W (.ref (C.adr c)) dd σ H
 | none=>False
abbrev Goal (K:PySem.W.Frag) (C:Cl) (B:Bw) (W:WX) (z:At0) (σ:L2.St) (Q:VK):Option (Res RV)→Prop:=GoalA (kR K C) B W z σ Q
def tG {K:PySem.W.Frag} {C:Cl} {α β:Type} (k:Kd K C α β) (B:Bw) (W:WX) (f:Ef α) (σ:L2.St) (H:Hp) (Q:β→Hp→Prop):Prop:=∃ ρ F,RepSt K C B ρ F σ H∧GoalA k B W (here ρ F σ H) σ Q (f ρ)
abbrev tD (K:PySem.W.Frag) (C:Cl) (B:Bw) (W:WX) (f:DE):TE:=tG (kR K C) B W f
abbrev tT (K:PySem.W.Frag) (C:Cl) (B:Bw) (W:WX) (f:Ef Bool):TT:=tG (kB K C) B W f
abbrev tL (K:PySem.W.Frag) (C:Cl) (B:Bw) (W:WX) (f:Ef (List RV)):TA:=tG (kL K C) B W f
abbrev PD (X:Cx) (C:Cl) (B:Bw) (W:WX) (e:Expr) (f:DE):Prop:=PE X e (tD X.K C B W f)
abbrev PDT (X:Cx) (C:Cl) (B:Bw) (W:WX) (e:Expr) (f:Ef Bool):Prop:=PT X e (tT X.K C B W f)
abbrev PDW (X:Cx) (C:Cl) (B:Bw) (W:WX) (e:Expr) (f:Ef Bool):Prop:=PW X e (tT X.K C B W f)
abbrev PDA (X:Cx) (C:Cl) (B:Bw) (W:WX) (es:List Expr) (f:Ef (List RV)):Prop:=PA X es (tL X.K C B W f)
theorem PE.conv {X:Cx} {e:Expr} {t t':TE} (h:PE X e t) (c:∀ σ H Q,t' σ H Q→t σ H Q):PE X e t':=⟨fun pins s σ H Q I q=>h.run pins s σ H Q I (c σ H Q q)⟩
theorem PT.conv {X:Cx} {e:Expr} {t t':TT} (h:PT X e t) (c:∀ σ H Q,t' σ H Q→t σ H Q):PT X e t':=⟨fun pins s σ H Q I q=>h.run pins s σ H Q I (c σ H Q q)⟩
theorem PW.conv {X:Cx} {e:Expr} {t t':TT} (h:PW X e t) (c:∀ σ H Q,t' σ H Q→t σ H Q):PW X e t':=⟨fun w pins s σ H Q I q=>h.run w pins s σ H Q I (c σ H Q q)⟩
theorem PA.conv {X:Cx} {es:List Expr} {t t':TA} (h:PA X es t) (c:∀ σ H Q,t' σ H Q→t σ H Q):PA X es t':=⟨fun pos pins s σ H Q I q=>h.run pos pins s σ H Q I (c σ H Q q)⟩
section
variable {K:PySem.W.Frag} {C:Cl} {B:Bw} {W:WX} {z:At0} {F H:Hp} {ρ:Sl} {σ:L2.St} {Q:VK}
theorem tG_bindR {α β γ δ:Type} {k1:Kd K C α β} {k2:Kd K C γ δ} {f:Ef α} {k:α→Ef γ} {Qa:β→Hp→Prop} {Q:δ→Hp→Prop} (p:Post K C B z ρ F σ H) (g:GoalA k2 B W z σ Q (bindE f k ρ))
  (h:∀ r1 ρ1 v F1 H1,GoalA k2 B W z σ Q (k r1 ρ1)→Post K C B z ρ1 F1 σ H1→Post K C B (here ρ F σ H) ρ1 F1 σ H1→k1.rep z ρ1 F1 σ H1 v r1→k1.rep (here ρ F σ H) ρ1 F1 σ H1 v r1→Qa v H1):tG k1 B W f σ H Qa:=by
 refine ⟨ρ,F,p.st,?_⟩
 unfold bindE at g
 cases e:f ρ with
 | none=>rw [e] at g; exact g
 | some r =>
  rw [e] at g
  cases r with
  | ok r1 ρ1=>exact fun v F1 H1 q rv=>h r1 ρ1 v F1 H1 g (p.trans q) q (k1.since p rv) rv
  | exc c fs ρ1=>exact fun dd F1 H1 q ex=>g dd F1 H1 (p.trans q) ex
theorem tG_bind {α β γ δ:Type} {k1:Kd K C α β} {k2:Kd K C γ δ} {f:Ef α} {k:α→Ef γ} {Qa:β→Hp→Prop} {Q:δ→Hp→Prop} (p:Post K C B z ρ F σ H) (g:GoalA k2 B W z σ Q (bindE f k ρ))
  (h:∀ r1 ρ1 v F1 H1,GoalA k2 B W z σ Q (k r1 ρ1)→Post K C B z ρ1 F1 σ H1→Post K C B (here ρ F σ H) ρ1 F1 σ H1→k1.rep z ρ1 F1 σ H1 v r1→Qa v H1):tG k1 B W f σ H Qa :=
 tG_bindR p g fun r1 ρ1 v F1 H1 g1 p1 s1 q1 _=>h r1 ρ1 v F1 H1 g1 p1 s1 q1
theorem tG_last {α β:Type} {k1:Kd K C α β} {f:Ef α} {Q:β→Hp→Prop} (p:Post K C B z ρ F σ H) (g:GoalA k1 B W z σ Q (f ρ)):tG k1 B W f σ H Q:=by
 refine ⟨ρ,F,p.st,?_⟩
 cases e:f ρ with
 | none=>rw [e] at g; exact g
 | some r =>
  rw [e] at g
  cases r with
  | ok r1 ρ1=>exact fun v F1 H1 q rv=>g v F1 H1 (p.trans q) (k1.since p rv)
  | exc c fs ρ1=>exact fun dd F1 H1 q ex=>g dd F1 H1 (p.trans q) ex
theorem Post.aside (p:Post K C B z ρ F σ H) {a:Addr} {o:HO} (n0:z.S a∨z.H a=none) (nF:F a=none) (no:¬ Held ρ σ H a):Post K C B z ρ F σ (upd H a o):=by
 have keep:∀ {s:SV} {m:MO} {i:Nat} {b:Addr},ρ[i]?=some (some s)→thing s=some m→σ[i]?=some (some (.ref b))→b≠a:=fun e t q w=>no (Held.of e t q (w ▸ Foot.root _ _ _))
 have held:∀ {x:Addr},Held ρ σ (upd H a o) x→Held ρ σ H x:=fun ⟨i,s,m,b,e,t,q,f⟩=>⟨i,s,m,b,e,t,q,(Foot.same (upd_ne (keep e t q))).mp f⟩
 have own:∀ {x:Addr},OwnA ρ σ (upd H a o) x→OwnA ρ σ H x:=fun ⟨i,m,b,e,q,f⟩=>⟨i,m,b,e,q,(Foot.same (upd_ne (keep e rfl q))).mp f⟩
 refine ⟨p.mono,fun b u e s=>?_,p.new,⟨p.st.len,fun b u e=>?_,p.st.dat,fun i s m e t=>?_,fun i j b c x m m' s h e1 e2 t q1 q2 f1 f2=>?_,p.st.fix⟩,fun b h=>p.low b (own h),fun b h=>p.lowL b (held h),p.good,p.lks⟩
 ·have ne:b≠a:=by
   rintro rfl
   rcases n0 with y | y
   ·exact s y
   ·rw [e] at y; cases y
  rw [upd_ne ne]
  exact p.frame b u e s
 ·rw [upd_ne (ne_of_none e nF)]
  exact p.st.sub b u e
 ·obtain ⟨b,q,r⟩:=p.st.thg i s m e t
  refine ⟨b,q,r.to (Same.refl _) fun x f=>⟨upd_ne ?_,(r.foot f).1⟩⟩
  rintro rfl
  exact no (Held.of e t q f)
 ·exact p.st.sep i j b c x m m' s h e1 e2 t q1 q2 ((Foot.same (upd_ne (keep e1 rfl q1))).mp f1) ((Foot.same (upd_ne (keep e2 t q2))).mp f2)
theorem Post.notHeld (p:Post K C B z ρ F σ H) {a:Addr} (n:H a=none):¬ Held ρ σ H a:=fun h=>by
 obtain ⟨_,o,ho⟩:=p.st.held h
 rw [n] at ho
 cases ho
theorem Post.newO (p:Post K C B z ρ F σ H) {a:Addr} (n:H a=none) (o:HO):Post K C B z ρ F σ (upd H a o):=p.aside (p.there n) (p.st.sub.free n) (p.notHeld n)
theorem Post.fixed (p:Post K C B z ρ F σ H) {F':Hp} (s:Same F F') (h:∀ x u,F' x=some u→F x=some u∨(H x=some u∧¬ Held ρ σ H x∧(z.S x∨z.H x=none))):Post K C B z ρ F' σ H:=by
 refine ⟨p.mono.trans s,p.frame,fun b u e=>?_,⟨p.st.len,fun b u e=>?_,fun i d e=>?_,fun i sv m e t=>?_,p.st.sep,p.st.fix⟩,p.low,p.lowL,p.good,p.lks⟩
 ·rcases h b u e with y | ⟨_,_,y⟩
  ·exact p.new b u y
  ·exact .inr y.symm
 ·rcases h b u e with y | ⟨y,_⟩
  ·exact p.st.sub b u y
  ·exact y
 ·obtain ⟨v,q,r⟩:=p.st.dat i d e
  exact ⟨v,q,r.to s⟩
 ·obtain ⟨a,q,r⟩:=p.st.thg i sv m e t
  refine ⟨a,q,r.to s fun x f=>⟨rfl,?_⟩⟩
  cases y:F' x with
  | none=>rfl
  | some u =>
   rcases h x u y with w | ⟨_,w,_⟩
   ·rw [(r.foot f).1] at w; cases w
   ·exact (w (Held.of e t q f)).elim
theorem Post.newF (p:Post K C B z ρ F σ H) {a:Addr} (n:H a=none) (o:HO):Post K C B z ρ (upd F a o) σ (upd H a o):=by
 have q:=p.newO n o
 refine q.fixed (fun b u e=>by rw [upd_ne (ne_of_none e (p.st.sub.free n))]; exact e) fun x u e=>?_
 by_cases hx:x=a
 ·subst hx
  rw [upd_same] at e
  refine .inr ⟨by rw [upd_same]; exact e,fun h=>?_,p.there n⟩
  obtain ⟨i,s,m,b,e1,t,q2,f⟩:=h
  have ne:b≠x:=fun w=>p.notHeld n (Held.of e1 t q2 (w ▸ Foot.root _ _ _))
  exact p.notHeld n ⟨i,s,m,b,e1,t,q2,(Foot.same (upd_ne ne)).mp f⟩
 ·rw [upd_ne hx] at e
  exact .inl e
theorem Goal.newL {l:List D} {vs:List V} (g:Goal K C B W z σ Q (some (.ok (.own (.lst l)) ρ))) (p:Post K C B z ρ F σ H) {a:Addr} (n:H a=none) (r:Reps K C F vs l):Q (.ref a) (upd H a (.lst vs)):=by
 refine g _ F _ (p.newO n _) ⟨a,rfl,⟨p.st.sub.free n,vs,upd_same,r⟩,?_⟩
 intro x f
 obtain rfl:x=a:=f
 refine ⟨fun h=>?_,p.there n⟩
 obtain ⟨i,s,m,b,e1,t,q2,f⟩:=h
 have ne:b≠x:=fun w=>p.notHeld n (Held.of e1 t q2 (w ▸ Foot.root _ _ _))
 exact p.notHeld n ⟨i,s,m,b,e1,t,q2,(Foot.same (upd_ne ne)).mp f⟩
theorem Goal.newT {l:List D} {vs:List V} (g:Goal K C B W z σ Q (some (.ok (.dat (.tup l)) ρ))) (p:Post K C B z ρ F σ H) {a:Addr} (n:H a=none) (r:Reps K C F vs l):Q (.ref a) (upd H a (.tup vs)) :=
 g _ _ _ (p.newF n _) (.tup (SqT.of upd_same) (r.to fun b u e=>by rw [upd_ne (ne_of_none e (p.st.sub.free n))]; exact e))
theorem Post.less (p:Post K C B z ρ F σ H) {ρ':Sl} (l:ρ'.length=ρ.length) (h:∀ (i:Nat) (x:SV),ρ'[i]?=some (some x)→ρ[i]?=some (some x)):Post K C B z ρ' F σ H :=
 ⟨p.mono,p.frame,p.new,⟨p.st.len.trans l.symm,p.st.sub,fun i d e=>p.st.dat i d (h i _ e),fun i s m e t=>p.st.thg i s m (h i s e) t,fun i j a b x m m' s n e1 e2 t=>p.st.sep i j a b x m m' s n (h i _ e1) (h j s e2) t,fun i m hi e=>p.st.fix i m hi (h i _ e)⟩,
  fun a ⟨i,m,b,e,q,f⟩=>p.low a ⟨i,m,b,h i _ e,q,f⟩,fun a ⟨i,s,m,b,e,t,q,f⟩=>p.lowL a ⟨i,s,m,b,h i s e,t,q,f⟩,p.good,fun i a m ⟨e,q⟩=>p.lks i a m ⟨h i _ e,q⟩⟩
theorem set_cases {ρ:Sl} {i j:Nat} {y:Option SV} {x:SV} (h:(ρ.set i y)[j]?=some (some x)):(j=i∧y=some x∧i < ρ.length)∨(j≠i∧ρ[j]?=some (some x)):=by
 by_cases hj:j=i
 ·subst hj
  by_cases hl:j < ρ.length
  ·rw [List.getElem?_set_self hl] at h
   cases h
   exact .inl ⟨rfl,rfl,hl⟩
  ·rw [List.getElem?_eq_none (by rw [List.length_set]; omega)] at h; cases h
 ·rw [List.getElem?_set_ne (Ne.symm hj)] at h
  exact .inr ⟨hj,h⟩
theorem Post.drop (p:Post K C B z ρ F σ H) (i:Nat):Post K C B z (ρ.set i none) F σ H:=p.less (by rw [List.length_set]) fun j x h=>by
 rcases set_cases h with ⟨_,y,_⟩ | ⟨_,y⟩
 ·cases y
 ·exact y
theorem Post.putD (p:Post K C B z ρ F σ H) {i:Nat} {v:V} {d:D} (s:σ[i]?=some (some v)) (r:Rep K C F v d):Post K C B z (ρ.set i (some (.dat d))) F σ H:=by
 have cs:∀ {j:Nat} {x:SV} {m:MO},(ρ.set i (some (.dat d)))[j]?=some (some x)→thing x=some m→ρ[j]?=some (some x):=by
  intro j x m h t
  rcases set_cases h with ⟨_,y,_⟩ | ⟨_,y⟩
  ·cases y; cases t
  ·exact y
 refine ⟨p.mono,p.frame,p.new,⟨by rw [List.length_set]; exact p.st.len,p.st.sub,fun j d' h=>?_,fun j s m e t=>p.st.thg j s m (cs e t) t,fun j k a b x m m' s n e1 e2 t=>p.st.sep j k a b x m m' s n (cs e1 rfl) (cs e2 t) t,fun j m hi e=>p.st.fix j m hi (cs e rfl)⟩,
  fun a ⟨j,m,b,e,q,f⟩=>p.low a ⟨j,m,b,cs e rfl,q,f⟩,fun a ⟨j,s,m,b,e,t,q,f⟩=>p.lowL a ⟨j,s,m,b,cs e t,t,q,f⟩,p.good,fun j a m ⟨e,q⟩=>p.lks j a m ⟨cs e rfl,q⟩⟩
 rcases set_cases h with ⟨rfl,y,_⟩ | ⟨_,y⟩
 ·cases y
  exact ⟨v,s,r⟩
 ·exact p.st.dat j d' y
theorem sig_ne {σ:L2.St} {i j:Nat} {v:Option V} (h:j≠i):(σ.set i v)[j]?=σ[j]?:=List.getElem?_set_ne (Ne.symm h)
theorem Post.sig (p:Post K C B z ρ F σ H) {i:Nat} {v:Option V} (h:∀ x,ρ[i]?≠some (some x)):Post K C B z ρ F (σ.set i v) H:=by
 have ne:∀ {j:Nat} {x:SV},ρ[j]?=some (some x)→(σ.set i v)[j]?=σ[j]?:=fun e=>sig_ne fun w=>h _ (w ▸ e)
 refine ⟨p.mono,p.frame,p.new,⟨by rw [List.length_set]; exact p.st.len,p.st.sub,fun j d e=>by rw [ne e]; exact p.st.dat j d e,fun j s m e t=>by rw [ne e]; exact p.st.thg j s m e t,
  fun j k a b x m m' s n e1 e2 t q1 q2=>p.st.sep j k a b x m m' s n e1 e2 t (by rw [← ne e1]; exact q1) (by rw [← ne e2]; exact q2),fun j m hi e=>by rw [ne e]; exact p.st.fix j m hi e⟩,
  fun a ⟨j,m,b,e,q,f⟩=>p.low a ⟨j,m,b,e,by rw [← ne e]; exact q,f⟩,fun a ⟨j,s,m,b,e,t,q,f⟩=>p.lowL a ⟨j,s,m,b,e,t,by rw [← ne e]; exact q,f⟩,p.good,fun j a m ⟨e,q⟩=>p.lks j a m ⟨e,by rw [← ne e]; exact q⟩⟩
theorem set_none {ρ:Sl} {i:Nat} (x:SV):(ρ.set i none)[i]?≠some (some x):=fun h=>by
 rcases set_cases h with ⟨_,y,_⟩ | ⟨y,_⟩
 ·cases y
 ·exact y rfl
theorem set_set_none {ρ:Sl} {i:Nat} {y:Option SV}:(ρ.set i none).set i y=ρ.set i y:=by rw [List.set_set]
theorem Post.setD (p:Post K C B z ρ F σ H) {i:Nat} {v:V} {d:D} (r:Rep K C F v d):Post K C B z (ρ.set i (some (.dat d))) F (σ.set i (some v)) H:=by
 by_cases hi:i < ρ.length
 ·have p1:=(p.drop i).sig (v:=some v) fun x=>set_none x
  have:=p1.putD (d:=d) (v:=v) (i:=i) (by rw [List.getElem?_set_self (by rw [p.st.len]; exact hi)]) r
  rw [set_set_none] at this
  exact this
 ·have e1:ρ.set i (some (.dat d))=ρ:=List.set_eq_of_length_le (by omega)
  have e2:σ.set i (some v)=σ:=List.set_eq_of_length_le (by rw [p.st.len]; omega)
  rw [e1,e2]
  exact p
theorem Post.putN (p:Post K C B z ρ F σ H) {i:Nat} {a:Addr} {m:MO} (free:∀ x,ρ[i]?≠some (some x)) (s:σ[i]?=some (some (.ref a))) (rm:RepM K C F H a m) (no:∀ x,Foot H a m x→¬ Held ρ σ H x∧(z.S x∨z.H x=none)) (fx:i < B.np→∃ b,B.B i=some b∧σ[i]?=some (some (.ref b))) :
  Post K C B z (ρ.set i (some (.own m))) F σ H:=by
 have cs:∀ {j:Nat} {x:SV},(ρ.set i (some (.own m)))[j]?=some (some x)→(j=i∧x=.own m)∨(j≠i∧ρ[j]?=some (some x)):=fun h=>by
  rcases set_cases h with ⟨h1,y,_⟩ | h
  ·cases y; exact .inl ⟨h1,rfl⟩
  ·exact .inr h
 refine ⟨p.mono,p.frame,p.new,⟨by rw [List.length_set]; exact p.st.len,p.st.sub,fun j d h=>?_,fun j x m' e t=>?_,fun j k a1 b1 x m1 m2 s' n e1 e2 t q1 q2 f1 f2=>?_,fun j m' hi e=>?_⟩,?_,?_,p.good,?_⟩
 ·rcases cs h with ⟨_,y⟩ | ⟨_,y⟩
  ·cases y
  ·exact p.st.dat j d y
 ·rcases cs e with ⟨rfl,rfl⟩ | ⟨_,y⟩
  ·cases t
   exact ⟨a,s,rm⟩
  ·exact p.st.thg j x m' y t
 ·rcases cs e1 with ⟨rfl,y⟩ | ⟨h1,y⟩
  ·cases y
   rw [s] at q1
   cases q1
   rcases cs e2 with ⟨rfl,_⟩ | ⟨_,y2⟩
   ·exact n rfl
   ·exact (no x f1).1 (Held.of y2 t q2 f2)
  ·rcases cs e2 with ⟨rfl,rfl⟩ | ⟨_,y2⟩
   ·cases t
    rw [s] at q2
    cases q2
    exact (no x f2).1 (Held.of y rfl q1 f1)
   ·exact p.st.sep j k a1 b1 x m1 m2 s' n y y2 t q1 q2 f1 f2
 ·rcases cs e with ⟨rfl,_⟩ | ⟨_,y⟩
  ·exact fx hi
  ·exact p.st.fix j m' hi y
 ·rintro x ⟨j,m',b,e,q,f⟩
  rcases cs e with ⟨rfl,y⟩ | ⟨_,y⟩
  ·cases y
   rw [s] at q
   cases q
   exact (no x f).2
  ·exact p.low x ⟨j,m',b,y,q,f⟩
 ·rintro x ⟨j,s',m',b,e,t,q,f⟩
  rcases cs e with ⟨rfl,rfl⟩ | ⟨_,y⟩
  ·cases t
   rw [s] at q
   cases q
   exact (no x f).2.imp_left (p.good x)
  ·exact p.lowL x ⟨j,s',m',b,y,t,q,f⟩
 ·rintro j b m' ⟨e,q⟩
  rcases cs e with ⟨_,y⟩ | ⟨_,y⟩
  ·cases y
  ·exact p.lks j b m' ⟨y,q⟩
theorem Held.less {ρ':Sl} (h:∀ (i:Nat) (x:SV),ρ'[i]?=some (some x)→ρ[i]?=some (some x)) {x:Addr}:Held ρ' σ H x→Held ρ σ H x:=fun ⟨i,s,m,a,e,t,q,f⟩=>⟨i,s,m,a,h i s e,t,q,f⟩
theorem Held.drop {i:Nat} {x:Addr}:Held (ρ.set i none) σ H x→Held ρ σ H x:=Held.less fun j y h=>by
 rcases set_cases h with ⟨_,w,_⟩ | ⟨_,w⟩
 ·cases w
 ·exact w
theorem Held.sig {i:Nat} {v:Option V} {x:Addr} (h:∀ x,ρ[i]?≠some (some x)):Held ρ (σ.set i v) H x→Held ρ σ H x:=fun ⟨j,s,m,a,e,t,q,f⟩=>⟨j,s,m,a,e,t,by rw [sig_ne fun w=>h _ (w ▸ e)] at q; exact q,f⟩
theorem Post.setN (p:Post K C B z ρ F σ H) {i:Nat} {v:V} {m:MO} (hi:B.np≤i) (h:RepRV K C z ρ F σ H v (.own m)):Post K C B z (ρ.set i (some (.own m))) F (σ.set i (some v)) H:=by
 by_cases hl:i < ρ.length
 ·obtain ⟨a,rfl,rm,no⟩:=h
  have p1:=(p.drop i).sig (v:=some (.ref a)) fun x=>set_none x
  have:=p1.putN (m:=m) (a:=a) (i:=i) (fun x=>set_none x) (by rw [List.getElem?_set_self (by rw [p.st.len]; exact hl)]) rm (fun x f=>⟨fun y=>(no x f).1 (Held.drop (Held.sig (fun x=>set_none x) y)),(no x f).2⟩) fun w=>by omega
  rw [set_set_none] at this
  exact this
 ·have e1:ρ.set i (some (.own m))=ρ:=List.set_eq_of_length_le (by omega)
  have e2:σ.set i (some v)=σ:=List.set_eq_of_length_le (by rw [p.st.len]; omega)
  rw [e1,e2]
  exact p
def MO.fix:MO→Option D
 | .lst l=>some (.lst l)
 | .lls l=>some (.lst (l.map .lst))
 | .dls k l=>some (.dic k (l.map (·.1)) (l.map fun p=>.lst p.2))
 | _=>none
open Classical in
theorem RepM.fix {a:Addr} {m:MO} {d:D} (h:RepM K C F H a m) (e:m.fix=some d):∃ F',Same F F'∧Rep K C F' (.ref a) d∧∀ x u,F' x=some u→F x=some u∨(H x=some u∧Foot H a m x):=by
 refine ⟨fun x=>if Foot H a m x then H x else F x,?_⟩
 have s:Same F (fun x=>if Foot H a m x then H x else F x):=fun x u q=>by
  by_cases f:Foot H a m x
  ·rw [(h.foot f).1] at q; cases q
  ·show (if Foot H a m x then H x else F x)=some u
   rw [if_neg f]; exact q
 have at_:∀ x,Foot H a m x→(fun x=>if Foot H a m x then H x else F x) x=H x:=fun x f=>if_pos f
 refine ⟨s,?_,fun x u q=>?_⟩
 ·cases m with
  | lst l =>
   cases e
   obtain ⟨n,vs,q,r⟩:=h
   exact .lst ((at_ a rfl).trans q) (r.to s)
  | lls l =>
   cases e
   obtain ⟨n,as,q,nd,t⟩:=h
   refine .lst ((at_ a (.inl rfl)).trans q) ?_
   have go:∀ (bs:List Addr) (ls:List (List D)),Lists K C F H bs ls→(∀ x∈bs,Foot H a (.lls l) x)→Reps K C (fun x=>if Foot H a (.lls l) x then H x else F x) (bs.map .ref) (ls.map .lst):=by
    intro bs ls t
    induction t with
    | nil=>intro _; exact .nil
    | cons n e r t ih =>
     intro hx
     exact .cons (.lst ((at_ _ (hx _ List.mem_cons_self)).trans e) (r.to s)) (ih fun x h=>hx x (List.mem_cons_of_mem _ h))
   exact go as l t fun x hx=>.inr ⟨as,q,hx⟩
  | dls k l =>
   cases e
   obtain ⟨n,od,u,ps,as,q,di,vo,nm,r,er,nd,t⟩:=h
   refine .dic ((at_ a (.inl rfl)).trans q) di nm (r.to s) ?_
   have go:∀ (bs:List Addr) (ls:List (List D)),Lists K C F H bs ls→(∀ x∈bs,Foot H a (.dls k l) x)→Reps K C (fun x=>if Foot H a (.dls k l) x then H x else F x) (bs.map .ref) (ls.map .lst):=by
    intro bs ls t
    induction t with
    | nil=>intro _; exact .nil
    | cons n e r t ih =>
     intro hx
     exact .cons (.lst ((at_ _ (hx _ List.mem_cons_self)).trans e) (r.to s)) (ih fun x h=>hx x (List.mem_cons_of_mem _ h))
   rw [er]
   have:=go as _ t fun x hx=>.inr ⟨od,u,as,q,vo,hx⟩
   rw [List.map_map] at this
   exact this
  | _=>cases e
 ·have q:(if Foot H a m x then H x else F x)=some u:=q
  by_cases f:Foot H a m x
  ·rw [if_pos f] at q; exact .inr ⟨q,f⟩
  ·rw [if_neg f] at q; exact .inl q
def toDat (r:RV):Ef D:=fun ρ=>match r with
 | .dat d=>some (.ok d ρ)
 | .own m=>match m.fix with
  | some d=>some (.ok d ρ)
  | none=>none
 | .bor i=>match ρ[i]? with
  | some (some (.dat d))=>some (.ok d ρ)
  | some (some (.own m))=>match m.fix with
   | some d=>some (.ok d (ρ.set i (some (.dat d))))
   | none=>none
  | _=>none
 | .shr _=>none
theorem Post.toDat (p:Post K C B z ρ F σ H) {v:V} {r:RV} {d:D} {ρ':Sl} (h:RepRV K C z ρ F σ H v r) (e:toDat r ρ=some (.ok d ρ')):∃ F',Post K C B z ρ' F' σ H∧Rep K C F' v d∧Same F F':=by
 cases r with
 | dat d' =>
  cases e
  exact ⟨F,p,h,Same.refl _⟩
 | shr i=>cases e
 | own m =>
  unfold Pl.toDat at e
  dsimp only at e
  split at e
  ·rename_i d' em
   cases e
   obtain ⟨a,rfl,rm,no⟩:=h
   obtain ⟨F',s,rp,w⟩:=rm.fix em
   exact ⟨F',p.fixed s fun x u q=>(w x u q).imp_right fun ⟨q1,f⟩=>⟨q1,(no x f).1,(no x f).2⟩,rp,s⟩
  ·cases e
 | bor i =>
  have h:σ[i]?=some (some v):=h
  unfold Pl.toDat at e
  dsimp only at e
  split at e
  ·rename_i d' q
   cases e
   obtain ⟨v',e1,r⟩:=p.st.dat i _ q
   rw [h] at e1
   cases e1
   exact ⟨F,p,r,Same.refl _⟩
  ·rename_i m q
   split at e
   ·rename_i d' em
    cases e
    obtain ⟨a,e1,rm⟩:=p.st.own q
    rw [h] at e1
    cases e1
    obtain ⟨F',s,rp,w⟩:=rm.fix em
    have own:∀ x,Foot H a m x→¬ Held (ρ.set i none) σ H x∧(z.S x∨z.H x=none):=fun x f=>by
     refine ⟨?_,p.low x ⟨i,m,a,q,h,f⟩⟩
     rintro ⟨j,sv,m',b,e1,t,e2,f2⟩
     rcases set_cases e1 with ⟨_,y,_⟩ | ⟨hj,y⟩
     ·cases y
     ·exact p.st.sep i j a b x m m' sv (Ne.symm hj) q y t h e2 f f2
    have p1:=(p.drop i).fixed s fun x u q=>(w x u q).imp_right fun ⟨q1,f⟩=>⟨q1,(own x f).1,(own x f).2⟩
    have p2:=p1.putD h rp
    rw [set_set_none] at p2
    exact ⟨F',p2,rp,s⟩
   ·cases e
  ·cases e
def MO.see:MO→Option D
 | .lst l=>some (.lst l)
 | _=>none
def SV.see:SV→Option D
 | .dat d=>some d
 | .own m=>m.see
 | .lck m=>m.see
def slotSee:Option (Option SV)→Option D
 | some (some sv)=>sv.see
 | _=>none
def RV.see (ρ:Sl):RV→Option D
 | .dat d=>some d
 | .own m=>m.see
 | .bor i=>slotSee ρ[i]?
 | .shr i=>slotSee ρ[i]?
theorem slotSee_cases {o:Option (Option SV)} {d:D} (h:slotSee o=some d):o=some (some (.dat d))∨∃ s m,o=some (some s)∧thing s=some m∧m.see=some d:=by
 match o,h with
 | some (some (.dat d')),h=>cases h; exact .inl rfl
 | some (some (.own m)),h=>exact .inr ⟨_,m,rfl,rfl,h⟩
 | some (some (.lck m)),h=>exact .inr ⟨_,m,rfl,rfl,h⟩
def RepP (K:PySem.W.Frag) (C:Cl) (F H:Hp) (v:V):D→Prop
 | .lst l=>∃ a vs,v=.ref a∧H a=some (.lst vs)∧Reps K C F vs l
 | .wri l=>∃ a vs,v=.ref a∧SqL K H a vs∧Reps K C F vs l
 | .tup l=>∃ a vs,v=.ref a∧SqT K H a vs∧Reps K C F vs l
 | d=>Rep K C F v d
theorem Rep.parts {v:V} {d:D} (r:Rep K C F v d) (s:Same F H):RepP K C F H v d:=by
 cases r with
 | lst e r=>exact ⟨_,_,rfl,s _ _ e,r⟩
 | wri e r=>exact ⟨_,_,rfl,s.seq e,r⟩
 | tup e r=>exact ⟨_,_,rfl,Same.tup s e,r⟩
 | non=>exact .non
 | bl b=>exact .bl b
 | int i=>exact .int i
 | str x=>exact .str x
 | ty n=>exact .ty n
 | cls c=>exact .cls c
 | obj e n r=>exact .obj e n r
 | dic e i n r q=>exact .dic e i n r q
theorem RepP.rep {v:V} {d:D} (r:RepP K C F H v d) (s:Same F H):Rep K C H v d:=by
 cases d with
 | lst l=>obtain ⟨a,vs,rfl,e,r⟩:=r; exact .lst e (r.to s)
 | wri l=>obtain ⟨a,vs,rfl,e,r⟩:=r; exact .wri e (r.to s)
 | tup l=>obtain ⟨a,vs,rfl,e,r⟩:=r; exact .tup e (r.to s)
 | _=>exact Rep.to r s
theorem RepM.parts {a:Addr} {m:MO} {d:D} (h:RepM K C F H a m) (e:m.see=some d):RepP K C F H (.ref a) d:=by
 cases m with
 | lst l =>
  obtain ⟨n,vs,q,r⟩:=h
  cases e
  exact ⟨_,_,rfl,q,r⟩
 | _=>cases e
theorem slot_parts (st:RepSt K C B ρ F σ H) {i:Nat} {v:V} {d:D} (h:σ[i]?=some (some v)) (e:slotSee ρ[i]?=some d):RepP K C F H v d:=by
 rcases slotSee_cases e with q | ⟨s,m,q,t,em⟩
 ·obtain ⟨v',e1,r⟩:=st.dat i _ q
  rw [h] at e1
  cases e1
  exact r.parts st.sub
 ·obtain ⟨a,e1,r⟩:=st.thg i s m q t
  rw [h] at e1
  cases e1
  exact r.parts em
theorem RepRV.parts {v:V} {r:RV} {d:D} (h:RepRV K C z ρ F σ H v r) (st:RepSt K C B ρ F σ H) (e:r.see ρ=some d):RepP K C F H v d:=by
 cases r with
 | dat d'=>cases e; exact Rep.parts h st.sub
 | own m =>
  obtain ⟨a,rfl,rm,no⟩:=h
  exact rm.parts e
 | bor i=>exact slot_parts st h e
 | shr i=>exact slot_parts st h e
theorem RepRV.see {v:V} {r:RV} {d:D} (h:RepRV K C z ρ F σ H v r) (st:RepSt K C B ρ F σ H) (e:r.see ρ=some d):Rep K C H v d:=(h.parts st e).rep st.sub
theorem RepRV.keep {v:V} {r:RV} {d:D} (h:RepRV K C z ρ F σ H v r) (st:RepSt K C B ρ F σ H) (e:r.see ρ=some d) (n:∀ l,d≠.lst l):Rep K C F v d:=by
 have no:∀ m:MO,m.see=some d→False:=fun m em=>by
  cases m with
  | lst l=>cases em; exact n l rfl
  | _=>cases em
 have slot:∀ i:Nat,σ[i]?=some (some v)→slotSee ρ[i]?=some d→Rep K C F v d:=fun i h e=>by
  rcases slotSee_cases e with q | ⟨s,m,q,t,em⟩
  ·obtain ⟨v',e1,r⟩:=st.dat i _ q
   rw [h] at e1
   cases e1
   exact r
  ·exact (no m em).elim
 cases r with
 | dat d'=>cases e; exact h
 | own m=>exact (no m e).elim
 | bor i=>exact slot i h e
 | shr i=>exact slot i h e
theorem Rep.int_inv {v:V} {i:Int} (r:Rep K C F v (.int i)):v=.int i:=by cases r; rfl
theorem Rep.bl_inv {v:V} {b:Bool} (r:Rep K C F v (.bl b)):v=.bl b:=by cases r; rfl
theorem Rep.str_inv {v:V} {x:Str} (r:Rep K C F v (.str x)):v=.str x:=by cases r; rfl
theorem Rep.non_inv {v:V} (r:Rep K C F v .non):v=.non:=by cases r; rfl
theorem RepP.int_inv {v:V} {i:Int} (r:RepP K C F H v (.int i)):v=.int i:=Rep.int_inv r
theorem RepP.str_inv {v:V} {i:Str} (r:RepP K C F H v (.str i)):v=.str i:=Rep.str_inv r
theorem RepP.bl_inv {v:V} {i:Bool} (r:RepP K C F H v (.bl i)):v=.bl i:=Rep.bl_inv r
def D.items:D→Option (List D)
 | .lst l=>some l
 | .wri l=>some l
 | .tup l=>some l
 | _=>none
def RV.items (ρ:Sl) (r:RV):Option (List D):=(r.see ρ).bind D.items
theorem RepP.seq {v:V} {d:D} {l:List D} (r:RepP K C F H v d) (e:d.items=some l):∃ a vs,v=.ref a∧(SqL K H a vs∨SqT K H a vs)∧Reps K C F vs l:=by
 cases d with
 | lst l'=>cases e; obtain ⟨a,vs,rfl,q,z⟩:=r; exact ⟨a,vs,rfl,.inl (SqL.of q),z⟩
 | wri l'=>cases e; obtain ⟨a,vs,rfl,q,z⟩:=r; exact ⟨a,vs,rfl,.inl q,z⟩
 | tup l'=>cases e; obtain ⟨a,vs,rfl,q,z⟩:=r; exact ⟨a,vs,rfl,.inr q,z⟩
 | _=>cases e
theorem RepRV.items {v:V} {r:RV} {l:List D} (h:RepRV K C z ρ F σ H v r) (st:RepSt K C B ρ F σ H) (e:r.items ρ=some l):∃ a vs,v=.ref a∧(SqL K H a vs∨SqT K H a vs)∧Reps K C F vs l:=by
 unfold RV.items at e
 cases q:r.see ρ with
 | none=>rw [q] at e; cases e
 | some d =>
  rw [q] at e
  exact (h.parts st q).seq e
theorem Post.write (p:Post K C B z ρ F σ H) {i:Nat} {m m':MO} {a x:Addr} {o:HO} (e:ρ[i]?=some (some (.own m))) (s:σ[i]?=some (some (.ref a))) (fx:Foot H a m x) (r:RepM K C F (upd H x o) a m') (hf:∀ y,Foot (upd H x o) a m' y→Foot H a m y) :
  Post K C B z (ρ.set i (some (.own m'))) F σ (upd H x o):=by
 have own:∀ y,Foot H a m y→¬ Held (ρ.set i none) σ H y∧(z.S y∨z.H y=none):=fun y f=>by
  refine ⟨?_,p.low y ⟨i,m,a,e,s,f⟩⟩
  rintro ⟨j,sv,m',b,e1,t,e2,f2⟩
  rcases set_cases e1 with ⟨_,w,_⟩ | ⟨hj,w⟩
  ·cases w
  ·exact p.st.sep i j a b y m m' sv (Ne.symm hj) e w t s e2 f f2
 obtain ⟨b,eb,rm⟩:=p.st.own e
 rw [s] at eb
 cases eb
 have p1:=(p.drop i).aside (a:=x) (o:=o) (own x fx).2 (rm.foot fx).1 (own x fx).1
 have p2:=p1.putN (i:=i) (m:=m') (fun y=>set_none y) s r (fun y f=>⟨fun w=>(own y (hf y f)).1 ?_,(own y (hf y f)).2⟩) fun hi=>p.st.fix i m hi e
 ·rw [set_set_none] at p2
  exact p2
 ·obtain ⟨j,sv,m1,c,e1,t,e2,f2⟩:=w
  have nc:c≠x:=fun w=>(own x fx).1 (Held.of e1 t e2 (w ▸ Foot.root _ _ _))
  exact ⟨j,sv,m1,c,e1,t,e2,(Foot.same (upd_ne nc)).mp f2⟩
def lock1 (i:Nat) (ρ:Sl):Sl:=match ρ[i]? with
 | some (some (.own (.lst l)))=>ρ.set i (some (.lck (.lst l)))
 | _=>ρ
def free1 (i:Nat) (ρ:Sl):Sl:=match ρ[i]? with
 | some (some (.lck m))=>ρ.set i (some (.own m))
 | _=>ρ
def isOwnL (i:Nat) (ρ:Sl):Bool:=match ρ[i]? with
 | some (some (.own (.lst _)))=>true
 | _=>false
theorem isOwnL_inv {i:Nat} (h:isOwnL i ρ=true):∃ l,ρ[i]?=some (some (.own (.lst l))):=by
 unfold isOwnL at h
 split at h
 ·rename_i l e; exact ⟨l,e⟩
 ·cases h
theorem RepSt.lock (st:RepSt K C B ρ F σ H) (i:Nat):RepSt K C B (lock1 i ρ) F σ H:=by
 unfold lock1
 split
 ·rename_i l e
  have cs:∀ {j:Nat} {x:SV},(ρ.set i (some (.lck (.lst l))))[j]?=some (some x)→(j=i∧x=.lck (.lst l))∨(j≠i∧ρ[j]?=some (some x)):=fun h=>by
   rcases set_cases h with ⟨h1,y,_⟩ | h
   ·cases y; exact .inl ⟨h1,rfl⟩
   ·exact .inr h
  refine ⟨by rw [List.length_set]; exact st.len,st.sub,fun j d h=>?_,fun j s m h t=>?_,fun j k a b x m m' s n e1 e2 t q1 q2 f1 f2=>?_,fun j m hi h=>?_⟩
  ·rcases cs h with ⟨_,y⟩ | ⟨_,y⟩
   ·cases y
   ·exact st.dat j d y
  ·rcases cs h with ⟨rfl,rfl⟩ | ⟨_,y⟩
   ·cases t
    exact st.thg j _ _ e rfl
   ·exact st.thg j s m y t
  ·rcases cs e1 with ⟨_,y⟩ | ⟨_,y⟩
   ·cases y
   ·rcases cs e2 with ⟨rfl,rfl⟩ | ⟨_,y2⟩
    ·cases t
     exact st.sep j k a b x m _ _ n y e rfl q1 q2 f1 f2
    ·exact st.sep j k a b x m m' s n y y2 t q1 q2 f1 f2
  ·rcases cs h with ⟨_,y⟩ | ⟨_,y⟩
   ·cases y
   ·exact st.fix j m hi y
 ·exact st
theorem own_lock {i:Nat} {x:Addr} (h:OwnA (lock1 i ρ) σ H x):OwnA ρ σ H x:=by
 unfold lock1 at h
 split at h
 ·obtain ⟨j,m,a,e,q,f⟩:=h
  rcases set_cases e with ⟨_,y,_⟩ | ⟨_,y⟩
  ·cases y
  ·exact ⟨j,m,a,y,q,f⟩
 ·exact h
theorem held_lock {i:Nat} {x:Addr} (h:Held (lock1 i ρ) σ H x):Held ρ σ H x:=by
 unfold lock1 at h
 split at h
 ·rename_i l el
  obtain ⟨j,s,m,a,e,t,q,f⟩:=h
  rcases set_cases e with ⟨rfl,y,_⟩ | ⟨_,y⟩
  ·cases y
   cases t
   exact ⟨j,_,_,a,el,rfl,q,f⟩
  ·exact ⟨j,s,m,a,y,t,q,f⟩
 ·exact h
theorem held_free {i:Nat} {x:Addr} (h:Held (free1 i ρ) σ H x):Held ρ σ H x:=by
 unfold free1 at h
 split at h
 ·rename_i m0 el
  obtain ⟨j,s,m,a,e,t,q,f⟩:=h
  rcases set_cases e with ⟨rfl,y,_⟩ | ⟨_,y⟩
  ·cases y
   cases t
   exact ⟨j,_,_,a,el,rfl,q,f⟩
  ·exact ⟨j,s,m,a,y,t,q,f⟩
 ·exact h
theorem lock_apart (st:RepSt K C B ρ F σ H) {i:Nat} {l:List D} {a:Addr} (e:ρ[i]?=some (some (.own (.lst l)))) (s:σ[i]?=some (some (.ref a))):¬ OwnA (lock1 i ρ) σ H a:=by
 rintro ⟨j,m,b,e1,q,f⟩
 unfold lock1 at e1
 rw [e] at e1
 dsimp only at e1
 rcases set_cases e1 with ⟨_,y,_⟩ | ⟨n,y⟩
 ·cases y
 ·exact st.sep i j a b a (.lst l) m _ (Ne.symm n) e y rfl s q rfl f
theorem Post.unlock (p:Post K C B z ρ1 F1 σ1 H1) {i:Nat} (o:isOwnL i ρ1=true) (q:Post K C B (here (lock1 i ρ1) F1 σ1 H1) ρ2 F2 σ2 H2):Post K C B z (free1 i ρ2) F2 σ2 H2:=by
 obtain ⟨l,e⟩:=isOwnL_inv o
 obtain ⟨a,s,rm⟩:=p.st.own e
 have el:lock1 i ρ1=ρ1.set i (some (.lck (.lst l))):=by unfold lock1; rw [e]
 have ownz:∀ x,OwnA (lock1 i ρ1) σ1 H1 x→z.S x∨z.H x=none:=fun x h=>p.low x (own_lock h)
 have ap:=lock_apart p.st e s
 -- the slots' things that are read only
 have lkd:∀ {j:Nat} {m:MO} {b:Addr},ρ2[j]?=some (some (.lck m))→σ2[j]?=some (some (.ref b))→(j=i∧b=a∧m=.lst l)∨(j≠i∧ρ1[j]?=some (some (.lck m))∧σ1[j]?=some (some (.ref b))):=by
  intro j m b e1 q1
  obtain ⟨e2,q2⟩:=q.lks j b m ⟨e1,q1⟩
  rw [el] at e2
  rcases set_cases e2 with ⟨rfl,y,_⟩ | ⟨n,y⟩
  ·rw [s] at q2
   cases q2
   cases y
   exact .inl ⟨rfl,rfl,rfl⟩
  ·exact .inr ⟨n,y,q2⟩
 have lo:∀ x,OwnA ρ2 σ2 H2 x→z.S x∨z.H x=none:=fun x h=>by
  rcases q.low x h with y | y
  ·exact ownz x y
  ·exact p.there y
 have loL:∀ x,Held ρ2 σ2 H2 x→z.L x∨z.H x=none:=fun x h=>by
  rcases q.lowL x h with y | y
  ·exact p.lowL x (held_lock y)
  ·exact p.old y
 have frm:∀ b u,z.H b=some u→¬ z.S b→H2 b=some u:=fun b u e1 n=>q.frame b u (p.frame b u e1 n) fun y=>(ownz b y).elim n fun w=>by rw [w] at e1; cases e1
 have nw:∀ b u,F2 b=some u→z.F b=some u∨z.H b=none∨z.S b:=fun b u e1=>by
  rcases q.new b u e1 with y | y | y
  ·exact p.new b u y
  ·exact .inr (p.there y).symm
  ·exact .inr (ownz b y).symm
 have pb:Post K C B z (ρ2.set i none) F2 σ2 H2:=by
  refine ⟨p.mono.trans q.mono,frm,nw,((Post.start q.st).drop i).st,fun x=>?_,fun x h=>loL x (Held.drop h),p.good,fun j b m=>?_⟩
  ·rintro ⟨j,m,b,e1,q1,f⟩
   rcases set_cases e1 with ⟨_,y,_⟩ | ⟨_,y⟩
   ·cases y
   ·exact lo x ⟨j,m,b,y,q1,f⟩
  ·rintro ⟨e1,q1⟩
   rcases set_cases e1 with ⟨_,y,_⟩ | ⟨n,y⟩
   ·cases y
   ·rcases lkd y q1 with ⟨w,_⟩ | ⟨_,e2,q2⟩
    ·exact (n w).elim
    ·exact p.lks j b m ⟨e2,q2⟩
 unfold free1
 split
 ·rename_i m e2
  obtain ⟨b,q1,r⟩:=q.st.thg i _ m e2 rfl
  rcases lkd e2 q1 with ⟨_,rfl,rfl⟩ | ⟨n,_⟩
  ·have foot:∀ x,Foot H2 b (.lst l) x→¬ Held (ρ2.set i none) σ2 H2 x∧(z.S x∨z.H x=none):=by
    intro x f
    obtain rfl:x=b:=f
    refine ⟨?_,p.low x ⟨i,_,x,e,s,rfl⟩⟩
    rintro ⟨j,sv,m',c,e3,t,q3,f3⟩
    rcases set_cases e3 with ⟨_,w,_⟩ | ⟨hj,w⟩
    ·cases w
    ·cases sv with
     | dat d=>cases t
     | own m1=>exact q.st.sep j i c x x m1 _ _ hj w e2 rfl q3 q1 (by cases t; exact f3) rfl
     | lck m' =>
      cases t
      rcases lkd w q3 with ⟨w',_⟩ | ⟨_,e4,q4⟩
      ·exact hj w'
      ·-- that slot's thing stands as it stood
       obtain ⟨c',qc,rc⟩:=p.st.thg j _ m' e4 rfl
       rw [q4] at qc
       cases qc
       obtain ⟨nc,oc,hc⟩:=rc.foot (Foot.root H1 c m')
       have nOwn:¬ OwnA (lock1 i ρ1) σ1 H1 c:=by
        rintro ⟨k,m2,d,e5,q5,f5⟩
        rw [el] at e5
        rcases set_cases e5 with ⟨_,y,_⟩ | ⟨_,y⟩
        ·cases y
        ·by_cases hk:k=j
         ·subst hk
          rw [e4] at y
          cases y
         ·exact p.st.sep k j d c c m2 m' _ hk y e4 rfl q5 q4 f5 (Foot.root _ _ _)
       have st:=(q.stays nc hc nOwn).1
       exact p.st.sep i j x c x (.lst l) m' _ (Ne.symm hj) e e4 rfl s q4 rfl ((Foot.same st).mp f3)
   have:=pb.putN (i:=i) (m:=.lst l) (a:=b) (fun y=>set_none y) q1 r foot fun hi=>by
    obtain ⟨c,h1,h2⟩:=p.st.fix i _ hi e
    rw [s] at h2
    cases h2
    exact ⟨b,h1,q1⟩
   rw [set_set_none] at this
   exact this
  ·exact (n rfl).elim
 ·rename_i n
  refine ⟨p.mono.trans q.mono,frm,nw,q.st,lo,loL,p.good,fun j b m=>?_⟩
  rintro ⟨e1,q1⟩
  rcases lkd e1 q1 with ⟨rfl,_,_⟩ | ⟨_,e2,q2⟩
  ·exact (n m e1).elim
  ·exact p.lks j b m ⟨e2,q2⟩
theorem RepRV.unlock (p:Post K C B z ρ1 F1 σ1 H1) {i:Nat} {v:V} {r:RV} (h:RepRV K C (here (lock1 i ρ1) F1 σ1 H1) ρ2 F2 σ2 H2 v r):RepRV K C z (free1 i ρ2) F2 σ2 H2 v r:=by
 cases r with
 | dat d=>exact h
 | bor j=>exact h
 | shr j=>exact h
 | own m =>
  obtain ⟨a,e,rm,no⟩:=h
  refine ⟨a,e,rm,fun x f=>⟨fun y=>(no x f).1 (held_free y),?_⟩⟩
  rcases (no x f).2 with y | y
  ·exact p.low x (own_lock y)
  ·exact p.there y
end
end Pl
namespace Pl
open PySem PySem.Spec PyProof.Rows L2 Tk
theorem line10000 {n:Nat} (h:n≤10000):n≤sizeLine:=Nat.le_trans h (by decide)
theorem line10000' {n:Nat} (h:n < 10000):n < sizeLine:=Nat.lt_of_lt_of_le h (by decide)
def dVar (i:Nat):DE:=fun ρ=>match ρ[i]? with
 | some (some (.dat d))=>some (.ok (.dat d) ρ)
 | some (some _)=>some (.ok (.bor i) ρ)
 | _=>none
section
variable {X:Cx} {C:Cl} {B:Bw} {W:WX} {pos:Pos}
theorem pd_var {i:Nat} {x:Str} (h:PE X (.Name x pos) (tVar i)):PD X C B W (.Name x pos) (dVar i):=PE.conv h fun σ H Q ⟨ρ,F,st,g⟩=>by
 unfold dVar at g
 split at g
 ·rename_i d e
  obtain ⟨v,e1,r⟩:=st.dat i d e
  exact ⟨v,e1,g v F H (Post.start st) r⟩
 ·rename_i s n e
  cases s with
  | dat d=>exact (n d rfl).elim
  | own m=>obtain ⟨a,e1,_⟩:=st.thg i _ m e rfl; exact ⟨_,e1,g _ F H (Post.start st) e1⟩
  | lck m=>obtain ⟨a,e1,_⟩:=st.thg i _ m e rfl; exact ⟨_,e1,g _ F H (Post.start st) e1⟩
 ·exact False.elim g
theorem pd_const {e:Expr} {v:V} {d:D} (h:PE X e (tC v)) (r:∀ F,Rep X.K C F v d):PD X C B W e (retE (.dat d)):=PE.conv h fun σ H Q ⟨ρ,F,st,g⟩=>g v F H (Post.start st) (r F)
theorem pd_int {i:Int} {j}:PD X C B W (.Constant (.int i) j pos) (retE (.dat (.int i))):=pd_const pe_int fun _=>.int i
theorem pd_bl {b:Bool} {j}:PD X C B W (.Constant (.bool b) j pos) (retE (.dat (.bl b))):=pd_const pe_bl fun _=>.bl b
theorem pd_str {x:Str} {j}:PD X C B W (.Constant (.str x) j pos) (retE (.dat (.str x))):=pd_const pe_str fun _=>.str x
theorem pd_non {j}:PD X C B W (.Constant .none j pos) (retE (.dat .non)):=pd_const pe_non fun _=>.non
end
def Op2 (K:PySem.W.Frag) (C:Cl) (r:R2) (g:RV→RV→DE):Prop:=∀ (B:Bw) (W:WX) (z:At0) (ρ:Sl) (σ:L2.St) (F H:Hp) (x y:V) (r1 r2:RV) (Q:VK),
 Post K C B z ρ F σ H→RepRV K C z ρ F σ H x r1→RepRV K C z ρ F σ H y r2→Goal K C B W z σ Q (g r1 r2 ρ)→r x y H Q
def dBin (g:RV→RV→DE) (fa fb:DE):DE:=bindE fa fun r1=>bindE fb fun r2=>g r1 r2
def lift2 (h:D→D→Option D) (r1 r2:RV):DE:=fun ρ=>match r1.see ρ,r2.see ρ with
 | some a,some b=>match h a b with
  | some d=>some (.ok (.dat d) ρ)
  | none=>none
 | _,_=>none
def Sc2 (K:PySem.W.Frag) (C:Cl) (r:R2) (h:D→D→Option D):Prop:=∀ (H:Hp) (x y:V) (a b d:D) (Q:VK),Rep K C H x a→Rep K C H y b→h a b=some d→(∀ v,(∀ F,Rep K C F v d)→Q v H)→r x y H Q
theorem Sc2.op {K:PySem.W.Frag} {C:Cl} {r:R2} {h:D→D→Option D} (s:Sc2 K C r h):Op2 K C r (lift2 h):=by
 intro B W z ρ σ F H x y r1 r2 Q p q1 q2 g
 unfold lift2 at g
 split at g
 ·rename_i a b e1 e2
  split at g
  ·rename_i d e
   exact s H x y a b d Q (q1.see p.st e1) (q2.see p.st e2) e fun v r=>g v F H p (r F)
  ·exact False.elim g
 ·exact False.elim g
theorem Op2.or {K:PySem.W.Frag} {C:Cl} {r r':R2} {g g':RV→RV→DE} (h:Op2 K C r g) (h':Op2 K C r' g'):Op2 K C (fun x y H Q=>r x y H Q∨r' x y H Q) (fun r1 r2 ρ=>match g r1 r2 ρ with | some o=>some o | none=>g' r1 r2 ρ):=by
 intro B W z ρ σ F H x y r1 r2 Q p q1 q2 q
 dsimp only at q
 cases e:g r1 r2 ρ with
 | some o=>rw [e] at q; exact .inl (h B W z ρ σ F H x y r1 r2 Q p q1 q2 (by rw [e]; exact q))
 | none=>rw [e] at q; exact .inr (h' B W z ρ σ F H x y r1 r2 Q p q1 q2 q)
section
variable {X:Cx} {C:Cl} {B:Bw} {W:WX} {a b:Expr} {fa fb:DE} {pos:Pos} {r:R2} {g:RV→RV→DE}
theorem op2_run (og:Op2 X.K C r g) {σ:L2.St} {H:Hp} {Q:VK} (h:tD X.K C B W (dBin g fa fb) σ H Q):tOp r (tD X.K C B W fa) (tD X.K C B W fb) σ H Q:=by
 obtain ⟨ρ,F,st,g0⟩:=h
 refine tG_bind (Post.start st) g0 fun r1 ρ1 v1 F1 H1 g1 p1 _ q1=>tG_bind p1 g1 fun r2 ρ2 v2 F2 H2 g2 p2 s2 q2=>?_
 exact og B W _ ρ2 σ F2 H2 v1 v2 r1 r2 Q p2 (RepRV.carry q1 s2) q2 g2
theorem pd_bin {op:Operator} (ho:OpR X (binaryOp op) r) (og:Op2 X.K C r g) (ha:PD X C B W a fa) (hb:PD X C B W b fb):PD X C B W (.BinOp a op b pos) (dBin g fa fb):=PE.conv (pe_op ho ha hb) fun _ _ _ h=>op2_run og h
theorem pd_cmp {op:CmpOp} (ho:OpR X (compareOp op) r) (og:Op2 X.K C r g) (ha:PD X C B W a fa) (hb:PD X C B W b fb) (hm:behindInMarks op b=false):PD X C B W (.Compare a [op] [b] pos) (dBin g fa fb):=PE.conv (pe_cmpR ho ha hb hm) fun _ _ _ h=>op2_run og h
theorem pd_ixR (hr:IxR X r) (og:Op2 X.K C r g) (ha:PD X C B W a fa) (hb:PD X C B W b fb) (hs:PlainIx b):PD X C B W (.Subscript a b pos) (dBin g fa fb):=PE.conv (pe_ix hr ha hb hs) fun _ _ _ h=>op2_run og h
end
def hI (f:Int→Int→Option D):D→D→Option D
 | .int a,.int b=>f a b
 | _,_=>none
theorem hI_inv {f:Int→Int→Option D} {a b d:D} (h:hI f a b=some d):∃ i j,a=.int i∧b=.int j∧f i j=some d:=by
 match a,b,h with
 | .int i,.int j,h=>exact ⟨i,j,rfl,rfl,h⟩
def cMul (i j:Int):Bool:=(decide (i.natAbs < 2 ^ 64) || decide (j.natAbs < 2 ^ 64)) || decide (i.natAbs.log2+j.natAbs.log2 < 1000000)
def cDiv (i j:Int):Bool:=decide (0 < j) && decide (j.natAbs.log2 < 9000)
def cPow (i j:Int):Bool:=decide (0≤j) && decide (j≤1000000) && decide (i.natAbs < 2 ^ 64)
section
variable {K:PySem.W.Frag} {C:Cl} {X:Cx}
theorem sc_I0 {g:Int→Int→V} {f:Int→Int→D} (rep:∀ i j F,Rep K C F (g i j) (f i j)):Sc2 K C (rI0 g) (hI fun i j=>some (f i j)):=by
 intro H x y a b d Q ra rb e q
 obtain ⟨i,j,rfl,rfl,h⟩:=hI_inv e
 cases h
 exact ⟨i,j,ra.int_inv,rb.int_inv,q _ (rep i j)⟩
theorem sc_I {Cd:Int→Int→Prop} {c:Int→Int→Bool} {g:Int→Int→V} {f:Int→Int→D} (hc:∀ i j,c i j=true→Cd i j) (rep:∀ i j F,Rep K C F (g i j) (f i j)):Sc2 K C (rI Cd g) (hI fun i j=>if c i j=true then some (f i j) else none):=by
 intro H x y a b d Q ra rb e q
 obtain ⟨i,j,rfl,rfl,h⟩:=hI_inv e
 by_cases hh:c i j=true
 ·rw [if_pos hh] at h
  cases h
  exact ⟨i,j,ra.int_inv,rb.int_inv,hc i j hh,q _ (rep i j)⟩
 ·rw [if_neg hh] at h
  cases h
abbrev gSub:=lift2 (hI fun i j=>some (.int (i - j)))
abbrev gFdiv:=lift2 (hI fun i j=>if cDiv i j=true then some (.int (i / j)) else none)
abbrev gMod:=lift2 (hI fun i j=>if decide (0 < j)=true then some (.int (i % j)) else none)
abbrev gPow:=lift2 (hI fun i j=>if cPow i j=true then some (.int (i ^ j.toNat)) else none)
abbrev gLt:=lift2 (hI fun i j=>some (.bl (decide (i < j))))
abbrev gGt:=lift2 (hI fun i j=>some (.bl (decide (j < i))))
abbrev gGe:=lift2 (hI fun i j=>some (.bl (decide (j≤i))))
theorem o_sub:Op2 K C (rI0 fun i j=>.int (i - j)) gSub:=(sc_I0 fun _ _ _=>.int _).op
theorem o_fdiv:Op2 K C (rI CDivW fun i j=>.int (i / j)) gFdiv:=(sc_I (fun i j h=>by unfold cDiv at h; simp only [Bool.and_eq_true,decide_eq_true_eq] at h; exact h) fun _ _ _=>.int _).op
theorem o_mod:Op2 K C (rI (fun _ j=>0 < j) fun i j=>.int (i % j)) gMod:=(sc_I (fun i j h=>of_decide_eq_true h) fun _ _ _=>.int _).op
theorem o_pow:Op2 K C (rI CPow fun i j=>.int (i ^ j.toNat)) gPow:=(sc_I (fun i j h=>by unfold cPow at h; simp only [Bool.and_eq_true,decide_eq_true_eq] at h; exact ⟨h.1.1,h.1.2,h.2⟩) fun _ _ _=>.int _).op
theorem o_lt:Op2 K C (rI0 fun i j=>.bl (decide (i < j))) gLt:=(sc_I0 fun _ _ _=>.bl _).op
theorem o_gt:Op2 K C (rI0 fun i j=>.bl (decide (j < i))) gGt:=(sc_I0 fun _ _ _=>.bl _).op
theorem o_ge:Op2 K C (rI0 fun i j=>.bl (decide (j≤i))) gGe:=(sc_I0 fun _ _ _=>.bl _).op
def gAdd (r1 r2:RV):DE:=fun ρ=>match r1.see ρ,r2.see ρ with
 | some (.int a),some (.int b)=>some (.ok (.dat (.int (a+b))) ρ)
 | some (.str a),some (.str b)=>if a.length+b.length≤10000 then some (.ok (.dat (.str (a++b))) ρ) else none
 | some (.lst a),some (.lst b)=>if a.length+b.length≤10000 then some (.ok (.own (.lst (a++b))) ρ) else none
 | some (.tup a),some (.tup b)=>if a.length+b.length≤10000 then some (.ok (.dat (.tup (a++b))) ρ) else none
 | _,_=>none
theorem op_addA:OpR X (binaryOp .Add) (fun x y H Q=>rI0 (fun i j=>.int (i+j)) x y H Q∨(∃ i j,x=.str i∧y=.str j∧i.length+j.length≤sizeLine∧Q (.str (i++j)) H)∨rCat x y H Q∨rCatA X.K x y H Q):=op_add.or (op_add_str.or (op_cat.or op_catA))
theorem o_add:Op2 K C (fun x y H Q=>rI0 (fun i j=>.int (i+j)) x y H Q∨(∃ i j,x=.str i∧y=.str j∧i.length+j.length≤sizeLine∧Q (.str (i++j)) H)∨rCat x y H Q∨rCatA K x y H Q) gAdd:=by
 intro B W z ρ σ F H x y r1 r2 Q p q1 q2 g
 unfold gAdd at g
 split at g
 ·rename_i e1 e2
  exact .inl ⟨_,_,(q1.see p.st e1).int_inv,(q2.see p.st e2).int_inv,g _ F H p (.int _)⟩
 ·rename_i a b e1 e2
  by_cases h:a.length+b.length≤10000
  ·rw [if_pos h] at g
   exact .inr (.inl ⟨_,_,(q1.see p.st e1).str_inv,(q2.see p.st e2).str_inv,line10000 h,g _ F H p (.str _)⟩)
  ·rw [if_neg h] at g
   exact False.elim g
 ·rename_i a b e1 e2
  by_cases h:a.length+b.length≤10000
  ·rw [if_pos h] at g
   obtain ⟨a1,vs1,rfl,h1,z1⟩:=q1.parts p.st e1
   obtain ⟨a2,vs2,rfl,h2,z2⟩:=q2.parts p.st e2
   exact .inr (.inr (.inl ⟨a1,a2,vs1,vs2,rfl,rfl,h1,h2,by rw [z1.length,z2.length]; exact line10000 h,fun l n=>g.newL p n (z1.append z2)⟩))
  ·rw [if_neg h] at g
   exact False.elim g
 ·rename_i a b e1 e2
  by_cases h:a.length+b.length≤10000
  ·rw [if_pos h] at g
   obtain ⟨a1,vs1,rfl,h1,z1⟩:=q1.parts p.st e1
   obtain ⟨a2,vs2,rfl,h2,z2⟩:=q2.parts p.st e2
   refine .inr (.inr (.inr ⟨a1,a2,vs1,vs2,rfl,rfl,h1,h2,by rw [z1.length,z2.length]; exact line10000 h,?_⟩))
   refine ⟨fun h0=>?_,fun _ h0=>?_,fun _ _ l n=>g.newT p n (z1.append z2)⟩
   ·subst h0
    cases z1
    exact g _ F H p (q2.keep p.st e2 fun _ z=>by cases z)
   ·subst h0
    cases z2
    rw [List.append_nil] at g
    exact g _ F H p (q1.keep p.st e1 fun _ z=>by cases z)
  ·rw [if_neg h] at g
   exact False.elim g
 ·exact False.elim g
def gMul (r1 r2:RV):DE:=fun ρ=>match r1.see ρ,r2.see ρ with
 | some (.int a),some (.int b)=>if cMul a b=true then some (.ok (.dat (.int (a * b))) ρ) else none
 | some (.lst a),some (.int b)=>if decide (0≤b) && decide (b≤1000) && decide (a.length≤10) then some (.ok (.own (.lst (List.replicate b.toNat a).flatten)) ρ) else none
 | some (.tup a),some (.int b)=>if decide (0 < a.length) && decide (2≤b) && decide (b≤1000) && decide (a.length≤10) then some (.ok (.dat (.tup (List.replicate b.toNat a).flatten)) ρ) else none
 | _,_=>none
theorem op_mulA:OpR X (binaryOp .Mult) (fun x y H Q=>(rI CMul (fun i j=>.int (i * j)) x y H Q∨rI CMulW (fun i j=>.int (i * j)) x y H Q)∨rRep x y H Q∨rRepT X.K x y H Q):=(op_mul.or op_mulW).or (op_rep.or op_repT)
theorem Reps.times {F:Hp} {vs:List V} {ds:List D} (r:Reps K C F vs ds):∀ n:Nat,Reps K C F (List.replicate n vs).flatten (List.replicate n ds).flatten
 | 0=>.nil
 | n+1=>by
  rw [List.replicate_succ,List.replicate_succ,List.flatten_cons,List.flatten_cons]
  exact r.append (Reps.times r n)
theorem o_mul:Op2 K C (fun x y H Q=>(rI CMul (fun i j=>.int (i * j)) x y H Q∨rI CMulW (fun i j=>.int (i * j)) x y H Q)∨rRep x y H Q∨rRepT K x y H Q) gMul:=by
 intro B W z ρ σ F H x y r1 r2 Q p q1 q2 g
 unfold gMul at g
 split at g
 ·rename_i a b e1 e2
  by_cases h:cMul a b=true
  ·rw [if_pos h] at g
   have q:=g _ F H p (.int _)
   have x1:=(q1.see p.st e1).int_inv
   have y1:=(q2.see p.st e2).int_inv
   unfold cMul at h
   simp only [Bool.or_eq_true,decide_eq_true_eq] at h
   rcases h with (h | h) | h
   ·exact .inl (.inl ⟨_,_,x1,y1,.inl ⟨by omega,by omega⟩,q⟩)
   ·exact .inl (.inl ⟨_,_,x1,y1,.inr ⟨by omega,by omega⟩,q⟩)
   ·exact .inl (.inr ⟨_,_,x1,y1,h,q⟩)
  ·rw [if_neg h] at g
   exact False.elim g
 ·rename_i a b e1 e2
  split at g
  ·rename_i h
   simp only [Bool.and_eq_true,decide_eq_true_eq] at h
   obtain ⟨a1,vs1,rfl,h1,z1⟩:=q1.parts p.st e1
   refine .inr (.inl ⟨a1,b,vs1,rfl,(q2.see p.st e2).int_inv,h1,by omega,by omega,?_,fun l n=>g.newL p n (z1.times _)⟩)
   rw [z1.length]
   refine line10000 (Nat.le_trans (Nat.mul_le_mul h.2 (show b.toNat≤1000 by omega)) (by decide))
  ·exact False.elim g
 ·rename_i a b e1 e2
  split at g
  ·rename_i h
   simp only [Bool.and_eq_true,decide_eq_true_eq] at h
   obtain ⟨a1,vs1,rfl,h1,z1⟩:=q1.parts p.st e1
   have l1:=z1.length
   refine .inr (.inr ⟨a1,b,vs1,rfl,(q2.see p.st e2).int_inv,h1,fun z=>by rw [z] at l1; simp at l1; omega,by omega,by omega,by omega,fun l n=>g.newT p n (z1.times _)⟩)
  ·exact False.elim g
 ·exact False.elim g
def ixD (d:D) (i:Int):Option D:=match d with
 | .lst l=>atI l i
 | .tup l=>atI l i
 | .wri l=>atI l i
 | .str z=>if z.length≤10000 then (atI z.cps.toList i).map fun c=>.str ⟨#[c]⟩ else none
 | _=>none
def gIx (r1 r2:RV):DE:=fun ρ=>match r1.see ρ,r2.see ρ with
 | some d,some (.int i)=>match ixD d i with
  | some z=>some (.ok (.dat z) ρ)
  | none=>none
 | _,_=>none
theorem atI_reps {F:Hp} {vs:List V} {ds:List D} {i:Int} {d:D} (r:Reps K C F vs ds) (e:atI ds i=some d):∃ v,atI vs i=some v∧Rep K C F v d:=by
 unfold atI at e ⊢
 rw [r.length]
 cases h:ixN ds.length i with
 | none=>rw [h] at e; cases e
 | some j =>
  rw [h] at e
  exact r.at e
theorem o_ix:Op2 K C (rIx K) gIx:=by
 intro B W z ρ σ F H x y r1 r2 Q p q1 q2 g
 unfold gIx at g
 split at g
 ·rename_i d i e1 e2
  have yi:=(q2.see p.st e2).int_inv
  split at g
  ·rename_i z ez
   cases d with
   | lst l =>
    obtain ⟨a1,vs1,rfl,h1,z1⟩:=q1.parts p.st e1
    obtain ⟨v,ev,rv⟩:=atI_reps z1 ez
    exact .inl ⟨_,_,_,_,rfl,yi,SqL.of h1,ev,g _ F H p rv⟩
   | wri l =>
    obtain ⟨a1,vs1,rfl,h1,z1⟩:=q1.parts p.st e1
    obtain ⟨v,ev,rv⟩:=atI_reps z1 ez
    exact .inl ⟨_,_,_,_,rfl,yi,h1,ev,g _ F H p rv⟩
   | tup l =>
    obtain ⟨a1,vs1,rfl,h1,z1⟩:=q1.parts p.st e1
    obtain ⟨v,ev,rv⟩:=atI_reps z1 ez
    exact .inr (.inl ⟨_,_,_,_,rfl,yi,h1,ev,g _ F H p rv⟩)
   | str s =>
    unfold ixD at ez
    dsimp only at ez
    split at ez
    ·rename_i hl
     cases hc:atI s.cps.toList i with
     | none=>rw [hc] at ez; cases ez
     | some c =>
      rw [hc] at ez
      cases ez
      exact .inr (.inr ⟨s,i,c,(q1.see p.st e1).str_inv,yi,line10000 hl,hc,g _ F H p (.str _)⟩)
    ·cases ez
   | _=>cases ez
  ·exact False.elim g
 ·exact False.elim g
end
mutual
def D.py:D→PyData
 | .non=>.none
 | .bl b=>.bool b
 | .int i=>.int i
 | .str x=>.str x
 | .lst l=>.list (D.pys l)
 | .wri l=>.list (D.pys l)
 | .tup l=>.tuple (D.pys l)
 | .obj _ _=>.dict []
 | .ty _=>.dict []
 | .cls _=>.dict []
 | .dic _ _ _=>.dict []
def D.pys:List D→List PyData
 | []=>[]
 | d :: r=>d.py :: D.pys r
end
mutual
def D.isPy:D→Bool
 | .non=>true
 | .bl _=>true
 | .int _=>true
 | .str _=>true
 | .lst l=>D.arePy l
 | .wri l=>D.arePy l
 | .tup l=>D.arePy l
 | .obj _ _=>false
 | .ty _=>false
 | .cls _=>false
 | .dic _ _ _=>false
def D.arePy:List D→Bool
 | []=>true
 | d :: r=>d.isPy && D.arePy r
end
section
variable {K:PySem.W.Frag} {C:Cl} {F:Hp}
mutual
theorem Rep.dp:∀ (d:D) (v:V),Rep K C F v d→d.isPy=true→Dp K F v d.py
 | .non,_,h,_=>by cases h; exact .non
 | .bl b,_,h,_=>by cases h; exact .bl b
 | .int i,_,h,_=>by cases h; exact .int i
 | .str x,_,h,_=>by cases h; exact .str x
 | .lst ds,_,h,e=>by cases h with | lst q r=>exact .lst (SqL.of q) (Reps.dp ds _ r e)
 | .wri ds,_,h,e=>by cases h with | wri q r=>exact .lst q (Reps.dp ds _ r e)
 | .tup ds,_,h,e=>by cases h with | tup q r=>exact .tup q (Reps.dp ds _ r e)
 | .obj _ _,_,_,e=>by cases e
 | .ty _,_,_,e=>by cases e
 | .cls _,_,_,e=>by cases e
 | .dic _ _ _,_,_,e=>by cases e
theorem Reps.dp:∀ (ds:List D) (vs:List V),Reps K C F vs ds→D.arePy ds=true→DpAll K F vs (D.pys ds)
 | [],_,h,_=>by cases h; exact .nil
 | d :: ds,_,h,e=>by
  rw [D.arePy,Bool.and_eq_true] at e
  cases h with
  | cons x r=>exact .cons (Rep.dp d _ x e.1) (Reps.dp ds _ r e.2)
end
end
def D.plain (d:D):Bool:=d.isPy && SeqAt.shaped d.py
def sEq:D→D→Option Bool
 | .int i,.int j=>some (decide (i=j))
 | .str i,.str j=>some (decide (i=j))
 | .bl i,.bl j=>some (decide (i=j))
 | .non,.non=>some true
 | .non,.int _=>some false
 | .int _,.non=>some false
 | .non,.bl _=>some false
 | .bl _,.non=>some false
 | .non,.str _=>some false
 | .str _,.non=>some false
 | .int _,.str _=>some false
 | .str _,.int _=>some false
 | .bl _,.str _=>some false
 | .str _,.bl _=>some false
 | _,_=>none
def dEq (a b:D):Option Bool:=match sEq a b with
 | some c=>some c
 | none=>if a.plain && b.plain then some (PyData.eqv a.py b.py) else none
def hEq (a b:D):Option D:=(dEq a b).map fun c=>.bl c
def hNe (a b:D):Option D:=(dEq a b).map fun c=>.bl !c
abbrev gEq:=lift2 hEq
abbrev gNe:=lift2 hNe
section
variable {K:PySem.W.Frag} {C:Cl} {X:Cx}
theorem sEq_scal {H:Hp} {x y:V} {a b:D} {c:Bool} (ra:Rep K C H x a) (rb:Rep K C H y b) (e:sEq a b=some c):scal x y=true∧decide (x=y)=c:=by
 cases ra <;> cases rb <;> first
  | (cases e; done)
  | (cases e; exact ⟨rfl,by simp⟩)
theorem op_eqA (hu:X.A.units+64 < cLine):OpR X (compareOp .Eq) (fun x y H Q=>rEq x y H Q∨rEqD X.K x y H Q):=op_eq.or (op_eqD hu)
theorem op_neA (hu:X.A.units+64 < cLine):OpR X (compareOp .NotEq) (fun x y H Q=>rNe x y H Q∨rNeD X.K x y H Q):=op_ne.or (op_neD hu)
theorem dEq_cases {a b:D} {c:Bool} (h:dEq a b=some c):sEq a b=some c∨(a.isPy=true∧b.isPy=true∧SeqAt.shaped a.py=true∧SeqAt.shaped b.py=true∧PyData.eqv a.py b.py=c):=by
 unfold dEq at h
 split at h
 ·rename_i c' e
  cases h
  exact .inl e
 ·split at h
  ·rename_i p
   cases h
   unfold D.plain at p
   simp only [Bool.and_eq_true] at p
   exact .inr ⟨p.1.1,p.2.1,p.1.2,p.2.2,rfl⟩
  ·cases h
theorem o_eq:Op2 K C (fun x y H Q=>rEq x y H Q∨rEqD K x y H Q) gEq:=Sc2.op (by
 intro H x y a b d Q ra rb e q
 unfold hEq at e
 cases h:dEq a b with
 | none=>rw [h] at e; cases e
 | some c =>
  rw [h] at e
  cases e
  rcases dEq_cases h with s | ⟨p1,p2,s1,s2,z⟩
  ·obtain ⟨t1,t2⟩:=sEq_scal ra rb s
   refine .inl ⟨t1,?_⟩
   rw [t2]
   exact q _ fun F=>.bl _
  ·refine .inr ⟨_,_,Rep.dp _ _ ra p1,Rep.dp _ _ rb p2,s1,s2,?_⟩
   rw [z]
   exact q _ fun F=>.bl _)
theorem o_ne:Op2 K C (fun x y H Q=>rNe x y H Q∨rNeD K x y H Q) gNe:=Sc2.op (by
 intro H x y a b d Q ra rb e q
 unfold hNe at e
 cases h:dEq a b with
 | none=>rw [h] at e; cases e
 | some c =>
  rw [h] at e
  cases e
  rcases dEq_cases h with s | ⟨p1,p2,s1,s2,z⟩
  ·obtain ⟨t1,t2⟩:=sEq_scal ra rb s
   refine .inl ⟨t1,?_⟩
   rw [t2]
   exact q _ fun F=>.bl _
  ·refine .inr ⟨_,_,Rep.dp _ _ ra p1,Rep.dp _ _ rb p2,s1,s2,?_⟩
   rw [z]
   exact q _ fun F=>.bl _)
def isNon:D→Bool
 | .non=>true
 | _=>false
def hIsN (a b:D):Option D:=match b with
 | .non=>some (.bl (isNon a))
 | _=>none
def hNotN (a b:D):Option D:=match b with
 | .non=>some (.bl (!isNon a))
 | _=>none
abbrev gNotN:=lift2 hNotN
theorem Rep.isNon {F:Hp} {v:V} {d:D} (r:Rep K C F v d):decide (v=.non)=isNon d:=by
 cases r <;> simp [Pl.isNon]
theorem o_notN:Op2 K C (fun x y H Q=>y=.non∧Q (.bl (!decide (x=.non))) H) gNotN:=Sc2.op (by
 intro H x y a b d Q ra rb e q
 unfold hNotN at e
 split at e
 ·cases e
  refine ⟨rb.non_inv,?_⟩
  rw [ra.isNon]
  exact q _ fun F=>.bl _
 ·cases e)
end
def froze (f:DE):DE:=bindE f fun r ρ=>match toDat r ρ with
 | some (.ok d ρ')=>some (.ok (.dat d) ρ')
 | _=>none
def asB (f:DE):Ef Bool:=bindE f fun r ρ=>match r.see ρ with
 | some (.bl b)=>some (.ok b ρ)
 | _=>none
def dAndT (fa fb:Ef Bool):Ef Bool:=bindE fa fun c=>if c=true then fb else retE false
def dOrT (fa fb:Ef Bool):Ef Bool:=bindE fa fun c=>if c=true then retE true else fb
def dNotT (fa:Ef Bool):Ef Bool:=bindE fa fun c=>retE (!c)
def dAndV (fa fb:DE):DE:=bindE (asB fa) fun c=>if c=true then fb else retE (.dat (.bl false))
def dOrV (fa fb:DE):DE:=bindE (asB fa) fun c=>if c=true then retE (.dat (.bl true)) else fb
def dNotV (fa:DE):DE:=bindE (asB fa) fun c=>retE (.dat (.bl (!c)))
def dIfE (fc:Ef Bool) (fa fb:DE):DE:=bindE fc fun c=>if c=true then fa else fb
section
variable {X:Cx} {C:Cl} {B:Bw} {W:WX} {a b c:Expr} {fa fb:DE} {ta tb:Ef Bool} {pos:Pos} {rest:List Expr}
theorem pd_frz (h:PD X C B W a fa):PD X C B W a (froze fa):=PE.conv h fun σ H Q ⟨ρ,F,st,g⟩=>tG_bind (Post.start st) g fun r1 ρ1 v F1 H1 g1 p1 _ q1=>by
 try dsimp only at g1
 split at g1
 ·rename_i d ρ' e
  obtain ⟨F2,p2,r2,_⟩:=p1.toDat q1 e
  exact g1 v F2 H1 p2 r2
 ·exact False.elim g1
theorem asB_run {K:PySem.W.Frag} {σ:L2.St} {H:Hp} {Q:Bool→Hp→Prop} (h:tT K C B W (asB fa) σ H Q):tD K C B W fa σ H fun x H1=>∃ k,x=.bl k∧Q k H1:=by
 obtain ⟨ρ,F,st,g⟩:=h
 refine tG_bind (Post.start st) g fun r1 ρ1 v F1 H1 g1 p1 _ q1=>?_
 try dsimp only at g1
 split at g1
 ·rename_i k e
  exact ⟨k,(RepRV.see q1 p1.st e).bl_inv,g1 k F1 H1 p1 rfl⟩
 ·exact False.elim g1
theorem pdt_val (h:PD X C B W a fa) (he:∀ whole,isTrue a X.env whole=(do let v ← whole; standAt a.pos; holding [v] (truthy v)):=by intro _; rfl):PDT X C B W a (asB fa):=PT.conv (pt_val h he) fun _ _ _ q=>asB_run q
theorem pdt_cmp {r:R2} {g:RV→RV→DE} {op:CmpOp} (ho:OpR X (compareOp op) r) (og:Op2 X.K C r g) (ha:PD X C B W a fa) (hb:PD X C B W b fb) (hm:behindInMarks op b=false):PDT X C B W (.Compare a [op] [b] pos) (asB (dBin g fa fb)):=PT.conv (pt_cmpR ho ha hb hm) fun σ H Q q=>by
 have z:=asB_run q
 exact op2_run (fa:=fa) (fb:=fb) og (C:=C) (B:=B) (W:=W) z
theorem pdw_one_and (h:PDT X C B W a ta):PDW X C B W (.BoolOp .And [a] pos) ta:=pw_and1 h
theorem pdw_one_or (h:PDT X C B W a ta):PDW X C B W (.BoolOp .Or [a] pos) ta:=pw_or1 h
theorem pdw_and (ha:PDT X C B W a ta) (hb:PDW X C B W (.BoolOp .And (b :: rest) pos) tb):PDW X C B W (.BoolOp .And (a :: b :: rest) pos) (dAndT ta tb):=PW.conv (pw_and ha hb) fun σ H Q ⟨ρ,F,st,g⟩=>tG_bind (Post.start st) g fun r1 ρ1 v F1 H1 g1 p1 _ q1=>by
 obtain rfl:v=r1:=q1
 cases v with
 | true=>rw [if_pos rfl] at g1 ⊢; exact tG_last p1 g1
 | false=>rw [if_neg Bool.false_ne_true] at g1 ⊢; exact g1 false F1 H1 p1 rfl
theorem pdw_or (ha:PDT X C B W a ta) (hb:PDW X C B W (.BoolOp .Or (b :: rest) pos) tb):PDW X C B W (.BoolOp .Or (a :: b :: rest) pos) (dOrT ta tb):=PW.conv (pw_or ha hb) fun σ H Q ⟨ρ,F,st,g⟩=>tG_bind (Post.start st) g fun r1 ρ1 v F1 H1 g1 p1 _ q1=>by
 obtain rfl:v=r1:=q1
 cases v with
 | true=>rw [if_pos rfl] at g1 ⊢; exact g1 true F1 H1 p1 rfl
 | false=>rw [if_neg Bool.false_ne_true] at g1 ⊢; exact tG_last p1 g1
theorem pdt_w (h:PDW X C B W a ta):PDT X C B W a ta:=PW.pt h
theorem pdt_not (ha:PDT X C B W a ta):PDT X C B W (.UnaryOp .Not a pos) (dNotT ta):=PT.conv (pt_not ha) fun σ H Q ⟨ρ,F,st,g⟩=>tG_bind (Post.start st) g fun r1 ρ1 v F1 H1 g1 p1 _ q1=>by
 obtain rfl:v=r1:=q1
 exact g1 _ F1 H1 p1 rfl
theorem pd_one {op} (h:PD X C B W a fa):PD X C B W (.BoolOp op [a] pos) fa:=pe_one h
theorem asB_bind {K:PySem.W.Frag} {z:At0} {F H:Hp} {ρ:Sl} {σ:L2.St} {Q:VK} {k:Bool→DE} {Qa:VK} (p:Post K C B z ρ F σ H) (g:Goal K C B W z σ Q (bindE (asB fa) k ρ))
  (h:∀ c ρ1 F1 H1,Goal K C B W z σ Q (k c ρ1)→Post K C B z ρ1 F1 σ H1→Qa (.bl c) H1):tD K C B W fa σ H Qa:=by
 have e:bindE (asB fa) k ρ=bindE fa (fun r=>bindE (fun ρ=>match r.see ρ with | some (.bl b)=>some (.ok b ρ) | _=>none) k) ρ:=by
  unfold bindE asB bindE
  cases fa ρ with
  | none=>rfl
  | some o=>cases o <;> rfl
 rw [e] at g
 refine tG_bind p g fun r1 ρ1 v F1 H1 g1 p1 _ q1=>?_
 unfold bindE at g1
 try dsimp only at g1
 cases s:r1.see ρ1 with
 | none=>rw [s] at g1; exact False.elim g1
 | some d =>
  rw [s] at g1
  cases d with
  | bl c =>
   rw [(RepRV.see q1 p1.st s).bl_inv]
   exact h c ρ1 F1 H1 g1 p1
  | _=>exact False.elim g1
theorem pd_and (ha:PD X C B W a fa) (hb:PD X C B W (.BoolOp .And (b :: rest) pos) fb):PD X C B W (.BoolOp .And (a :: b :: rest) pos) (dAndV fa fb):=PE.conv (pe_and ha hb) fun σ H Q ⟨ρ,F,st,g⟩=>asB_bind (Post.start st) g fun c ρ1 F1 H1 g1 p1=>by
 refine ⟨c,rfl,?_⟩
 cases c with
 | true=>rw [if_pos rfl] at g1 ⊢; exact tG_last p1 g1
 | false=>rw [if_neg Bool.false_ne_true] at g1 ⊢; exact g1 _ F1 H1 p1 (.bl false)
theorem pd_not (ha:PD X C B W a fa):PD X C B W (.UnaryOp .Not a pos) (dNotV fa):=PE.conv (pe_not ha) fun σ H Q ⟨ρ,F,st,g⟩=>asB_bind (Post.start st) g fun c ρ1 F1 H1 g1 p1=>⟨c,rfl,g1 _ F1 H1 p1 (.bl _)⟩
theorem pd_if (hc:PDT X C B W c ta) (ha:PD X C B W a fa) (hb:PD X C B W b fb):PD X C B W (.IfExp c a b pos) (dIfE ta fa fb):=PE.conv (pe_ifExp hc ha hb) fun σ H Q ⟨ρ,F,st,g⟩=>tG_bind (Post.start st) g fun r1 ρ1 v F1 H1 g1 p1 _ q1=>by
 obtain rfl:v=r1:=q1
 cases v with
 | true=>rw [if_pos rfl] at g1 ⊢; exact tG_last p1 g1
 | false=>rw [if_neg Bool.false_ne_true] at g1 ⊢; exact tG_last p1 g1
end
def dNil:Ef (List RV):=retE []
def dCons (fa:DE) (fr:Ef (List RV)):Ef (List RV):=bindE fa fun r=>bindE fr fun rs=>retE (r :: rs)
def allDat:List RV→Option (List D)
 | []=>some []
 | .dat d :: r=>(allDat r).map fun ds=>d :: ds
 | _ :: _=>none
theorem RepRVs.dats {K:PySem.W.Frag} {C:Cl} {z:At0} {F H:Hp} {ρ:Sl} {σ:L2.St}:∀ {vs:List V} {rs:List RV} {ds:List D},RepRVs K C z ρ F σ H vs rs→allDat rs=some ds→Reps K C F vs ds
 | _,_,_,.nil,e=>by cases e; exact .nil
 | _,_,ds,.cons (r:=r) (rs:=rs) x t _,e=>by
  cases r with
  | dat d =>
   unfold allDat at e
   cases h:allDat rs with
   | none=>rw [h] at e; cases e
   | some l =>
    rw [h] at e
    cases e
    exact .cons x (t.dats h)
  | own m=>cases e
  | bor i=>cases e
  | shr i=>cases e
def dTup (fl:Ef (List RV)):DE:=bindE fl fun rs ρ=>match allDat rs with
 | some ds=>if ds.length≤1000 then some (.ok (.dat (.tup ds)) ρ) else none
 | none=>none
def dLst (fl:Ef (List RV)):DE:=bindE fl fun rs ρ=>match allDat rs with
 | some ds=>if ds.length≤1000 then some (.ok (.own (.lst ds)) ρ) else none
 | none=>none
def OpL (K:PySem.W.Frag) (C:Cl) (r:List V→Hp→VK→Prop) (g:List RV→DE):Prop:=∀ (B:Bw) (W:WX) (z:At0) (ρ:Sl) (σ:L2.St) (F H:Hp) (vs:List V) (rs:List RV) (Q:VK),
 Post K C B z ρ F σ H→RepRVs K C z ρ F σ H vs rs→Goal K C B W z σ Q (g rs ρ)→r vs H Q
def dCall (g:List RV→DE) (fl:Ef (List RV)):DE:=bindE fl g
section
variable {X:Cx} {C:Cl} {B:Bw} {W:WX} {a e:Expr} {es:List Expr} {fa:DE} {fl:Ef (List RV)} {pos p:Pos} {x:Str} {id T:String} {r:List V→Hp→VK→Prop} {g:List RV→DE}
theorem pda_nil:PDA X C B W [] dNil:=PA.conv pa_nil fun σ H Q ⟨ρ,F,st,g⟩=>g _ F H (Post.start st) .nil
theorem pda_cons (ha:PD X C B W a fa) (hr:PDA X C B W es fl) (hs:starEach (a :: es) X.env=(false,eval a X.env) :: starEach es X.env:=by rfl):PDA X C B W (a :: es) (dCons fa fl):=PA.conv (pa_cons ha hr hs) fun σ H Q ⟨ρ,F,st,g⟩ =>
 tG_bind (Post.start st) g fun r1 ρ1 v F1 H1 g1 p1 _ q1=>tG_bindR (k1:=kL X.K C) p1 g1 fun r2 ρ2 vs F2 H2 g2 p2 s2 q2 raw=>g2 (v :: vs) F2 H2 p2 (.cons (RepRV.carry q1 s2) q2 (by
  rintro m rfl k m' a b x hk hv rfl f f2
  obtain ⟨a',ea,rm,no⟩:=q1
  cases ea
  obtain ⟨v',e,b',eb,rm',no'⟩:=RepRVs.at raw hk
  rw [hv] at e
  cases e
  cases eb
  have st:H2 a=H1 a:=by
   obtain ⟨n,o,ho⟩:=rm.foot (Foot.root H1 a m)
   exact (s2.stays n ho fun y=>(no a (Foot.root H1 a m)).1 y.held).1
  have f1:=(Foot.same st).mp f
  rcases (no' x f2).2 with y | y
  ·exact (no x f1).1 (OwnA.held y)
  ·obtain ⟨_,o,ho⟩:=rm.foot f1
   exact y.symm.trans ho |> fun w=>by cases w))
theorem pd_tup {k} (h:PDA X C B W es fl):PD X C B W (.Tuple es k pos) (dTup fl):=PE.conv (pe_tup h) fun σ H Q ⟨ρ,F,st,g⟩=>tG_bind (k1:=kL X.K C) (Post.start st) g fun rs ρ1 vs F1 H1 g1 p1 _ q1=>by
 try dsimp only at g1
 split at g1
 ·rename_i ds e
  have q:=RepRVs.dats q1 e
  split at g1
  ·rename_i l
   exact ⟨by rw [q.length]; exact Nat.le_of_lt (small1000 l),fun a n=>Goal.newT g1 p1 n q⟩
  ·exact False.elim g1
 ·exact False.elim g1
theorem pd_lst (h:PDA X C B W es fl):PD X C B W (.List es pos) (dLst fl):=PE.conv (pe_lst h) fun σ H Q ⟨ρ,F,st,g⟩=>tG_bind (k1:=kL X.K C) (Post.start st) g fun rs ρ1 vs F1 H1 g1 p1 _ q1=>by
 try dsimp only at g1
 split at g1
 ·rename_i ds e
  have q:=RepRVs.dats q1 e
  split at g1
  ·rename_i l
   exact ⟨by rw [q.length]; exact Nat.le_of_lt (small1000 l),fun a n=>Goal.newL g1 p1 n q⟩
  ·exact False.elim g1
 ·exact False.elim g1
theorem opL_run (og:OpL X.K C r g) {σ:L2.St} {H:Hp} {Q:VK} (h:tD X.K C B W (dCall g fl) σ H Q):tCB r (tL X.K C B W fl) σ H Q:=by
 obtain ⟨ρ,F,st,g0⟩:=h
 exact tG_bind (k1:=kL X.K C) (Post.start st) g0 fun rs ρ1 vs F1 H1 g1 p1 _ q1=>og B W _ ρ1 σ F1 H1 vs rs Q p1 q1 g1
theorem pd_callB (hc:CallR X (.builtin id) r) (og:OpL X.K C r g) (hg:Gl X x) (hm:X.mg x=none) (hv:bootBuiltins x=some (.builtin id)) (ha:PDA X C B W (e :: es) fl) (hn:x ≠ "__name__" := by decide) (hdb:(x == ("__debug__" : Str))=false:=by decide)
  (he:starEach (e :: es) X.env=(false,eval e X.env) :: starEach es X.env:=by rfl) (hpl:(backTo pos (starEach es X.env)).any (·.1)=false:=by rfl):PD X C B W (.Call (.Name x p) (e :: es) [] pos) (dCall g fl):=PE.conv (pe_callB hc hg hm hv ha hn hdb he hpl) fun _ _ _ h=>opL_run og h
theorem pd_callTy (hc:CallR X (.type T) r) (og:OpL X.K C r g) (hg:Gl X x) (hm:X.mg x=none) (hv:bootBuiltins x=some (.type T)) (ha:PDA X C B W (e :: es) fl) (hn:x ≠ "__name__" := by decide) (hdb:(x == ("__debug__" : Str))=false:=by decide)
  (he:starEach (e :: es) X.env=(false,eval e X.env) :: starEach es X.env:=by rfl) (hpl:(backTo pos (starEach es X.env)).any (·.1)=false:=by rfl):PD X C B W (.Call (.Name x p) (e :: es) [] pos) (dCall g fl):=PE.conv (pe_callTy hc hg hm hv ha hn hdb he hpl) fun _ _ _ h=>opL_run og h
theorem pd_callM (hc:CallR X (.builtin id) r) (og:OpL X.K C r g) (hg:Gl X x) (hm:X.mg x=some (.builtin id)) (ha:PDA X C B W (e :: es) fl) (hdb:(x == ("__debug__" : Str))=false:=by decide)
  (he:starEach (e :: es) X.env=(false,eval e X.env) :: starEach es X.env:=by rfl) (hpl:(backTo pos (starEach es X.env)).any (·.1)=false:=by rfl):PD X C B W (.Call (.Name x p) (e :: es) [] pos) (dCall g fl):=PE.conv (pe_callBfun hc hg hm ha hdb he hpl) fun _ _ _ h=>opL_run og h
theorem pd_ty {T:String} (hg:Gl X x) (hm:X.mg x=none) (hv:bootBuiltins x=some (.type T)) (hn:x ≠ "__name__" := by decide) (hd:(x == ("__debug__" : Str))=false:=by decide):PD X C B W (.Name x pos) (retE (.dat (.ty T))):=pd_const (pe_bltn (v:=.ty T) hg hm hv rfl hn hd) fun _=>.ty T
end
end Pl
namespace Pl
open PySem PySem.Spec PyProof.Rows L2 Tk
section
variable {K:PySem.W.Frag} {C:Cl} {X:Cx}
def on1 (h:D→Option D):List RV→DE:=fun rs ρ=>match rs with
 | [r]=>match r.see ρ with
  | some a=>match h a with
   | some d=>some (.ok (.dat d) ρ)
   | none=>none
  | none=>none
 | _=>none
def on2 (h:D→D→Option D):List RV→DE:=fun rs ρ=>match rs with
 | [r,r']=>match r.see ρ,r'.see ρ with
  | some a,some b=>match h a b with
   | some d=>some (.ok (.dat d) ρ)
   | none=>none
  | _,_=>none
 | _=>none
theorem on1_op {r:List V→Hp→VK→Prop} {h:D→Option D} (ok:∀ (F H:Hp) (x:V) (a d:D) (Q:VK),RepP K C F H x a→h a=some d→(∀ v,(∀ F,Rep K C F v d)→Q v H)→r [x] H Q):OpL K C r (on1 h):=by
 intro B W z ρ σ F H vs rs Q p q g
 unfold on1 at g
 split at g
 ·rename_i r1
  cases q with
  | cons q1 qt _ =>
  cases qt
  split at g
  ·rename_i a e
   split at g
   ·rename_i d z
    exact ok F H _ a d Q (q1.parts p.st e) z fun v r=>g v F H p (r F)
   ·exact False.elim g
  ·exact False.elim g
 ·exact False.elim g
theorem on2_op {r:List V→Hp→VK→Prop} {h:D→D→Option D} (ok:∀ (F H:Hp) (x y:V) (a b d:D) (Q:VK),RepP K C F H x a→RepP K C F H y b→h a b=some d→(∀ v,(∀ F,Rep K C F v d)→Q v H)→r [x,y] H Q):OpL K C r (on2 h):=by
 intro B W z ρ σ F H vs rs Q p q g
 unfold on2 at g
 split at g
 ·rename_i r1 r2
  cases q with
  | cons q1 qt _ =>
  cases qt with
  | cons q2 qt _ =>
  cases qt
  split at g
  ·rename_i a b e1 e2
   split at g
   ·rename_i d z
    exact ok F H _ _ a b d Q (q1.parts p.st e1) (q2.parts p.st e2) z fun v r=>g v F H p (r F)
   ·exact False.elim g
  ·exact False.elim g
 ·exact False.elim g
def hLen:D→Option D
 | .lst l=>some (.int l.length)
 | .wri l=>some (.int l.length)
 | .tup l=>some (.int l.length)
 | .str z=>if z.length≤10000 then some (.int z.length) else none
 | _=>none
theorem o_len:OpL K C (fun xs H Q=>∃ x n,xs=[x]∧LenV K x H n∧Q (.int n) H) (on1 hLen):=on1_op (by
 intro F H x a d Q r e q
 unfold hLen at e
 split at e
 ·cases e
  obtain ⟨p,vs,rfl,h,z⟩:=r
  exact ⟨_,vs.length,rfl,.inl ⟨_,SqL.of h,rfl⟩,by rw [z.length]; exact q _ fun F=>.int _⟩
 ·cases e
  obtain ⟨p,vs,rfl,h,z⟩:=r
  exact ⟨_,vs.length,rfl,.inl ⟨_,h,rfl⟩,by rw [z.length]; exact q _ fun F=>.int _⟩
 ·cases e
  obtain ⟨p,vs,rfl,h,z⟩:=r
  exact ⟨_,vs.length,rfl,.inr ⟨_,h,rfl⟩,by rw [z.length]; exact q _ fun F=>.int _⟩
 ·rename_i z
  split at e
  ·rename_i l
   cases e
   cases r.str_inv
   exact ⟨_,z.length,rfl,⟨line10000 l,rfl⟩,q _ fun F=>.int _⟩
  ·cases e
 ·cases e)
def hAbs:D→Option D
 | .int i=>some (.int (if i < 0 then -i else i))
 | _=>none
theorem o_abs:OpL K C (fun xs H Q=>∃ i,xs=[.int i]∧Q (.int (if i < 0 then -i else i)) H) (on1 hAbs):=on1_op (by
 intro F H x a d Q r e q
 unfold hAbs at e
 split at e
 ·cases e
  cases r.int_inv
  exact ⟨_,rfl,q _ fun F=>.int _⟩
 ·cases e)
def hInt:D→Option D
 | .int i=>some (.int i)
 | .bl b=>some (.int (if b then 1 else 0))
 | _=>none
theorem o_int:OpL K C (fun xs H Q=>(∃ i,xs=[.int i]∧Q (.int i) H)∨∃ k,xs=[.bl k]∧Q (.int (if k then 1 else 0)) H) (on1 hInt):=on1_op (by
 intro F H x a d Q r e q
 unfold hInt at e
 split at e
 ·cases e
  cases r.int_inv
  exact .inl ⟨_,rfl,q _ fun F=>.int _⟩
 ·cases e
  cases r.bl_inv
  exact .inr ⟨_,rfl,q _ fun F=>.int _⟩
 ·cases e)
def hMax2:D→D→Option D:=hI fun i j=>some (.int (if j > i then j else i))
def hMin2:D→D→Option D:=hI fun i j=>some (.int (if j < i then j else i))
theorem o_max2:OpL K C (fun xs H Q=>∃ i j,xs=[.int i,.int j]∧Q (.int (if j > i then j else i)) H) (on2 hMax2):=on2_op (by
 intro F H x y a b d Q r1 r2 e q
 obtain ⟨i,j,rfl,rfl,h⟩:=hI_inv e
 cases h
 cases r1.int_inv
 cases r2.int_inv
 exact ⟨_,_,rfl,q _ fun F=>.int _⟩)
theorem o_min2:OpL K C (fun xs H Q=>∃ i j,xs=[.int i,.int j]∧Q (.int (if j < i then j else i)) H) (on2 hMin2):=on2_op (by
 intro F H x y a b d Q r1 r2 e q
 obtain ⟨i,j,rfl,rfl,h⟩:=hI_inv e
 cases h
 cases r1.int_inv
 cases r2.int_inv
 exact ⟨_,_,rfl,q _ fun F=>.int _⟩)
def hGcd:D→D→Option D:=hI fun i j=>some (.int ((Nat.gcd i.natAbs j.natAbs:Nat):Int))
def cLcm (i j:Int):Bool:=decide (i.natAbs.log2 < 12000) && decide (j.natAbs.log2 < 12000)
def hLcm:D→D→Option D:=hI fun i j=>if cLcm i j=true then some (.int ((Nat.lcm i.natAbs j.natAbs:Nat):Int)) else none
theorem o_gcd:OpL K C rGcd (on2 hGcd):=on2_op (by
 intro F H x y a b d Q r1 r2 e q
 obtain ⟨i,j,rfl,rfl,h⟩:=hI_inv e
 cases h
 cases r1.int_inv
 cases r2.int_inv
 exact ⟨_,_,rfl,q _ fun F=>.int _⟩)
theorem o_lcm:OpL K C rLcmL (on2 hLcm):=on2_op (by
 intro F H x y a b d Q r1 r2 e q
 obtain ⟨i,j,rfl,rfl,h⟩:=hI_inv e
 split at h
 ·rename_i c
  unfold cLcm at c
  simp only [Bool.and_eq_true,decide_eq_true_eq] at c
  cases h
  cases r1.int_inv
  cases r2.int_inv
  exact ⟨_,_,rfl,c.1,c.2,q _ fun F=>.int _⟩
 ·cases h)
def wholes:List D→Option (List Int)
 | []=>some []
 | .int i :: r=>(wholes r).map fun l=>i :: l
 | _ :: _=>none
theorem Reps.ints_ {F:Hp}:∀ {vs:List V} {ds:List D} {ns:List Int},Reps K C F vs ds→Pl.wholes ds=some ns→vs=ns.map V.int
 | _,_,_,.nil,e=>by cases e; rfl
 | _,_,ns,.cons (d:=d) (ds:=ds) x r,e=>by
  cases d with
  | int i =>
   unfold Pl.wholes at e
   cases h:Pl.wholes ds with
   | none=>rw [h] at e; cases e
   | some l =>
    rw [h] at e
    cases e
    rw [x.int_inv,r.ints_ h]
    rfl
  | _=>cases e
def D.nums (d:D):Option (List Int):=d.items.bind wholes
theorem RepP.nums {F H:Hp} {v:V} {d:D} {ns:List Int} (r:RepP K C F H v d) (e:d.nums=some ns):∃ a,v=.ref a∧(SqL K H a (ns.map V.int)∨SqT K H a (ns.map V.int)):=by
 unfold D.nums at e
 cases h:d.items with
 | none=>rw [h] at e; cases e
 | some l =>
  rw [h] at e
  obtain ⟨a,vs,rfl,s,z⟩:=r.seq h
  rw [z.ints_ e] at s
  exact ⟨a,rfl,s⟩
def hSum (d:D):Option D:=d.nums.map fun ns=>.int ns.sum
theorem o_sum:OpL K C (rSumE K) (on1 hSum):=on1_op (by
 intro F H x a d Q r e q
 unfold hSum at e
 cases h:a.nums with
 | none=>rw [h] at e; cases e
 | some ns =>
  rw [h] at e
  cases e
  obtain ⟨p,rfl,s⟩:=r.nums h
  exact ⟨p,ns,rfl,s,q _ fun F=>.int _⟩)
def maxI:List Int→Int
 | []=>0
 | [i]=>i
 | i :: r=>let m:=maxI r; if m ≥ i then m else i
def minI:List Int→Int
 | []=>0
 | [i]=>i
 | i :: r=>let m:=minI r; if m≤i then m else i
def gListOf:List RV→DE:=fun rs ρ=>match rs with
 | [r]=>match r.items ρ with
  | some l=>some (.ok (.own (.lst l)) ρ)
  | none=>none
 | _=>none
def gTupOf:List RV→DE:=fun rs ρ=>match rs with
 | [r]=>match r.see ρ with
  | some (.lst l)=>some (.ok (.dat (.tup l)) ρ)
  | some (.tup l)=>some (.ok (.dat (.tup l)) ρ)
  | _=>none
 | _=>none
theorem o_tupOf:OpL K C (fun xs H Q=>∃ p ys,xs=[.ref p]∧((SqL K H p ys∧∀ l,H l=none→Q (.ref l) (upd H l (.tup ys)))∨(SqT K H p ys∧Q (.ref p) H))) gTupOf:=by
 intro B W z ρ σ F H vs rs Q p q g
 unfold gTupOf at g
 split at g
 ·cases q with
  | cons q1 qt _ =>
  cases qt
  split at g
  ·rename_i l e
   obtain ⟨a,ws,rfl,s,z⟩:=q1.parts p.st e
   exact ⟨a,ws,rfl,.inl ⟨SqL.of s,fun b n=>Goal.newT g p n z⟩⟩
  ·rename_i l e
   have k:=q1.keep p.st e fun _ z=>by cases z
   obtain ⟨a,ws,rfl,s,z⟩:=q1.parts p.st e
   exact ⟨a,ws,rfl,.inr ⟨s,g _ F H p k⟩⟩
  ·exact False.elim g
 ·exact False.elim g
def hStr:D→Option D
 | .int i=>if i.natAbs.log2 < 1920 then some (.str (toString i)) else none
 | _=>none
def hRepr (d:D):Option D:=if d.isPy && d.py.showable && !d.py.hasDict && decide (d.py.depth≤60) && decide (d.py.shown.length≤10000) then some (.str d.py.shown) else none
theorem o_repr:OpL K C (rRepr K) (on1 hRepr):=by
 intro B W z ρ σ F H vs rs Q p q g
 unfold on1 at g
 split at g
 ·cases q with
  | cons q1 qt _ =>
  cases qt
  split at g
  ·rename_i a e
   unfold hRepr at g
   split at g
   ·rename_i d z
    split at z
    ·rename_i c
     simp only [Bool.and_eq_true,decide_eq_true_eq,Bool.not_eq_true'] at c
     cases z
     exact ⟨_,_,rfl,Rep.dp _ _ (RepRV.see q1 p.st e) c.1.1.1.1,c.1.1.1.2,c.1.1.2,c.1.2,Nat.le_trans (Nat.add_le_add_right c.2 64) (by decide),g _ F H p (.str _)⟩
    ·cases z
   ·exact False.elim g
  ·exact False.elim g
 ·exact False.elim g
structure Kn (K:PySem.W.Frag) (C:Cl) (n:Nat):Prop where
 cl:∀ c,c < n→Cls K (C.adr c)
 ha:∀ c,c < n→PySem.W.findIn K (.ref (C.adr c)) "__class__" = some (some (.builtin "object.__class__"))
 hn:PySem.W.specialIn K (.builtin "object.__class__") "__get__" = some (some (.builtin "getset_descriptor.__get__"))
 ht:PySem.W.takesIn K (.builtin "object.__class__")=some true
 hm:∀ c,c < n→PySem.W.mroIn K (C.adr c) (.type "object")=some true
def kindD:D→Option String
 | .non=>some "NoneType"
 | .bl _=>some "bool"
 | .int _=>some "int"
 | .str _=>some "str"
 | .lst _=>some "list"
 | .wri _=>none
 | .tup _=>some "tuple"
 | _=>none
theorem TyX_keep {K:PySem.W.Frag} {H:Hp} {v:V} {t:Value} {a:Addr} {o:HO} (h:TyX K H v t) (n:H a=none):TyX K (upd H a o) v t:=by
 have kp:∀ {b:Addr} {u:HO},H b=some u→upd H a o b=some u:=fun {b u} e=>by rw [upd_ne (ne_of_none e n)]; exact e
 cases h with
 | base h=>exact .base (by
   cases h with
   | non=>exact .non
   | bl b=>exact .bl b
   | int i=>exact .int i
   | str x=>exact .str x
   | flt x=>exact .flt x
   | lst e=>exact .lst (kp e)
   | frz e=>exact .frz (kp e)
   | tup e=>exact .tup (kp e)
   | dK e=>exact .dK (kp e)
   | dT e=>exact .dT (kp e)
   | ins e a b c d f=>exact .ins (kp e) a b c d f)
 | byt b=>exact .byt b
 | set e=>exact .set (kp e)
 | kList e c=>exact .kList e c
 | kTuple e c=>exact .kTuple e c
 | kDict e c=>exact .kDict e c
 | fTuple e=>exact .fTuple (kp e)
 | fDict e=>exact .fDict (kp e)
theorem RepP.kind {F H:Hp} {v:V} {d:D} {n:String} (r:RepP K C F H v d) (e:kindD d=some n):TyX K H v (.type n):=by
 cases d with
 | non=>cases e; cases (show Rep K C F v .non from r); exact .base .non
 | bl b=>cases e; cases (show Rep K C F v (.bl b) from r); exact .base (.bl b)
 | int i=>cases e; cases (show Rep K C F v (.int i) from r); exact .base (.int i)
 | str x=>cases e; cases (show Rep K C F v (.str x) from r); exact .base (.str x)
 | lst l=>cases e; obtain ⟨a,vs,rfl,h,_⟩:=r; exact .base (.lst h)
 | tup l =>
  cases e
  obtain ⟨a,vs,rfl,h,_⟩:=r
  rcases h with (h | ⟨o,h⟩) | ⟨o,its,n,h,c,_⟩
  ·exact .base (.tup h)
  ·exact .fTuple h
  ·exact .kTuple h c
 | _=>cases e
def isKind (n m:String):Bool:=decide (n=m) || (decide (n = "bool") && decide (m = "int"))
def hIsi (a b:D):Option D:=match b with
 | .ty m=>if decide (m = "int") || decide (m = "bool") || decide (m = "str") || decide (m = "tuple") || decide (m = "list") then (kindD a).map fun n=>.bl (isKind n m) else none
 | _=>none
theorem kit_plain {a:D} {n m:String} (e:kindD a=some n) (h:m = "int" ∨ m = "bool" ∨ m = "str" ∨ m = "tuple" ∨ m = "list"):PySem.W.kitOne K (.type n) (.type m)=some (isKind n m):=by
 have hn:n = "NoneType" ∨ n = "bool" ∨ n = "int" ∨ n = "str" ∨ n = "list" ∨ n = "tuple" := by
  cases a <;> simp [kindD] at e <;> subst e <;> simp
 rcases h with rfl | rfl | rfl | rfl | rfl <;> rcases hn with rfl | rfl | rfl | rfl | rfl | rfl <;> exact kit_ty (by decide +kernel)
theorem o_isi:OpL K C (rIsi K) (on2 hIsi):=on2_op (by
 intro F H x y a b d Q r1 r2 e q
 unfold hIsi at e
 split at e
 ·rename_i m
  split at e
  ·rename_i c
   simp only [Bool.or_eq_true,decide_eq_true_eq,or_assoc] at c
   cases h:kindD a with
   | none=>rw [h] at e; cases e
   | some n =>
    rw [h] at e
    cases e
    cases (show Rep K C F y (.ty m) from r2)
    exact ⟨_,_,_,_,_,rfl,.ty m,r1.kind h,kit_plain h c,q _ fun F=>.bl _⟩
  ·cases e
 ·cases e)
def hIsi2 (m m':String) (a:D):Option D:=(kindD a).map fun n=>.bl (isKind n m || isKind n m')
end
def plainTy (m:String):Bool:=decide (m = "int") || decide (m = "bool") || decide (m = "str") || decide (m = "tuple") || decide (m = "list")
def dIsi2 (m m':String) (f:DE):DE:=bindE f fun r ρ=>match r.see ρ with
 | some a=>match hIsi2 m m' a with
  | some d=>some (.ok (.dat d) ρ)
  | none=>none
 | none=>none
section
variable {X:Cx} {C:Cl} {B:Bw} {W:WX} {e:Expr} {f:DE} {p p1 p2 p3 pos:Pos} {k:Nat} {m m':String}
theorem plain_or (h:plainTy m=true):m = "int" ∨ m = "bool" ∨ m = "str" ∨ m = "tuple" ∨ m = "list" := by
 unfold plainTy at h
 simpa [or_assoc] using h
theorem pd_isi2 (hg:Gl X "isinstance") (hm:X.mg "isinstance" = none) (g1:Gl X m) (m1:X.mg m=none) (v1:bootBuiltins m=some (.type m)) (g2:Gl X m') (m2:X.mg m'=none) (v2:bootBuiltins m'=some (.type m')) (h:PD X C B W e f)
  (c1:plainTy m=true:=by decide) (c2:plainTy m'=true:=by decide) (n1:(m:Str) ≠ "__name__" := by decide) (n2:(m':Str) ≠ "__name__" := by decide) (d1:((m:Str) == ("__debug__" : Str))=false:=by decide) (d2:((m':Str) == ("__debug__" : Str))=false:=by decide)
  (he:starEach [e,.Tuple [.Name m p1,.Name m' p2] k p3] X.env=(false,eval e X.env) :: starEach [.Tuple [.Name m p1,.Name m' p2] k p3] X.env:=by rfl) (hpl:(backTo pos (starEach [.Tuple [.Name m p1,.Name m' p2] k p3] X.env)).any (·.1)=false:=by rfl) :
  PD X C B W (.Call (.Name "isinstance" p) [e,.Tuple [.Name m p1,.Name m' p2] k p3] [] pos) (dIsi2 m m' f) :=
 PE.conv (pe_callB call_isiT hg hm (by decide +kernel) (pa_cons h (pa_cons (pe_tup (pa_cons (pe_bltn (v:=.ty m) g1 m1 v1 rfl n1 d1) (pa_cons (pe_bltn (v:=.ty m') g2 m2 v2 rfl n2 d2) pa_nil))) pa_nil) he) (by decide) (by decide) he hpl) fun σ H Q ⟨ρ,F,st,g⟩=>tG_bind (k1:=kR X.K C) (Post.start st) g fun r1 ρ1 v F1 H1 ga pa _ q1=>by
  try dsimp only at ga
  split at ga
  ·rename_i a e1
   split at ga
   ·rename_i d e2
    refine ⟨by show 2≤sizeLine; decide,fun t ht=>?_⟩
    unfold hIsi2 at e2
    cases hk:kindD a with
    | none=>rw [hk] at e2; cases e2
    | some n =>
     rw [hk] at e2
     cases e2
     have pb:=pa.newO ht (.tup [.ty m,.ty m'])
     have kd:TyX X.K (upd H1 t (.tup [.ty m,.ty m'])) v (.type n):=TyX_keep (q1.parts pa.st e1 |>.kind hk) ht
     refine ⟨v,t,_,_,[.type m,.type m'],_,rfl,upd_same,.cons (.ty _) (.cons (.ty _) .nil),kd,?_,ga _ _ _ pb (.bl _)⟩
     have k1:PySem.W.kitOne X.K (.type n) (.type m)=some (isKind n m):=kit_plain hk (plain_or c1)
     have k2:PySem.W.kitOne X.K (.type n) (.type m')=some (isKind n m'):=kit_plain hk (plain_or c2)
     cases h1:isKind n m with
     | true=>exact kitAny_cons (b:=true) (by rw [k1,h1]) (fun h=>by cases h) (fun _=>rfl)
     | false =>
      refine kitAny_cons (b:=false) (by rw [k1,h1]) (fun _=>?_) (fun h=>by cases h)
      cases h2:isKind n m' with
      | true=>exact kitAny_cons (b:=true) (by rw [k2,h2]) (fun h=>by cases h) (fun _=>rfl)
      | false=>exact kitAny_cons (b:=false) (by rw [k2,h2]) (fun _=>kitAny_nil) (fun h=>by cases h)
   ·exact False.elim ga
  ·exact False.elim ga
end
inductive Out where
 | nx (ρ:Sl) | rt (r:RV) (ρ:Sl) | bk (ρ:Sl) | ct (ρ:Sl) | exc (c:Nat) (fs:List (Str×D)) (ρ:Sl)
abbrev DS:=Sl→Option Out
def GoalS (K:PySem.W.Frag) (C:Cl) (B:Bw) (W:WX) (z:At0) (E:Ends):Option Out→Prop
 | some (.nx ρ)=>∀ σ F H,Post K C B z ρ F σ H→E.nx σ H
 | some (.bk ρ)=>∀ σ F H,Post K C B z ρ F σ H→E.bk σ H
 | some (.ct ρ)=>∀ σ F H,Post K C B z ρ F σ H→E.ct σ H
 | some (.rt r ρ)=>∀ v σ F H,Post K C B z ρ F σ H→RepRV K C z ρ F σ H v r→E.rt v H
 | some (.exc c fs ρ)=>∀ dd σ F H,Post K C B z ρ F σ H→ExcAt K C F H dd fs→W (.ref (C.adr c)) dd σ H
 | none=>False
def tS (K:PySem.W.Frag) (C:Cl) (B:Bw) (W:WX) (g:DS):TS:=fun E σ H=>∃ ρ F,RepSt K C B ρ F σ H∧GoalS K C B W (here ρ F σ H) E (g ρ)
abbrev PDS (X:Cx) (C:Cl) (B:Bw) (W:WX) (st:Stmt) (g:DS):Prop:=PS X st (tS X.K C B W g)
abbrev PDSs (X:Cx) (C:Cl) (B:Bw) (W:WX) (st:List Stmt) (g:DS):Prop:=PSs X st (tS X.K C B W g)
theorem PS.conv {X:Cx} {st:Stmt} {t t':TS} (h:PS X st t) (c:∀ E σ H,t' E σ H→t E σ H):PS X st t':=⟨fun pins s σ H E I q=>h.run pins s σ H E I (c E σ H q)⟩
theorem PSs.conv {X:Cx} {st:List Stmt} {t t':TS} (h:PSs X st t) (c:∀ E σ H,t' E σ H→t E σ H):PSs X st t':=⟨fun pins s σ H E I q=>h.run pins s σ H E I (c E σ H q)⟩
def failS:DS:=fun _=>none
section
variable {K:PySem.W.Frag} {C:Cl} {B:Bw} {W:WX} {z:At0} {F1 H1 F H:Hp} {ρ ρ1:Sl} {σ σ1:L2.St} {E:Ends}
theorem GoalS.later {o:Option Out} (p:Post K C B z ρ1 F1 σ1 H1) (g:GoalS K C B W z E o):GoalS K C B W (here ρ1 F1 σ1 H1) E o:=by
 cases o with
 | none=>exact g
 | some o =>
  cases o with
  | nx ρ=>exact fun σ F H q=>g σ F H (p.trans q)
  | bk ρ=>exact fun σ F H q=>g σ F H (p.trans q)
  | ct ρ=>exact fun σ F H q=>g σ F H (p.trans q)
  | rt r ρ=>exact fun v σ F H q rv=>g v σ F H (p.trans q) (RepRV.since p rv)
  | exc c fs ρ=>exact fun dd σ F H q ex=>g dd σ F H (p.trans q) ex
theorem tS_at {g:DS} (p:Post K C B z ρ1 F1 σ1 H1) (q:GoalS K C B W z E (g ρ1)):tS K C B W g E σ1 H1:=⟨ρ1,F1,p.st,q.later p⟩
def bindS {α:Type} (f:Ef α) (k:α→DS):DS:=fun ρ=>match f ρ with
 | some (.ok a ρ')=>k a ρ'
 | some (.exc c fs ρ')=>some (.exc c fs ρ')
 | none=>none
theorem tS_bindR {α β:Type} {k1:Kd K C α β} {f:Ef α} {k:α→DS} {Qa:β→Hp→Prop} (p:Post K C B z ρ F σ H) (g:GoalS K C B W z E (bindS f k ρ))
  (h:∀ r1 ρ1 v F1 H1,GoalS K C B W z E (k r1 ρ1)→Post K C B z ρ1 F1 σ H1→Post K C B (here ρ F σ H) ρ1 F1 σ H1→k1.rep z ρ1 F1 σ H1 v r1→Qa v H1):tG k1 B W f σ H Qa:=by
 refine ⟨ρ,F,p.st,?_⟩
 unfold bindS at g
 cases e:f ρ with
 | none=>rw [e] at g; exact g
 | some r =>
  rw [e] at g
  cases r with
  | ok r1 ρ1=>exact fun v F1 H1 q rv=>h r1 ρ1 v F1 H1 g (p.trans q) q (k1.since p rv)
  | exc c fs ρ1=>exact fun dd F1 H1 q ex=>g dd σ F1 H1 (p.trans q) ex
theorem tS_bind {α β:Type} {k1:Kd K C α β} {f:Ef α} {k:α→DS} {Qa:β→Hp→Prop} (p:Post K C B z ρ F σ H) (g:GoalS K C B W z E (bindS f k ρ))
  (h:∀ r1 ρ1 v F1 H1,GoalS K C B W z E (k r1 ρ1)→Post K C B z ρ1 F1 σ H1→k1.rep z ρ1 F1 σ H1 v r1→Qa v H1):tG k1 B W f σ H Qa :=
 tS_bindR p g fun r1 ρ1 v F1 H1 g1 p1 _ q1=>h r1 ρ1 v F1 H1 g1 p1 q1
end
def locks:List Nat→Sl→Sl
 | [],ρ=>ρ
 | i :: is,ρ=>locks is (lock1 i ρ)
def mapO (f:Sl→Sl):Option Out→Option Out
 | some (.nx ρ)=>some (.nx (f ρ))
 | some (.bk ρ)=>some (.bk (f ρ))
 | some (.ct ρ)=>some (.ct (f ρ))
 | some (.rt r ρ)=>some (.rt r (f ρ))
 | some (.exc c fs ρ)=>some (.exc c fs (f ρ))
 | none=>none
def lockedS:List Nat→DS→DS
 | [],g,ρ=>g ρ
 | i :: is,g,ρ=>if isOwnL i ρ=true then mapO (free1 i) (lockedS is g (lock1 i ρ)) else none
def mapR {α:Type} (f:Sl→Sl):Option (Res α)→Option (Res α)
 | some (.ok a ρ)=>some (.ok a (f ρ))
 | some (.exc c fs ρ)=>some (.exc c fs (f ρ))
 | none=>none
def lockedE:List Nat→DE→DE
 | [],g,ρ=>g ρ
 | i :: is,g,ρ=>if isOwnL i ρ=true then mapR (free1 i) (lockedE is g (lock1 i ρ)) else none
section
variable {K:PySem.W.Frag} {C:Cl} {B:Bw} {W:WX} {E:Ends}
theorem GoalS.unlock {z:At0} {ρ1:Sl} {F1 H1:Hp} {σ1:L2.St} {i:Nat} {o:Option Out} (p:Post K C B z ρ1 F1 σ1 H1) (ow:isOwnL i ρ1=true) (g:GoalS K C B W z E (mapO (free1 i) o)):GoalS K C B W (here (lock1 i ρ1) F1 σ1 H1) E o:=by
 cases o with
 | none=>exact g
 | some o =>
  cases o with
  | nx ρ=>exact fun σ F H q=>g σ F H (p.unlock ow q)
  | bk ρ=>exact fun σ F H q=>g σ F H (p.unlock ow q)
  | ct ρ=>exact fun σ F H q=>g σ F H (p.unlock ow q)
  | rt r ρ=>exact fun v σ F H q rv=>g v σ F H (p.unlock ow q) (RepRV.unlock p rv)
  | exc c fs ρ=>exact fun dd σ F H q ex=>g dd σ F H (p.unlock ow q) ex
theorem lockedS_run {g:DS}:∀ (is:List Nat) {z:At0} {ρ1:Sl} {F1 H1:Hp} {σ1:L2.St},Post K C B z ρ1 F1 σ1 H1→GoalS K C B W z E (lockedS is g ρ1)→RepSt K C B (locks is ρ1) F1 σ1 H1∧GoalS K C B W (here (locks is ρ1) F1 σ1 H1) E (g (locks is ρ1))
 | [],_,_,_,_,_,p,q=>⟨p.st,q.later p⟩
 | i :: is,_,ρ1,_,_,_,p,q=>by
  unfold lockedS at q
  split at q
  ·rename_i o
   exact lockedS_run is (Post.start (p.st.lock i)) (GoalS.unlock p o q)
  ·exact q.elim
theorem GoalA.unlock {z:At0} {ρ1:Sl} {F1 H1:Hp} {σ1:L2.St} {i:Nat} {o:Option (Res RV)} {Q:VK} (p:Post K C B z ρ1 F1 σ1 H1) (ow:isOwnL i ρ1=true) (g:Goal K C B W z σ1 Q (mapR (free1 i) o)):Goal K C B W (here (lock1 i ρ1) F1 σ1 H1) σ1 Q o:=by
 cases o with
 | none=>exact g
 | some o =>
  cases o with
  | ok r ρ=>exact fun v F H q rv=>g v F H (p.unlock ow q) (RepRV.unlock p rv)
  | exc c fs ρ=>exact fun dd F H q ex=>g dd F H (p.unlock ow q) ex
theorem Goal.later {z:At0} {ρ1:Sl} {F1 H1:Hp} {σ1:L2.St} {o:Option (Res RV)} {Q:VK} (p:Post K C B z ρ1 F1 σ1 H1) (g:Goal K C B W z σ1 Q o):Goal K C B W (here ρ1 F1 σ1 H1) σ1 Q o:=by
 cases o with
 | none=>exact g
 | some o =>
  cases o with
  | ok r ρ=>exact fun v F H q rv=>g v F H (p.trans q) (RepRV.since p rv)
  | exc c fs ρ=>exact fun dd F H q ex=>g dd F H (p.trans q) ex
theorem lockedE_run {g:DE} {Q:VK}:∀ (is:List Nat) {z:At0} {ρ1:Sl} {F1 H1:Hp} {σ1:L2.St},Post K C B z ρ1 F1 σ1 H1→Goal K C B W z σ1 Q (lockedE is g ρ1)→RepSt K C B (locks is ρ1) F1 σ1 H1∧Goal K C B W (here (locks is ρ1) F1 σ1 H1) σ1 Q (g (locks is ρ1))
 | [],_,_,_,_,_,p,q=>⟨p.st,Goal.later p q⟩
 | i :: is,_,ρ1,_,_,_,p,q=>by
  unfold lockedE at q
  split at q
  ·rename_i o
   exact lockedE_run is (Post.start (p.st.lock i)) (GoalA.unlock p o q)
  ·exact q.elim
theorem own_locks:∀ (is:List Nat) {ρ:Sl} {σ:L2.St} {H:Hp} {x:Addr},OwnA (locks is ρ) σ H x→OwnA ρ σ H x
 | [],_,_,_,_,h=>h
 | _ :: is,_,_,_,_,h=>own_lock (own_locks is h)
end
def nxS:DS:=fun ρ=>some (.nx ρ)
def seqS (g1 g2:DS):DS:=fun ρ=>match g1 ρ with
 | some (.nx ρ')=>g2 ρ'
 | o=>o
def sExpr (f:DE):DS:=bindS f fun _=>nxS
def sRet (f:DE):DS:=bindS f fun r ρ=>some (.rt r ρ)
def sIf (fc:Ef Bool) (g1 g2:DS):DS:=bindS fc fun c=>if c=true then g1 else g2
def putR (i np:Nat) (r:RV):DS:=fun ρ=>match r with
 | .dat d=>some (.nx (ρ.set i (some (.dat d))))
 | .own m=>if np≤i then some (.nx (ρ.set i (some (.own m)))) else none
 | .bor j=>match toDat (.bor j) ρ with
  | some (.ok d ρ')=>some (.nx (ρ'.set i (some (.dat d))))
  | _=>none
 | .shr _=>none
def sSet (i np:Nat) (f:DE):DS:=bindS f fun r=>putR i np r
section
variable {X:Cx} {C:Cl} {B:Bw} {W:WX} {st:Stmt} {sts:List Stmt} {g g1 g2:DS} {e c:Expr} {f:DE} {fc:Ef Bool} {pos pos':Pos} {a b:List Stmt}
theorem pds_nil:PDSs X C B W [] nxS:=PSs.conv pss_nil fun E σ H ⟨ρ,F,st,q⟩=>q σ F H (Post.start st)
theorem pds_cons (h1:PDS X C B W st g1) (h2:PDSs X C B W sts g2):PDSs X C B W (st :: sts) (seqS g1 g2):=PSs.conv (pss_cons h1 h2) fun E σ H ⟨ρ,F,st,q⟩=>by
 refine ⟨ρ,F,st,?_⟩
 unfold seqS at q
 cases h:g1 ρ with
 | none=>rw [h] at q; exact q
 | some o =>
  rw [h] at q
  cases o with
  | nx ρ'=>exact fun σ' F' H' p=>tS_at p q
  | bk ρ'=>exact q
  | ct ρ'=>exact q
  | rt r ρ'=>exact q
  | exc c fs ρ'=>exact q
theorem pds_one (h1:PDS X C B W st g1):PDSs X C B W [st] g1:=PSs.conv (pss_one h1) fun _ _ _ q=>q
theorem pds_expr (he:PD X C B W e f) (hs:swapsWith e none pos.line X.env=pure false:=by rfl):PDS X C B W (.Expr e pos) (sExpr f):=PS.conv (ps_expr he hs) fun E σ H ⟨ρ,F,st,q⟩=>tS_bind (k1:=kR X.K C) (Post.start st) q fun r1 ρ1 v F1 H1 q1 p1 _=>q1 σ F1 H1 p1
theorem pds_ret (he:PD X C B W e f):PDS X C B W (.Return (some e) pos) (sRet f):=PS.conv (ps_ret he) fun E σ H ⟨ρ,F,st,q⟩=>tS_bind (k1:=kR X.K C) (Post.start st) q fun r1 ρ1 v F1 H1 q1 p1 rv=>q1 v σ F1 H1 p1 rv
theorem pds_if (hc:PDT X C B W c fc) (ha:PDSs X C B W a g1) (hb:PDSs X C B W b g2):PDS X C B W (.If c a b pos) (sIf fc g1 g2):=PS.conv (ps_if hc ha hb) fun E σ H ⟨ρ,F,st,q⟩=>tS_bind (k1:=kB X.K C) (Post.start st) q fun r1 ρ1 v F1 H1 q1 p1 rv=>by
 obtain rfl:v=r1:=rv
 cases v with
 | true=>rw [if_pos rfl] at q1 ⊢; exact tS_at p1 q1
 | false=>rw [if_neg Bool.false_ne_true] at q1 ⊢; exact tS_at p1 q1
theorem put_run {K:PySem.W.Frag} {z:At0} {F H:Hp} {ρ:Sl} {σ:L2.St} {E:Ends} {i np:Nat} {r:RV} {v:V} (hn:B.np=np) (q:GoalS K C B W z E (putR i np r ρ)) (p:Post K C B z ρ F σ H) (rv:RepRV K C z ρ F σ H v r):E.nx (σ.set i (some v)) H:=by
 cases r with
 | dat d=>exact q _ F H (p.setD rv)
 | own m =>
  unfold putR at q
  dsimp only at q
  split at q
  ·rename_i h
   exact q _ F H (p.setN (by rw [hn]; exact h) rv)
  ·exact False.elim q
 | bor j =>
  unfold putR at q
  dsimp only at q
  split at q
  ·rename_i d ρ' e
   obtain ⟨F',p',r',_⟩:=p.toDat rv e
   exact q _ F' H (p'.setD r')
  ·exact False.elim q
 | shr j=>exact False.elim q
theorem set_run {K:PySem.W.Frag} {i np:Nat} {E:Ends} {σ:L2.St} {H:Hp} (hn:B.np=np) (h:tS K C B W (sSet i np f) E σ H):tD K C B W f σ H fun x H1=>gName i x σ H1 E.nx:=by
 obtain ⟨ρ,F,st,q⟩:=h
 exact tS_bind (k1:=kR K C) (Post.start st) q fun r1 ρ1 v F1 H1 q1 p1 rv=>put_run hn q1 p1 rv
theorem pds_set {i np:Nat} {x:Str} (hn:B.np=np) (hN:X.N.Nodup) (hi:X.N[i]?=some x) (hx:Loc X.env.scope x) (he:PD X C B W e f) (hs:swapsWith e (some (.Name x pos')) pos.line X.env=pure false:=by rfl) (hf:X.fn x=true∨X.env.scope.names.lookup x=some .local:=by first | exact .inl rfl | exact .inr rfl | assumption) :
  PDS X C B W (.Assign [.Name x pos'] e pos) (sSet i np f):=PS.conv (ps_set hN hi hx he hs hf) fun E σ H h=>set_run hn h
end
def noBor:RV→Bool
 | .bor _=>false
 | .shr _=>false
 | _=>true
def sPar2 (i j np:Nat) (fl:Ef (List RV)):DS:=bindS fl fun rs=>match rs with
 | [r,r']=>if noBor r && noBor r' then seqS (putR i np r) (putR j np r') else fun _=>none
 | _=>fun _=>none
def sPar3 (i j l np:Nat) (fl:Ef (List RV)):DS:=bindS fl fun rs=>match rs with
 | [r,r',r'']=>if noBor r && noBor r' && noBor r'' then seqS (putR i np r) (seqS (putR j np r') (putR l np r'')) else fun _=>none
 | _=>fun _=>none
section
variable {K:PySem.W.Frag} {C:Cl} {B:Bw} {W:WX} {z:At0} {F H:Hp} {ρ:Sl} {σ:L2.St} {E:Ends}
theorem held_setD {i:Nat} {d:D} {v:V} {x:Addr} (h:Held (ρ.set i (some (.dat d))) (σ.set i (some v)) H x):Held ρ σ H x:=by
 obtain ⟨j,s,m,a,e,t,q,f⟩:=h
 rcases set_cases e with ⟨_,y,_⟩ | ⟨n,y⟩
 ·cases y; cases t
 ·rw [sig_ne n] at q
  exact ⟨j,s,m,a,y,t,q,f⟩
theorem held_setN {i:Nat} {m0:MO} {b x:Addr} (l:i < σ.length) (h:Held (ρ.set i (some (.own m0))) (σ.set i (some (.ref b))) H x):Held ρ σ H x∨Foot H b m0 x:=by
 obtain ⟨j,s,m,a,e,t,q,f⟩:=h
 rcases set_cases e with ⟨rfl,y,_⟩ | ⟨n,y⟩
 ·cases y
  cases t
  rw [List.getElem?_set_self l] at q
  cases q
  exact .inr f
 ·rw [sig_ne n] at q
  exact .inl ⟨j,s,m,a,y,t,q,f⟩
theorem put_one {i np:Nat} {r:RV} {v:V} {o:Option Out→Prop} {k:DS} (hn:B.np=np) (nb:noBor r=true) (q:GoalS K C B W z E (seqS (putR i np r) k ρ)) (p:Post K C B z ρ F σ H) (rv:RepRV K C z ρ F σ H v r) :
  ∃ ρ1,GoalS K C B W z E (k ρ1)∧Post K C B z ρ1 F (σ.set i (some v)) H∧∀ (r':RV) (w:V),noBor r'=true→RepRV K C z ρ F σ H w r'→(∀ m m' a b x,r=.own m→r'=.own m'→v=.ref a→w=.ref b→Foot H a m x→¬ Foot H b m' x)→RepRV K C z ρ1 F (σ.set i (some v)) H w r':=by
 unfold seqS at q
 cases r with
 | bor k=>cases nb
 | shr k=>cases nb
 | dat d =>
  refine ⟨_,q,p.setD rv,fun r' w nb' rw' _=>?_⟩
  cases r' with
  | bor k=>cases nb'
  | shr k=>cases nb'
  | dat d'=>exact rw'
  | own m' =>
   obtain ⟨a,e,rm,no⟩:=rw'
   exact ⟨a,e,rm,fun x f=>⟨fun h=>(no x f).1 (held_setD h),(no x f).2⟩⟩
 | own m =>
  by_cases hp:np≤i
  ·have e:putR i np (.own m) ρ=some (.nx (ρ.set i (some (.own m)))):=by unfold putR; exact if_pos hp
   rw [e] at q
   refine ⟨_,q,p.setN (by rw [hn]; exact hp) rv,fun r' w nb' rw' ap=>?_⟩
   cases r' with
   | bor k=>cases nb'
   | shr k=>cases nb'
   | dat d'=>exact rw'
   | own m' =>
    obtain ⟨b,rfl,rm0,no0⟩:=rv
    obtain ⟨a,rfl,rm,no⟩:=rw'
    refine ⟨a,rfl,rm,fun x f=>⟨fun h=>?_,(no x f).2⟩⟩
    by_cases l:i < σ.length
    ·rcases held_setN l h with y | y
     ·exact (no x f).1 y
     ·exact ap m m' b a x rfl rfl rfl rfl y f
    ·have e1:ρ.set i (some (.own m))=ρ:=List.set_eq_of_length_le (by rw [← p.st.len]; omega)
     have e2:σ.set i (some (.ref b))=σ:=List.set_eq_of_length_le (by omega)
     rw [e1,e2] at h
     exact (no x f).1 h
  ·have e:putR i np (.own m) ρ=none:=by unfold putR; exact if_neg hp
   rw [e] at q
   exact q.elim
end
section
variable {X:Cx} {C:Cl} {B:Bw} {W:WX}
theorem pds_par {i j np:Nat} {x y:Str} {a b:Expr} {fl:Ef (List RV)} {px py pt pos:Pos} {kt k2 pt2} (hn:B.np=np) (hc:X.calm=true) (hN:X.N.Nodup) (hi:X.N[i]?=some x) (hj:X.N[j]?=some y) (hij:i≠j)
  (hx:X.env.scope.names.lookup x=some .local) (hy:X.env.scope.names.lookup y=some .local) (ha:PDA X C B W [a,b] fl)
  (hw:swappedStores [.Tuple [.Name x px,.Name y py] kt pt] (.Tuple [a,b] k2 pt2) X.env=pure (some [x,y]))
  (hs:swapsWithSole [.Tuple [.Name x px,.Name y py] kt pt] (.Tuple [a,b] k2 pt2) pos.line X.env=pure false:=by rfl) :
  PDS X C B W (.Assign [.Tuple [.Name x px,.Name y py] kt pt] (.Tuple [a,b] k2 pt2) pos) (sPar2 i j np fl):=PS.conv (ps_par hc hN hi hj hij hx hy ha hw hs) fun E σ H ⟨ρ,F,st,q⟩=>tS_bind (k1:=kL X.K C) (Post.start st) q fun rs ρ1 vs F1 H1 q1 p1 rv=>by
 try dsimp only at q1
 split at q1
 ·rename_i r r'
  split at q1
  ·rename_i c
   have rv:RepRVs X.K C _ ρ1 F1 σ H1 vs [r,r']:=rv
   cases rv with
   | cons x1 t n1 =>
   cases t with
   | cons x2 t n2 =>
   cases t
   simp only [Bool.and_eq_true] at c
   refine ⟨_,_,rfl,?_⟩
   obtain ⟨ρ2,q2,p2,k2⟩:=put_one (o:=fun _=>True) hn c.1 q1 p1 x1
   exact put_run hn q2 p2 (k2 _ _ c.2 x2 fun m m' a b x e1 e2 e3 e4 f=>n1 m e1 0 m' a b x (by rw [e2]; rfl) (by rw [e4]; rfl) e3 f)
  ·exact False.elim q1
 ·exact False.elim q1
end
def tGt (K:PySem.W.Frag) (C:Cl) (B:Bw) (js:List Nat) (h:D→Sl→Option Sl):TG:=fun v σ H Q=>∃ ρ F d ρ',RepSt K C B ρ F σ H∧Rep K C F v d∧h d ρ=some ρ' ∧
 ∀ σ',(∀ vs:List Nat,(∀ j∈js,j∈vs)→wipe σ' vs=wipe σ vs)→Post K C B (here ρ F σ H) ρ' F σ' H→Q σ' H
abbrev PDG (X:Cx) (C:Cl) (B:Bw) (js:List Nat) (e:Expr) (h:D→Sl→Option Sl):Prop:=PG X e (tGt X.K C B js h)
theorem PG.conv {X:Cx} {e:Expr} {t t':TG} (h:PG X e t) (c:∀ v σ H Q,t' v σ H Q→t v σ H Q):PG X e t':=⟨fun pins s σ H v u Q I r q=>h.run pins s σ H v u Q I r (c v σ H Q q)⟩
theorem wipe_set {σ:L2.St} {j:Nat} {x:Option V}:∀ {vs:List Nat},j∈vs→wipe (σ.set j x) vs=wipe σ vs
 | v :: vs,h=>by
  show (wipe (σ.set j x) vs).set v none=(wipe σ vs).set v none
  by_cases hv:j∈vs
  ·rw [wipe_set hv]
  ·obtain rfl:j=v:=by
    rcases List.mem_cons.mp h with z | z
    ·exact z
    ·exact (hv z).elim
   have go:∀ vs:List Nat,j∉vs→(wipe (σ.set j x) vs).set j none=(wipe σ vs).set j none:=by
    intro vs
    induction vs with
    | nil=>intro _; show (σ.set j x).set j none=σ.set j none; rw [List.set_set]
    | cons u us ih =>
     intro hn
     have hu:u≠j:=fun z=>hn (by rw [z]; exact List.mem_cons_self)
     show ((wipe (σ.set j x) us).set u none).set j none=((wipe σ us).set u none).set j none
     rw [List.set_comm _ _ hu,List.set_comm _ _ hu,ih fun z=>hn (List.mem_cons_of_mem _ z)]
   exact go vs hv
def tgN (i:Nat):D→Sl→Option Sl:=fun d ρ=>some (ρ.set i (some (.dat d)))
def setDs:List Nat→List D→Sl→Option Sl
 | [],[],ρ=>some ρ
 | j :: js,d :: ds,ρ=>setDs js ds (ρ.set j (some (.dat d)))
 | _,_,_=>none
def tgT (js:List Nat):D→Sl→Option Sl:=fun d ρ=>match d with
 | .tup ds=>setDs js ds ρ
 | _=>none
def tGs (K:PySem.W.Frag) (C:Cl) (B:Bw) (js:List Nat):TGs:=fun vs σ H Q=>∃ ρ F ds ρ',RepSt K C B ρ F σ H∧Reps K C F vs ds∧setDs js ds ρ=some ρ' ∧
 ∀ σ',(∀ ws:List Nat,(∀ j∈js,j∈ws)→wipe σ' ws=wipe σ ws)→Post K C B (here ρ F σ H) ρ' F σ' H→Q σ' H
theorem PGs.conv {X:Cx} {es:List Expr} {t t':TGs} (h:PGs X es t) (c:∀ v σ H Q,t' v σ H Q→t v σ H Q):PGs X es t':=⟨fun pins s σ H vs us Q I r q=>h.run pins s σ H vs us Q I r (c vs σ H Q q)⟩
section
variable {X:Cx} {C:Cl} {B:Bw} {W:WX} {pos:Pos}
theorem pdg_name {i:Nat} {x:Str} (h:PG X (.Name x pos) (gName i)):PDG X C B [i] (.Name x pos) (tgN i):=PG.conv h fun v σ H Q ⟨ρ,F,d,ρ',st,r,e,q⟩=>by
 cases e
 exact q _ (fun vs hv=>wipe_set (hv i List.mem_cons_self)) ((Post.start st).setD r)
theorem pdgs_nil:PGs X [] (tGs X.K C B []):=PGs.conv pgs_nil fun vs σ H Q ⟨ρ,F,ds,ρ',st,r,e,q⟩=>by
 cases r with
 | nil =>
  cases e
  exact ⟨rfl,q σ (fun _ _=>rfl) (Post.start st)⟩
 | cons _ _=>cases e
theorem pdgs_cons {i:Nat} {js:List Nat} {x:Str} {es:List Expr} (h:PG X (.Name x pos) (gName i)) (t:PGs X es (tGs X.K C B js)) (hz:(assignEach (.Name x pos :: es) X.env).map (·.2)=assign (.Name x pos) X.env :: (assignEach es X.env).map (·.2):=by rfl):PGs X (.Name x pos :: es) (tGs X.K C B (i :: js)):=PGs.conv (pgs_cons h t hz) fun vs σ H Q ⟨ρ,F,ds,ρ',st,r,e,q⟩=>by
 cases r with
 | nil=>cases e
 | @cons v0 vs0 d ds x r =>
  have p:=(Post.start st).setD (i:=i) x
  refine ⟨_,_,rfl,ρ.set i (some (.dat d)),F,ds,ρ',p.st,r,e,fun σ' w p'=>q σ' (fun ws hw=>?_) (p.trans p')⟩
  rw [w ws fun j hj=>hw j (List.mem_cons_of_mem _ hj),wipe_set (hw i List.mem_cons_self)]
theorem setDs_len:∀ {js:List Nat} {ds:List D} {ρ ρ':Sl},setDs js ds ρ=some ρ'→ds.length=js.length
 | [],[],_,_,_=>rfl
 | _ :: _,_ :: _,_,_,e=>congrArg Nat.succ (setDs_len e)
 | [],_ :: _,_,_,e=>by cases e
 | _ :: _,[],_,_,e=>by cases e
theorem pdg_tup {es:List Expr} {k:Nat} {js:List Nat} (hc:X.calm=true) (h:PGs X es (tGs X.K C B js)) (hn:(assignEach es X.env).length=js.length:=by rfl) (hst:(assignEach es X.env).findIdx? (·.1)=none:=by rfl):PDG X C B js (.Tuple es k pos) (tgT js):=PG.conv (pg_tup hc h hn hst) fun v σ H Q ⟨ρ,F,d,ρ',st,r,e,q⟩=>by
 unfold tgT at e
 split at e
 ·rename_i ds
  cases r with
  | tup er rr=>exact ⟨_,_,rfl,Same.tup st.sub er,by rw [rr.length]; exact setDs_len e,ρ,F,ds,ρ',st,rr,e,q⟩
 ·cases e
def sAsg (h:D→Sl→Option Sl) (f:DE):DS:=bindS (froze f) fun r ρ=>match r with
 | .dat d=>match h d ρ with
  | some ρ'=>some (.nx ρ')
  | none=>none
 | _=>none
theorem pds_asg {tg e:Expr} {f:DE} {js:List Nat} {h:D→Sl→Option Sl} (he:PD X C B W e f) (hg:PDG X C B js tg h) (hs:swapsWithSole [tg] e pos.line X.env=pure false:=by rfl) (hw:swappedStores [tg] e X.env=pure none:=by rfl)
  (h1:(assignEach [tg] X.env).map (·.2)=[assign tg X.env]:=by rfl):PDS X C B W (.Assign [tg] e pos) (sAsg h f):=PS.conv (ps_asg (pd_frz he) hg hs hw h1) fun E σ H ⟨ρ,F,st,q⟩=>tS_bind (k1:=kR X.K C) (Post.start st) q fun r1 ρ1 v F1 H1 q1 p1 rv=>by
 try dsimp only at q1
 split at q1
 ·rename_i d
  split at q1
  ·rename_i ρ' e
   exact ⟨ρ1,F1,d,ρ',p1.st,rv,e,fun σ' _ p'=>q1 σ' F1 H1 (p1.trans p')⟩
  ·exact False.elim q1
 ·exact False.elim q1
end
structure Grow (F1 H1 F2 H2:Hp):Prop where
 mono:Same F1 F2
 sub:Same F2 H2
 keep:Same H1 H2
 new:∀ b o,F2 b=some o→F1 b=some o∨H1 b=none
def Foreign (z:At0) (x:Addr):Prop:=(∃ o,z.H x=some o)∧¬ z.L x∧z.F x=none
def Kept (z:At0) (ρ:Sl) (σ:L2.St) (H1 Ha:Hp):Prop:=∀ x o,H1 x=some o→¬ OwnA ρ σ H1 x→¬ Foreign z x→Ha x=some o
theorem Foreign.later {K:PySem.W.Frag} {C:Cl} {B:Bw} {z:At0} {F1 H1:Hp} {ρ1:Sl} {σ1:L2.St} (p:Post K C B z ρ1 F1 σ1 H1) {x:Addr} (h:Foreign z x):Foreign (here ρ1 F1 σ1 H1) x:=by
 obtain ⟨⟨o,ho⟩,n,f⟩:=h
 have nS:¬ z.S x:=fun y=>n (p.good x y)
 refine ⟨⟨o,p.frame x o ho nS⟩,fun y=>?_,?_⟩
 ·rcases p.lowL x y with w | w
  ·exact n w
  ·rw [ho] at w; cases w
 ·show F1 x=none
  cases y:F1 x with
  | none=>rfl
  | some u =>
   rcases p.new x u y with w | w | w
   ·rw [f] at w; cases w
   ·rw [ho] at w; cases w
   ·exact (nS w).elim
theorem inv_kfree {X:Cx} {pins:List (Addr×Obj)} {σ:L2.St} {H:Hp} {s:Shared} (I:L2.Inv X pins σ H s) {a:Addr} {o:Obj} (h:X.K.lookup a=some o):H a=none:=(I.env0.bs a o (I.ok.mod.kin a o h)).2
def iSeqK (K:PySem.W.Frag) (tl:TE):TI:=fun σ H R=>tl σ H fun x H1=>∃ a xs,x=.ref a∧SqE K H1 a xs∧((∀ o,K.lookup a=some o→H1 a=none)→∀ J,Walk J xs.length (At H1 a) (YAt xs)→R J H1)
def iEnumK (K:PySem.W.Frag) (ta:TA):TI:=fun σ H R=>ta σ H fun vs H1=>∃ a xs,vs=[.ref a]∧SqE K H1 a xs∧((∀ o,K.lookup a=some o→H1 a=none)→∀ J,Walk J xs.length (At H1 a) (YPair (fun i=>some (.int (i:Nat))) (fun i=>xs[i]?))→R J H1)
theorem pi_seqK {X:Cx} {tg l:Expr} {tl:TE} (hl:PE X l tl):PI X tg l (iSeqK X.K tl):=by
 constructor
 intro pins s σ H R I h
 refine thn (hl.run pins s σ H _ I h) ?_
 rintro v s1 ⟨x,H1,I1,r1,a,xs,rfl,sq,q⟩
 cases r1
 have free:∀ b∈[s1.heap.objs.size],FpOk X pins H1 b:=fun b hb=>by
  obtain rfl:=List.mem_singleton.mp hb
  exact I1.fpOk (Nat.le_refl _) (I1.hok.fresh (Nat.le_refl _))
 have kp:∀ (u:Obj) b o,s1.heap.get? b=some o→(s1.heap.push u).get? b=some o:=fun u b o e=>Heap.get?_push_of_some _ e
 have q:=q fun o h=>inv_kfree I1 h
 rcases sq with sq | sq
 ·obtain ⟨its,rv,isL,_⟩:=I1.list sq
  exact wpAny_pyIter_list isL.isList ⟨s1.heap.objs.size,[s1.heap.objs.size],_,_,H1,rfl,I1.kept (t':=s1.toks) (kp _),turn_list a _,⟨_,Heap.get?_push_size _ rfl,rfl,rfl⟩,free,q _ (walk_list.mono (fun _ k=>At.list sq k) fun _ _ _ _ _ _ y=>y)⟩
 ·obtain ⟨its,rv,isT,_⟩:=I1.tuple sq
  exact wpAny_pyIter_tuple (show s1.heap.IsTuple a its.toArray from isT) ⟨s1.heap.objs.size,[s1.heap.objs.size],_,_,H1,rfl,I1.kept (t':=s1.toks) (kp _),turn_tuple a _,⟨_,Heap.get?_push_size _ rfl,rfl,rfl⟩,free,q _ (walk_tup.mono (fun _ k=>At.tup sq k) fun _ _ _ _ _ _ y=>y)⟩
theorem pi_enumK {X:Cx} {e:Expr} {ta:TA} {p pos tpos:Pos} {elts:List Expr} {kk:Nat} (hg:Gl X "enumerate") (hm:X.mg "enumerate" = none) (ha:PA X [e] ta) (hs:starEach [e] X.env=[(false,eval e X.env)]:=by rfl) :
  PI X (.Tuple elts kk tpos) (.Call (.Name "enumerate" p) [e] [] pos) (iEnumK X.K ta):=by
 constructor
 intro pins s σ H R I h
 refine Call_ (ld_blt I hg hm boot_enumerate (PyProof.Rows.callWith_type1 (thn (ha.run pos pins s σ H _ I h) ?_) hs rfl))
 rintro us s1 ⟨vs,H1,I1,r1,a,xs,rfl,sq,q⟩
 obtain ⟨u,rfl,ru⟩:=vals1 r1
 cases ru
 have free:∀ (h':Heap),(∀ b o,s1.heap.get? b=some o→h'.get? b=some o)→∀ b∈[s1.heap.objs.size+1,s1.heap.objs.size],FpOk X pins H1 b:=fun h' k b hb=>by
  have le:s1.heap.objs.size≤b:=by
   rcases List.mem_cons.mp hb with rfl | hb
   ·exact Nat.le_succ _
   ·obtain rfl:=List.mem_singleton.mp hb
    exact Nat.le_refl _
  exact I1.fpOk le (I1.hok.fresh le)
 have q:=q fun o h=>inv_kfree I1 h
 rcases sq with sq | sq
 ·obtain ⟨its,rv,isL,_⟩:=I1.list sq
  refine call_enumerate_list isL.isList fun h' en it sz k=>wpAny_pyIter_enum en ?_
  exact ⟨s1.heap.objs.size+1,[s1.heap.objs.size+1,s1.heap.objs.size],_,_,H1,rfl,I1.kept (t':=s1.toks) k,turn_enum a _ _,⟨⟨.none,en⟩,it,Nat.succ_ne_self _⟩,free h' k,q _ (walk_enum.mono (fun _ k=>At.list sq k) fun _ _ _ _ _ _ y=>y)⟩
 ·obtain ⟨its,rv,isT,_⟩:=I1.tuple sq
  refine call_enumT (show s1.heap.IsTuple a its.toArray from isT) fun h' en it sz k=>wpAny_pyIter_enum en ?_
  exact ⟨s1.heap.objs.size+1,[s1.heap.objs.size+1,s1.heap.objs.size],_,_,H1,rfl,I1.kept (t':=s1.toks) k,turnT a _ _,⟨⟨.none,en⟩,it,Nat.succ_ne_self _⟩,free h' k,q _ (walkT.mono (fun _ k=>At.tup sq k) fun _ _ _ _ _ _ y=>y)⟩
abbrev Wk:=List D×List Nat
def WalkD (K:PySem.W.Frag) (C:Cl) (z:At0) (ρ:Sl) (F1:Hp) (σ:L2.St) (H1:Hp) (J:It) (w:Wk):Prop:=∃ (G:Hp→Prop) (Y:Nat→Hp→V→Hp→Prop),Walk J w.1.length G Y∧(∀ Fa Ha,Same F1 Fa→Same Fa Ha→Kept z (locks w.2 ρ) σ H1 Ha→G Ha) ∧
 ∀ i Fa Ha v Hb,Same F1 Fa→Same Fa Ha→Kept z (locks w.2 ρ) σ H1 Ha→Y i Ha v Hb→∃ Fb d,w.1[i]?=some d∧Rep K C Fb v d∧Grow Fa Ha Fb Hb
theorem Kept.later {K:PySem.W.Frag} {C:Cl} {B:Bw} {z:At0} {F1 H1:Hp} {ρ1:Sl} {σ1:L2.St} (p:Post K C B z ρ1 F1 σ1 H1) {ρ:Sl} {σ:L2.St} {H Ha:Hp} (k:Kept z ρ σ H Ha):Kept (here ρ1 F1 σ1 H1) ρ σ H Ha:=fun x o e n f=>k x o e n fun y=>f (y.later p)
def kI (K:PySem.W.Frag) (C:Cl):Kd K C Wk It:=⟨WalkD K C,fun p ⟨G,Y,w,hG,hY⟩=>⟨G,Y,w,fun Fa Ha s1 s2 k=>hG Fa Ha s1 s2 (k.later p),fun i Fa Ha v Hb s1 s2 k=>hY i Fa Ha v Hb s1 s2 (k.later p)⟩⟩
abbrev PDI (X:Cx) (C:Cl) (B:Bw) (W:WX) (tg iter:Expr) (f:Ef Wk):Prop:=PI X tg iter (tG (kI X.K C) B W f)
theorem PI.conv {X:Cx} {tg iter:Expr} {t t':TI} (h:PI X tg iter t) (c:∀ σ H R,t' σ H R→t σ H R):PI X tg iter t':=⟨fun pins s σ H R I q=>h.run pins s σ H R I (c σ H R q)⟩
section
variable {K:PySem.W.Frag} {C:Cl} {B:Bw} {W:WX} {z:At0} {F1 H1 F2 H2 F H:Hp} {ρ ρ1:Sl} {σ σ1:L2.St} {E:Ends}
theorem Post.grow (p:Post K C B z ρ F1 σ H1) (g:Grow F1 H1 F2 H2):Post K C B z ρ F2 σ H2:=by
 have stay:∀ {x:Addr},Held ρ σ H1 x→H2 x=H1 x∧F2 x=none:=fun {x} h=>by
  obtain ⟨n,o,ho⟩:=p.st.held h
  refine ⟨(g.keep x o ho).trans ho.symm,?_⟩
  cases y:F2 x with
  | none=>rfl
  | some u =>
   rcases g.new x u y with w | w
   ·rw [n] at w; cases w
   ·rw [ho] at w; cases w
 have foot:∀ {i:Nat} {s:SV} {m:MO} {a x:Addr},ρ[i]?=some (some s)→thing s=some m→σ[i]?=some (some (.ref a))→Foot H2 a m x→Foot H1 a m x:=fun e t q f=>(Foot.same (stay (Held.of e t q (Foot.root _ _ _))).1).mp f
 refine ⟨p.mono.trans g.mono,fun b o e s=>g.keep b o (p.frame b o e s),fun b o e=>?_,⟨p.st.len,g.sub,fun i d e=>?_,fun i s m e t=>?_,fun i j a b x m m' s n e1 e2 t q1 q2 f1 f2=>p.st.sep i j a b x m m' s n e1 e2 t q1 q2 (foot e1 rfl q1 f1) (foot e2 t q2 f2),p.st.fix⟩,
  fun x ⟨i,m,a,e,q,f⟩=>p.low x ⟨i,m,a,e,q,foot e rfl q f⟩,fun x ⟨i,s,m,a,e,t,q,f⟩=>p.lowL x ⟨i,s,m,a,e,t,q,foot e t q f⟩,p.good,p.lks⟩
 ·rcases g.new b o e with h | h
  ·exact p.new b o h
  ·exact .inr (p.there h).symm
 ·obtain ⟨v,e1,r⟩:=p.st.dat i d e
  exact ⟨v,e1,r.to g.mono⟩
 ·obtain ⟨a,q,r⟩:=p.st.thg i s m e t
  exact ⟨a,q,r.to g.mono fun x f=>stay (Held.of e t q f)⟩
theorem Grow.refl (s:Same F H):Grow F H F H:=⟨Same.refl _,s,Same.refl _,fun _ _ e=>.inl e⟩
theorem Grow.pair {x y:V} {dx dy:D} {T:Addr} (s:Same F H) (n:H T=none) (rx:Rep K C F x dx) (ry:Rep K C F y dy):∃ Fb,Rep K C Fb (.ref T) (.tup [dx,dy])∧Grow F H Fb (upd H T (.tup [x,y])):=by
 have nF:=s.free n
 have sF:Same F (upd F T (.tup [x,y])):=fun b u e=>by rw [upd_ne (ne_of_none e nF)]; exact e
 refine ⟨upd F T (.tup [x,y]),.tup (SqT.of upd_same) (.cons (rx.to sF) (.cons (ry.to sF) .nil)),sF,fun b u e=>?_,fun b u e=>by rw [upd_ne (ne_of_none e n)]; exact e,fun b u e=>?_⟩
 ·by_cases h:b=T
  ·subst h
   rw [upd_same] at e ⊢
   exact e
  ·rw [upd_ne h] at e ⊢
   exact s b u e
 ·by_cases h:b=T
  ·subst h
   exact .inr n
  ·rw [upd_ne h] at e
   exact .inl e
end
def signsD (x:Str):List D:=x.cps.toList.map fun c=>.str ⟨#[c]⟩
def walkedD:D→Option (List D)
 | .lst l=>some l
 | .tup l=>some l
 | _=>none
def walked (r:RV) (ρ:Sl):Option Wk:=match r with
 | .dat d=>(walkedD d).map fun l=>(l,[])
 | .own (.lst l)=>some (l,[])
 | .bor i=>match ρ[i]? with
  | some (some (.dat d))=>(walkedD d).map fun l=>(l,[])
  | some (some (.own (.lst l)))=>some (l,[i])
  | some (some (.lck (.lst l)))=>some (l,[])
  | _=>none
 | _=>none
def WalkAt (K:PySem.W.Frag) (C:Cl) (z:At0) (ρ:Sl) (F:Hp) (σ:L2.St) (H:Hp) (v:V) (w:Wk):Prop:=∃ a vs,v=.ref a∧SqE K H a vs∧Reps K C F vs w.1∧((∀ o,K.lookup a=some o→H a=none)→∀ o,H a=some o→¬ OwnA (locks w.2 ρ) σ H a∧¬ Foreign z a)
section
variable {K:PySem.W.Frag} {C:Cl} {B:Bw} {W:WX} {z:At0} {F1 H1 F2 H2 F H:Hp} {ρ ρ1:Sl} {σ σ1:L2.St} {E:Ends}
theorem data_near (p:Post K C B z ρ F σ H) {a:Addr} {o:HO} (h:F a=some o):¬ Foreign z a:=fun f=>by
 obtain ⟨⟨u,hu⟩,n,fr⟩:=f
 rcases p.new a o h with y | y | y
 ·rw [fr] at y; cases y
 ·rw [hu] at y; cases y
 ·exact n (p.good a y)
theorem held_near (p:Post K C B z ρ F σ H) {a:Addr} (h:Held ρ σ H a):¬ Foreign z a:=fun f=>by
 obtain ⟨⟨u,hu⟩,n,fr⟩:=f
 rcases p.lowL a h with y | y
 ·exact n y
 ·rw [hu] at y; cases y
theorem walkedD_at {v:V} {d:D} {l:List D} (p:Post K C B z ρ F σ H) (r:Rep K C F v d) (e:walkedD d=some l) (is:List Nat):WalkAt K C z ρ F σ H v (l,is):=by
 have no:∀ {a:Addr} {o:HO},F a=some o→¬ OwnA (locks is ρ) σ H a:=fun q h=>by
  have:=(p.st.held (OwnA.held (own_locks is h))).1
  rw [this] at q
  cases q
 cases r with
 | lst q r=>cases e; exact ⟨_,_,rfl,.inl (SqL.of (p.st.sub _ _ q)),r,fun _ _ _=>⟨no q,data_near p q⟩⟩
 | tup q r =>
  cases e
  refine ⟨_,_,rfl,.inr (Same.tup p.st.sub q),r,fun k o ho=>?_⟩
  rcases q with (q | ⟨u,q⟩) | ⟨u,its,n,q,_⟩
  ·exact ⟨no q,data_near p q⟩
  ·exact ⟨no q,data_near p q⟩
  ·rw [k u q] at ho; cases ho
 | _=>cases e
theorem walked_at {v:V} {r:RV} {w:Wk} (p:Post K C B z ρ F σ H) (h:RepRV K C z ρ F σ H v r) (e:walked r ρ=some w):WalkAt K C z ρ F σ H v w:=by
 unfold walked at e
 split at e
 ·rename_i d
  cases q:walkedD d with
  | none=>rw [q] at e; cases e
  | some l=>rw [q] at e; cases e; exact walkedD_at p h q []
 ·rename_i l
  cases e
  obtain ⟨a,rfl,⟨n,vs,ha,r⟩,no⟩:=h
  refine ⟨a,vs,rfl,.inl (SqL.of ha),r,fun _ _ _=>⟨fun y=>(no a rfl).1 (OwnA.held (own_locks [] y)),fun f=>?_⟩⟩
  obtain ⟨⟨u,hu⟩,nl,fr⟩:=f
  rcases (no a rfl).2 with y | y
  ·exact nl (p.good a y)
  ·rw [hu] at y; cases y
 ·rename_i i
  have h:σ[i]?=some (some v):=h
  split at e
  ·rename_i d q
   cases q2:walkedD d with
   | none=>rw [q2] at e; cases e
   | some l =>
    rw [q2] at e
    cases e
    obtain ⟨v',e1,r⟩:=p.st.dat i _ q
    rw [h] at e1
    cases e1
    exact walkedD_at p r q2 []
  ·rename_i l q
   cases e
   obtain ⟨a,e1,rm⟩:=p.st.own q
   rw [h] at e1
   cases e1
   have ap:=lock_apart p.st q h
   obtain ⟨n,vs,ha,r⟩:=rm
   exact ⟨a,vs,rfl,.inl (SqL.of ha),r,fun _ _ _=>⟨ap,held_near p (Held.of q rfl h rfl)⟩⟩
  ·rename_i l q
   cases e
   obtain ⟨a,e1,rm⟩:=p.st.thg i _ _ q rfl
   rw [h] at e1
   cases e1
   obtain ⟨n,vs,ha,r⟩:=rm
   refine ⟨a,vs,rfl,.inl (SqL.of ha),r,fun _ _ _=>⟨?_,held_near p (Held.of q rfl h rfl)⟩⟩
   rintro ⟨j,m,b,e2,q2,f⟩
   have e2:ρ[j]?=some (some (.own m)):=e2
   refine p.st.sep j i b a a m (.lst l) _ ?_ e2 q rfl q2 h f rfl
   rintro rfl
   rw [q] at e2
   cases e2
  ·cases e
 ·cases e
end
def dItems (f:DE):Ef Wk:=bindE f fun r ρ=>match walked r ρ with
 | some w=>some (.ok w ρ)
 | none=>none
def enumL (l:List D):List D:=(List.range l.length).zipWith (fun (i:Nat) (d:D)=>D.tup [.int (i:Int),d]) l
def dEnum (f:DE):Ef Wk:=bindE f fun r ρ=>match walked r ρ with
 | some w=>some (.ok (enumL w.1,w.2) ρ)
 | none=>none
def rangeL (lo:Int) (n:Nat):List D:=(List.range n).map fun (i:Nat)=>D.int (lo+i)
def dRange1 (f:DE):Ef Wk:=bindE f fun r ρ=>match r.see ρ with
 | some (.int j)=>if j.natAbs≤100000 then some (.ok (rangeL 0 j.toNat,[]) ρ) else none
 | _=>none
def dRange2 (f f':DE):Ef Wk:=bindE f fun r=>bindE f' fun r' ρ=>match r.see ρ,r'.see ρ with
 | some (.int i),some (.int j)=>if i.natAbs≤100000∧j.natAbs≤100000 then some (.ok (rangeL i (j - i).toNat,[]) ρ) else none
 | _,_=>none
def dSigns (f:DE):Ef Wk:=bindE f fun r ρ=>match r.see ρ with
 | some (.str x)=>some (.ok (signsD x,[]) ρ)
 | _=>none
def zipL (l l':List D):List D:=l.zipWith (fun d d'=>D.tup [d,d']) l'
section
variable {X:Cx} {C:Cl} {B:Bw} {W:WX} {tg e e':Expr} {f f':DE} {p pos tpos:Pos}
theorem seq_walk {K:PySem.W.Frag} {z:At0} {ρ:Sl} {F1 H1:Hp} {σ:L2.St} {a:Addr} {vs:List V} {w:Wk} (no:∀ o,H1 a=some o→¬ OwnA (locks w.2 ρ) σ H1 a∧¬ Foreign z a) (r:Reps K C F1 vs w.1) (J:It) (wk:Walk J vs.length (At H1 a) (YAt vs)):WalkD K C z ρ F1 σ H1 J w:=by
 refine ⟨At H1 a,YAt vs,by rw [← r.length]; exact wk,fun Fa Ha s1 s2 kp u hu=>kp a u hu (no u hu).1 (no u hu).2,fun i Fa Ha v Hb s1 s2 kp y=>?_⟩
 obtain ⟨rfl,hv⟩:=y
 obtain ⟨d,hd,rd⟩:=r.get hv
 exact ⟨Fa,d,hd,rd.to s1,Grow.refl s2⟩
theorem enum_walk {K:PySem.W.Frag} {z:At0} {ρ:Sl} {F1 H1:Hp} {σ:L2.St} {a:Addr} {vs:List V} {w:Wk} (no:∀ o,H1 a=some o→¬ OwnA (locks w.2 ρ) σ H1 a∧¬ Foreign z a) (r:Reps K C F1 vs w.1) (J:It) (wk:Walk J vs.length (At H1 a) (YPair (fun i=>some (.int (i:Nat))) (fun i=>vs[i]?))):WalkD K C z ρ F1 σ H1 J (enumL w.1,w.2):=by
 have len:(enumL w.1).length=w.1.length:=by unfold enumL; simp
 refine ⟨At H1 a,_,by show Walk J (enumL w.1).length _ _; rw [len,← r.length]; exact wk,fun Fa Ha s1 s2 kp u hu=>kp a u hu (no u hu).1 (no u hu).2,fun i Fa Ha v Hb s1 s2 kp y=>?_⟩
 obtain ⟨T,x,y',rfl,nT,rfl,hx,hz⟩:=y
 cases hx
 obtain ⟨d,hd,rd⟩:=r.get hz
 obtain ⟨Fb,rb,g⟩:=Grow.pair s2 nT (Rep.int (i:Nat)) (rd.to s1)
 refine ⟨Fb,_,?_,rb,g⟩
 show (enumL w.1)[i]?=_
 unfold enumL
 rw [List.getElem?_zipWith,hd]
 have:i < w.1.length:=(List.getElem?_eq_some_iff.mp hd).1
 simp [this]
theorem range_walk {K:PySem.W.Frag} {z:At0} {ρ:Sl} {F1 H1:Hp} {σ:L2.St} {lo:Int} {n:Nat}:WalkD K C z ρ F1 σ H1 (Itr lo n) (rangeL lo n,[]):=by
 have len:(rangeL lo n).length=n:=by unfold rangeL; simp
 refine ⟨fun H=>True∧True,fun i H x H'=>i < n∧H'=H∧x=.int (lo+i),?_,fun _ _ _ _ _=>⟨trivial,trivial⟩,fun i Fa Ha v Hb s1 s2 kp y=>?_⟩
 ·show Walk _ (rangeL lo n).length _ _
  rw [len]
  exact ⟨fun i _ hi _=>hi,fun _ _=>Nat.le_refl _,fun i _ _ _ hi _ y=>⟨hi,y⟩⟩
 ·obtain ⟨hi,rfl,rfl⟩:=y
  refine ⟨Fa,.int (lo+i),?_,.int _,Grow.refl s2⟩
  show (rangeL lo n)[i]?=_
  unfold rangeL
  simp [hi]
theorem pdi_seq (h:PD X C B W e f):PDI X C B W tg e (dItems f):=PI.conv (pi_seqK h) fun σ H R ⟨ρ,F,st,g⟩=>tG_bind (k1:=kR X.K C) (Post.start st) g fun r1 ρ1 v F1 H1 g1 p1 _ q1=>by
 try dsimp only at g1
 split at g1
 ·rename_i w ew
  obtain ⟨a,vs,rfl,sq,rs,no⟩:=walked_at p1 q1 ew
  exact ⟨a,vs,rfl,sq,fun k J wk=>g1 J F1 H1 p1 (seq_walk (no k) rs J wk)⟩
 ·exact False.elim g1
theorem pdi_enum {elts:List Expr} {kk:Nat} (hg:Gl X "enumerate") (hm:X.mg "enumerate" = none) (h:PD X C B W e f) (hs:starEach [e] X.env=[(false,eval e X.env)]:=by rfl) (he:starEach [e] X.env=(false,eval e X.env) :: starEach [] X.env:=by rfl):PDI X C B W (.Tuple elts kk tpos) (.Call (.Name "enumerate" p) [e] [] pos) (dEnum f) :=
 PI.conv (pi_enumK hg hm (pa_cons h pa_nil he) hs) fun σ H R ⟨ρ,F,st,g⟩=>tG_bind (k1:=kR X.K C) (Post.start st) g fun r1 ρ1 v F1 H1 g1 p1 _ q1=>by
  show ∃ a xs,[v]=[V.ref a]∧_
  try dsimp only at g1
  split at g1
  ·rename_i w ew
   obtain ⟨a,vs,rfl,sq,rs,no⟩:=walked_at p1 q1 ew
   exact ⟨a,vs,rfl,sq,fun k J wk=>g1 J F1 H1 p1 (enum_walk (no k) rs J wk)⟩
  ·exact False.elim g1
theorem pdi_range1 (hg:Gl X "range") (hm:X.mg "range" = none) (h:PD X C B W e f) (hs:starEach [e] X.env=[(false,eval e X.env)]:=by rfl) (he:starEach [e] X.env=(false,eval e X.env) :: starEach [] X.env:=by rfl):PDI X C B W tg (.Call (.Name "range" p) [e] [] pos) (dRange1 f) :=
 PI.conv (pi_range1 hg hm (pa_cons h pa_nil he) hs) fun σ H R ⟨ρ,F,st,g⟩=>tG_bind (k1:=kR X.K C) (Post.start st) g fun r1 ρ1 v F1 H1 g1 p1 _ q1=>by
  show ∃ j:Int,[v]=[V.int j]∧_
  try dsimp only at g1
  split at g1
  ·rename_i j e
   split at g1
   ·rename_i c
    rw [(RepRV.see q1 p1.st e).int_inv]
    exact ⟨j,rfl,by omega,by omega,g1 _ F1 H1 p1 (range_walk (H1:=H1))⟩
   ·exact False.elim g1
  ·exact False.elim g1
end
def loopS (tg:D→Sl→Option Sl) (body:DS):List D→DS
 | [],ρ=>some (.nx ρ)
 | d :: r,ρ=>match tg d ρ with
  | none=>none
  | some ρ1=>match body ρ1 with
   | some (.nx ρ2)=>loopS tg body r ρ2
   | some (.ct ρ2)=>loopS tg body r ρ2
   | some (.bk ρ2)=>some (.nx ρ2)
   | o=>o
def sFor (fi:Ef Wk) (tg:D→Sl→Option Sl) (body:DS):DS:=bindS fi fun w=>lockedS w.2 (loopS tg body w.1)
def loopW (test:Ef Bool) (body:DS):Nat→DS
 | 0,_=>none
 | n+1,ρ=>match test ρ with
  | some (.ok true ρ1)=>match body ρ1 with
   | some (.nx ρ2)=>loopW test body n ρ2
   | some (.ct ρ2)=>loopW test body n ρ2
   | some (.bk ρ2)=>some (.nx ρ2)
   | o=>o
  | some (.ok false ρ1)=>some (.nx ρ1)
  | some (.exc c fs ρ1)=>some (.exc c fs ρ1)
  | none=>none
def sWhile (μ:Sl→Nat) (test:Ef Bool) (body:DS):DS:=fun ρ=>loopW test body (μ ρ) ρ
section
variable {X:Cx} {C:Cl} {B:Bw} {W:WX} {tg iter c:Expr} {body:List Stmt} {fi:Ef Wk} {h:D→Sl→Option Sl} {g:DS} {pos:Pos} {js:List Nat} {test:Ef Bool}
theorem Post.kept {K:PySem.W.Frag} {ρ1 ρ:Sl} {F1 H1 F H:Hp} {σ1 σ:L2.St} {z:At0} (p:Post K C B (here ρ1 F1 σ1 H1) ρ F σ H):Kept z ρ1 σ1 H1 H:=fun x o e n _=>p.frame x o e n
theorem pds_for (hp:PassesOwn (model X.prog X.w) X.A X.env X.xe) (hc:X.calm=true) (hi:PDI X C B W tg iter fi) (hg:PDG X C B js tg h) (hb:PDSs X C B W body g)
  (hs:∀ x,foldedSetIterable iter X.env x=pure x:=by intro _; rfl):PDS X C B W (.For tg iter body [] pos) (sFor fi h g):=PS.conv (ps_for hp hc hi hg hb hs) fun E σ H ⟨ρ,F,st,q⟩=>tS_bind (k1:=kI X.K C) (Post.start st) q fun w ρ0 J F1 H1 q0 p0 wk=>by
 obtain ⟨st1,q1⟩:=lockedS_run w.2 p0 q0
 obtain ⟨ds,is⟩:=w
 obtain ⟨G,Y,w,hG,hY⟩:=wk
 dsimp only at q1 st1 w hG hY
 generalize locks is ρ0=ρ1 at q1 st1 hG hY
 refine ⟨fun i m σ' H'=>m=ds.length - i∧i≤ds.length∧∃ ρ' F',Post X.K C B (here ρ1 F1 σ H1) ρ' F' σ' H'∧Same F1 F'∧GoalS X.K C B W (here ρ1 F1 σ H1) E (loopS h g (ds.drop i) ρ'),⟨ds.length,by simp,Nat.zero_le _,ρ1,F1,Post.start st1,Same.refl _,q1⟩,?_⟩
 rintro i m σ' H' ⟨rfl,hi,ρ',F',p',s',q'⟩
 have gg:=hG F' H' s' p'.st.sub p'.kept
 by_cases lt:i < ds.length
 ·refine .inr ⟨w.goes i H' lt gg,fun σ2 H2=>∃ ρ2 F2,Post X.K C B (here ρ1 F1 σ H1) ρ2 F2 σ2 H2∧Same F1 F2∧GoalS X.K C B W (here ρ1 F1 σ H1) E (loopS h g (ds.drop (i+1)) ρ2),fun σ2 H2 ⟨ρ2,F2,p2,s2,q2⟩=>⟨ds.length - (i+1),by omega,rfl,lt,ρ2,F2,p2,s2,q2⟩,fun x Hb y=>?_⟩
  obtain ⟨Fb,d,hd,rd,gr⟩:=hY i F' H' x Hb s' p'.st.sub p'.kept (w.yields i H' x Hb lt gg y)
  have pb:=p'.grow gr
  have ed:ds.drop i=d :: ds.drop (i+1):=by
   rw [List.drop_eq_getElem_cons lt]
   congr 1
   rw [List.getElem?_eq_getElem lt] at hd
   exact Option.some.inj hd
  rw [ed] at q'
  unfold loopS at q'
  cases e:h d ρ' with
  | none=>rw [e] at q'; exact False.elim q'
  | some ρ2 =>
   rw [e] at q'
   dsimp only at q'
   refine ⟨ρ',Fb,d,ρ2,pb.st,rd,e,fun σ2 _ p2=>?_⟩
   have pc:=pb.trans p2
   refine ⟨ρ2,Fb,pc.st,?_⟩
   have sb:Same F1 Fb:=s'.trans gr.mono
   cases eb:g ρ2 with
   | none=>rw [eb] at q'; exact False.elim q'
   | some o =>
    rw [eb] at q'
    cases o with
    | nx ρ3=>exact fun σ3 F3 H3 p3=>⟨ρ3,F3,pc.trans p3,sb.trans p3.mono,q'⟩
    | ct ρ3=>exact fun σ3 F3 H3 p3=>⟨ρ3,F3,pc.trans p3,sb.trans p3.mono,q'⟩
    | bk ρ3=>exact fun σ3 F3 H3 p3=>q' σ3 F3 H3 (pc.trans p3)
    | rt r ρ3=>exact fun v σ3 F3 H3 p3 rv=>q' v σ3 F3 H3 (pc.trans p3) (RepRV.since pc rv)
    | exc c fs ρ3=>exact fun dd σ3 F3 H3 p3 ex=>q' dd σ3 F3 H3 (pc.trans p3) ex
 ·have e:i=ds.length:=by omega
  subst e
  rw [List.drop_length] at q'
  exact .inl ⟨w.stops H' gg,q' σ' F' H' p'⟩
end
def OpM (K:PySem.W.Frag) (C:Cl) (r:V→List V→Hp→VK→Prop) (g:RV→List RV→DE):Prop:=∀ (B:Bw) (W:WX) (z:At0) (ρ:Sl) (σ:L2.St) (F H:Hp) (x:V) (vs:List V) (r0:RV) (rs:List RV) (Q:VK),
 Post K C B z ρ F σ H→RepRV K C z ρ F σ H x r0→RepRVs K C z ρ F σ H vs rs→Goal K C B W z σ Q (g r0 rs ρ)→r x vs H Q
def tyOk (T:String):D→Bool
 | .lst _=>decide (T = "list")
 | .str _=>decide (T = "str")
 | _=>false
def dMeth (T:String) (g:RV→List RV→DE) (fo:DE) (fl:Ef (List RV)):DE:=bindE fo fun r ρ=>match r.see ρ with
 | some d=>if tyOk T d=true then bindE fl (fun rs=>g r rs) ρ else none
 | none=>none
theorem RepP.ty {K:PySem.W.Frag} {C:Cl} {F H:Hp} {v:V} {d:D} {T:String} (r:RepP K C F H v d) (h:tyOk T d=true):tyV K T v H:=by
 cases d with
 | lst l=>obtain ⟨a,vs,rfl,e,_⟩:=r; exact .inl ⟨of_decide_eq_true h,vs,SqL.of e⟩
 | str z=>cases (show Rep K C F v (.str z) from r); exact (show T = "str" from of_decide_eq_true h)
 | _=>cases h
section
variable {X:Cx} {C:Cl} {B:Bw} {W:WX} {o e:Expr} {es:List Expr} {fo:DE} {fl:Ef (List RV)} {name:Str} {apos cpos:Pos} {T id:String} {r:V→List V→Hp→VK→Prop} {g:RV→List RV→DE}
theorem pd_bm (pa:PlainAttrs T) (slot:Slot T name id) (hty:typeOf (.builtin id)=pure (.type "method_descriptor")) (hm:MtR X id r) (og:OpM X.K C r g) (ho:PD X C B W o fo) (ha:PDA X C B W (e :: es) fl)
  (hbase:attributeBase o name X.env (eval o X.env)=eval o X.env:=by rfl)
  (hfew:((backTo cpos (starEach (e :: es) X.env)).all (fun x=>!x.1) && (backToKw cpos (keywordEach [] X.env)).all (fun x=>x.1.isSome)
   && decide ((e :: es).length+([]:List Keyword).length+(if ([]:List Keyword).isEmpty then 0 else 1) < 30))=true:=by rfl)
  (hline:(apos.endLine == cpos.line)=true:=by rfl) (hs:starEach (e :: es) X.env=(false,eval e X.env) :: starEach es X.env:=by rfl) (hplain:(backTo cpos (starEach es X.env)).any (·.1)=false:=by rfl) :
  PD X C B W (.Call (.Attribute o name apos) (e :: es) [] cpos) (dMeth T g fo fl):=PE.conv (pe_bm pa slot hty hm ho ha hbase hfew hline hs hplain) fun σ H Q ⟨ρ,F,st,g0⟩=>tG_bind (k1:=kR X.K C) (Post.start st) g0 fun r1 ρ1 x F1 H1 g1 p1 _ q1=>by
 try dsimp only at g1
 split at g1
 ·rename_i d ed
  split at g1
  ·rename_i ok
   refine ⟨(RepRV.parts q1 p1.st ed).ty ok,?_⟩
   exact tG_bind (k1:=kL X.K C) p1 g1 fun rs ρ2 vs F2 H2 g2 p2 s2 q2=>og B W _ ρ2 σ F2 H2 x vs r1 rs Q p2 (RepRV.carry q1 s2) q2 g2
  ·exact False.elim g1
 ·exact False.elim g1
end
def ownL (r:RV) (ρ:Sl):Option (Nat×List D):=match r with
 | .bor i=>match ρ[i]? with
  | some (some (.own (.lst l)))=>some (i,l)
  | _=>none
 | _=>none
section
variable {K:PySem.W.Frag} {C:Cl} {B:Bw} {z:At0} {F H:Hp} {ρ:Sl} {σ:L2.St}
theorem ownL_run {r:RV} {x:V} {i:Nat} {l:List D} (e:ownL r ρ=some (i,l)) (p:Post K C B z ρ F σ H) (q:RepRV K C z ρ F σ H x r):∃ a vs,x=.ref a∧H a=some (.lst vs)∧Reps K C F vs l∧ρ[i]?=some (some (.own (.lst l)))∧σ[i]?=some (some (.ref a)):=by
 unfold ownL at e
 split at e
 ·rename_i j
  split at e
  ·rename_i l' h
   cases e
   obtain ⟨a,e1,n,vs,ha,r⟩:=p.st.own h
   have q:σ[i]?=some (some x):=q
   rw [q] at e1
   cases e1
   exact ⟨a,vs,rfl,ha,r,h,q⟩
  ·cases e
 ·cases e
theorem Post.setL {i:Nat} {l l':List D} {a:Addr} {vs:List V} (p:Post K C B z ρ F σ H) (h:ρ[i]?=some (some (.own (.lst l)))) (s:σ[i]?=some (some (.ref a))) (r:Reps K C F vs l'):Post K C B z (ρ.set i (some (.own (.lst l')))) F σ (upd H a (.lst vs)):=by
 obtain ⟨b,e,n,_⟩:=p.st.own h
 rw [s] at e
 cases e
 exact p.write (x:=a) h s rfl ⟨n,vs,upd_same,r⟩ fun y f=>f
def gAppend (r:RV) (rs:List RV):DE:=fun ρ=>match ownL r ρ,rs with
 | some (i,l),[.dat d]=>if l.length < 10000 then some (.ok (.dat .non) (ρ.set i (some (.own (.lst (l++[d])))))) else none
 | _,_=>none
theorem o_append:OpM K C rAppend gAppend:=by
 intro B W z ρ σ F H x vs r0 rs Q p q0 qs g
 unfold gAppend at g
 split at g
 ·rename_i i l d e
  split at g
  ·rename_i c
   obtain ⟨a,ws,rfl,ha,z,h1,h2⟩:=ownL_run e p q0
   cases qs with
   | cons q1 qt _ =>
   cases qt
   refine ⟨a,ws,_,rfl,rfl,ha,by rw [z.length]; exact line10000' c,?_⟩
   exact g _ F _ (p.setL h1 h2 (z.snoc q1)) .non
  ·exact False.elim g
 ·exact False.elim g
def gExtend (r:RV) (rs:List RV):DE:=fun ρ=>match ownL r ρ,rs with
 | some (i,l),[r']=>match r'.see ρ with
  | some (.lst l')=>if l.length+l'.length≤10000 then some (.ok (.dat .non) (ρ.set i (some (.own (.lst (l++l')))))) else none
  | _=>none
 | _,_=>none
def gPopAt (r:RV) (rs:List RV):DE:=fun ρ=>match ownL r ρ,rs with
 | some (i,l),[r']=>match r'.see ρ with
  | some (.int k)=>if k.natAbs≤100000 then match seqIndex? k l.length with
   | some j=>match l[j]? with
    | some d=>some (.ok (.dat d) (ρ.set i (some (.own (.lst (l.eraseIdx j))))))
    | none=>none
   | none=>none
   else none
  | _=>none
 | _,_=>none
end
def sStore (f fo fi:DE):DS:=bindS (froze f) fun rv=>bindS fo fun ro=>bindS fi fun ri ρ=>match rv,ownL ro ρ,ri.see ρ with
 | .dat d,some (i,l),some (.int k)=>match ixN l.length k with
  | some j=>some (.nx (ρ.set i (some (.own (.lst (l.set j d))))))
  | none=>none
 | _,_,_=>none
section
variable {X:Cx} {C:Cl} {B:Bw} {W:WX} {o i e:Expr} {f fo fi:DE} {pos pos':Pos}
theorem pds_store (he:PD X C B W e f) (ho:PD X C B W o fo) (hi:PD X C B W i fi)
  (ha:∀ v,assign (.Subscript o i pos) X.env v=(do
   let ov ← holding [v] (eval o X.env)
   let iv ← holding [v,ov] (eval i X.env)
   standAt pos
   holding [v,ov,iv] (setItem ov iv v)
   release [v,ov,iv] []):=by intro _; rfl)
  (hs:swapsWithSole [.Subscript o i pos] e pos'.line X.env=pure false:=by rfl) (hw:swappedStores [.Subscript o i pos] e X.env=pure none:=by rfl)
  (h1:(assignEach [.Subscript o i pos] X.env).map (·.2)=[assign (.Subscript o i pos) X.env]:=by rfl):PDS X C B W (.Assign [.Subscript o i pos] e pos') (sStore f fo fi) :=
 PS.conv (ps_asg (pd_frz he) (pg_sub ho hi set_list ha) hs hw h1) fun E σ H ⟨ρ,F,st,q⟩=>tS_bind (k1:=kR X.K C) (Post.start st) q fun r1 ρ1 v F1 H1 q1 p1 rv=>tS_bindR (k1:=kR X.K C) p1 q1 fun r2 ρ2 x F2 H2 q2 p2 s2 rx=>tS_bindR (k1:=kR X.K C) p2 q2 fun r3 ρ3 y F3 H3 q3 p3 s3 ry=>by
  split at q3
  ·rename_i d i' l k eo ei
   split at q3
   ·rename_i j hj
    have rv:RepRV X.K C (here ρ F σ H) ρ1 F1 σ H1 v (.dat d):=rv
    have rv3:=(rv.carry s2).carry s3
    obtain ⟨a,ws,rfl,h1,z,h2,h3⟩:=ownL_run eo p3 (RepRV.carry rx s3)
    rw [(RepRV.see ry p3.st ei).int_inv]
    refine ⟨a,ws,k,j,rfl,rfl,h1,by rw [z.length]; exact hj,?_⟩
    exact q3 σ F3 _ (p3.setL h2 h3 (z.set j rv3))
   ·exact False.elim q3
  ·exact False.elim q3
end
def wipeR (ρ:Sl):List Nat→Sl
 | []=>ρ
 | v :: vs=>(wipeR ρ vs).set v none
def loopC (vs:List Nat) (tg:D→Sl→Option Sl) (ft:Ef Bool) (fe:DE):List D→List D→DE
 | [],acc,ρ=>some (.ok (.own (.lst acc)) ρ)
 | d :: r,acc,ρ=>match tg d ρ with
  | none=>none
  | some ρ1=>match ft ρ1 with
   | some (.ok true ρ2)=>match fe ρ2 with
    | some (.ok (.dat e) ρ3)=>if acc.length < 10000 then loopC vs tg ft fe r (acc++[e]) (wipeR ρ3 vs) else none
    | _=>none
   | some (.ok false ρ2)=>loopC vs tg ft fe r acc (wipeR ρ2 vs)
   | _=>none
def dLc (vs:List Nat) (fi:Ef Wk) (tg:D→Sl→Option Sl) (ft:Ef Bool) (fe:DE):DE:=bindE fi fun w=>lockedE w.2 fun ρ=>loopC vs tg ft (froze fe) w.1 [] (wipeR ρ vs)
def loopI (vs1:List Nat) (tg:D→Sl→Option Sl) (ft:Ef Bool) (fe:DE):List D→List D→Sl→Option (List D×Sl)
 | [],acc,ρ=>some (acc,ρ)
 | d :: r,acc,ρ=>match tg d ρ with
  | none=>none
  | some ρ1=>match ft ρ1 with
   | some (.ok true ρ2)=>match fe ρ2 with
    | some (.ok (.dat e) ρ3)=>if acc.length < 10000 then loopI vs1 tg ft fe r (acc++[e]) (wipeR ρ3 vs1) else none
    | _=>none
   | some (.ok false ρ2)=>loopI vs1 tg ft fe r acc (wipeR ρ2 vs1)
   | _=>none
def loopC2 (vs vs1:List Nat) (tg:D→Sl→Option Sl) (ft:Ef Bool) (fi1:Ef Wk) (tg1:D→Sl→Option Sl) (ft1:Ef Bool) (fe:DE):List D→List D→DE
 | [],acc,ρ=>some (.ok (.own (.lst acc)) ρ)
 | d :: r,acc,ρ=>match tg d ρ with
  | none=>none
  | some ρ1=>match ft ρ1 with
   | some (.ok true ρ2)=>match fi1 ρ2 with
    | some (.ok (ds1,[]) ρ3)=>match loopI vs1 tg1 ft1 fe ds1 acc (wipeR ρ3 vs1) with
     | some (acc',ρ4)=>loopC2 vs vs1 tg ft fi1 tg1 ft1 fe r acc' (wipeR ρ4 vs)
     | none=>none
    | _=>none
   | some (.ok false ρ2)=>loopC2 vs vs1 tg ft fi1 tg1 ft1 fe r acc (wipeR ρ2 vs)
   | _=>none
def dLc2 (vs vs1:List Nat) (fi:Ef Wk) (tg:D→Sl→Option Sl) (ft:Ef Bool) (fi1:Ef Wk) (tg1:D→Sl→Option Sl) (ft1:Ef Bool) (fe:DE):DE:=bindE fi fun w=>lockedE w.2 fun ρ=>loopC2 vs vs1 tg ft fi1 tg1 ft1 (froze fe) w.1 [] (wipeR ρ vs)
def yesT:Ef Bool:=retE true
section
variable {K:PySem.W.Frag} {C:Cl} {B:Bw} {W:WX} {z:At0} {F H:Hp} {ρ:Sl} {σ:L2.St}
theorem wipeR_some {ρ:Sl} {i:Nat} {x:SV}:∀ {vs:List Nat},(wipeR ρ vs)[i]?=some (some x)→ρ[i]?=some (some x)∧i∉vs
 | [],h=>⟨h,by simp⟩
 | v :: vs,h=>by
  unfold wipeR at h
  rcases set_cases h with ⟨_,y,_⟩ | ⟨n,y⟩
  ·cases y
  ·obtain ⟨h1,h2⟩:=wipeR_some y
   exact ⟨h1,by simp only [List.mem_cons,not_or]; exact ⟨n,h2⟩⟩
theorem wipeR_length (ρ:Sl):∀ vs:List Nat,(wipeR ρ vs).length=ρ.length
 | []=>rfl
 | v :: vs=>by unfold wipeR; rw [List.length_set,wipeR_length ρ vs]
theorem wipe_out {σ:L2.St} {i:Nat}:∀ {vs:List Nat},i∉vs→(wipe σ vs)[i]?=σ[i]?
 | [],_=>rfl
 | v :: vs,h=>by
  unfold wipe
  rw [List.getElem?_set_ne fun e=>h (by rw [e]; exact List.mem_cons_self)]
  exact wipe_out fun y=>h (List.mem_cons_of_mem _ y)
theorem wipe_idem (s:L2.St):∀ (l:List Nat),(∀ i∈l,∀ v,s[i]?≠some (some v))→wipe s l=s
 | [],_=>rfl
 | u :: us,hn=>by
  show (wipe s us).set u none=s
  rw [wipe_idem s us fun i hi=>hn i (List.mem_cons_of_mem _ hi)]
  have hu:=hn u List.mem_cons_self
  apply List.ext_getElem?
  intro k
  by_cases hk:u=k
  ·subst hk
   by_cases hl:u < s.length
   ·rw [List.getElem?_set_self hl]
    cases y:s[u]? with
    | none=>rw [List.getElem?_eq_none_iff] at y; omega
    | some o =>
     cases o with
     | none=>rfl
     | some v=>exact (hu v y).elim
   ·rw [List.getElem?_eq_none (by rw [List.length_set]; omega),List.getElem?_eq_none (by omega)]
  ·rw [List.getElem?_set_ne hk]
theorem wipeR_idem (s:Sl):∀ (l:List Nat),(∀ i∈l,∀ v,s[i]?≠some (some v))→wipeR s l=s
 | [],_=>rfl
 | u :: us,hn=>by
  show (wipeR s us).set u none=s
  rw [wipeR_idem s us fun i hi=>hn i (List.mem_cons_of_mem _ hi)]
  have hu:=hn u List.mem_cons_self
  apply List.ext_getElem?
  intro k
  by_cases hk:u=k
  ·subst hk
   by_cases hl:u < s.length
   ·rw [List.getElem?_set_self hl]
    cases y:s[u]? with
    | none=>rw [List.getElem?_eq_none_iff] at y; omega
    | some o =>
     cases o with
     | none=>rfl
     | some v=>exact (hu v y).elim
   ·rw [List.getElem?_eq_none (by rw [List.length_set]; omega),List.getElem?_eq_none (by omega)]
  ·rw [List.getElem?_set_ne hk]
theorem Post.sigs (p:Post K C B z ρ F σ H) {σ':L2.St} (hl:σ'.length=σ.length) (h:∀ (i:Nat) (x:SV),ρ[i]?=some (some x)→σ'[i]?=σ[i]?):Post K C B z ρ F σ' H:=by
 refine ⟨p.mono,p.frame,p.new,⟨hl.trans p.st.len,p.st.sub,fun j d e=>by rw [h j _ e]; exact p.st.dat j d e,fun j s m e t=>by rw [h j _ e]; exact p.st.thg j s m e t,
  fun j k a b x m m' s n e1 e2 t q1 q2=>p.st.sep j k a b x m m' s n e1 e2 t (by rw [← h j _ e1]; exact q1) (by rw [← h k _ e2]; exact q2),fun j m hi e=>by rw [h j _ e]; exact p.st.fix j m hi e⟩,
  fun a ⟨j,m,b,e,q,f⟩=>p.low a ⟨j,m,b,e,by rw [← h j _ e]; exact q,f⟩,fun a ⟨j,s,m,b,e,t,q,f⟩=>p.lowL a ⟨j,s,m,b,e,t,by rw [← h j _ e]; exact q,f⟩,p.good,fun j a m ⟨e,q⟩=>p.lks j a m ⟨e,by rw [← h j _ e]; exact q⟩⟩
theorem Held.sigs {σ':L2.St} {x:Addr} (h:∀ (i:Nat) (x:SV),ρ[i]?=some (some x)→σ'[i]?=σ[i]?):Held ρ σ' H x→Held ρ σ H x:=fun ⟨j,s,m,a,e,t,q,f⟩=>⟨j,s,m,a,e,t,by rw [← h j _ e]; exact q,f⟩
structure InC (K:PySem.W.Frag) (C:Cl) (B:Bw) (z:At0) (F1:Hp) (L:Addr) (ρ:Sl) (σ:L2.St) (F H:Hp) (acc:List D):Prop where
 post:Post K C B z ρ F σ H
 mono:Same F1 F
 free:F L=none
 no:¬ Held ρ σ H L
 at_:∃ xs,H L=some (.lst xs)∧Reps K C F xs acc
section
variable {F1 F2 H2:Hp} {L:Addr} {ρ2:Sl} {σ2:L2.St} {acc:List D}
theorem InC.thru (c:InC K C B z F1 L ρ σ F H acc) (q:Post K C B (here ρ F σ H) ρ2 F2 σ2 H2):InC K C B z F1 L ρ2 σ2 F2 H2 acc:=by
 obtain ⟨xs,hL,r⟩:=c.at_
 have st:=q.stays c.free hL fun h=>c.no h.held
 refine ⟨c.post.trans q,c.mono.trans q.mono,st.2,fun h=>?_,xs,st.1.trans hL,r.to q.mono⟩
 rcases q.lowL L h with y | y
 ·exact c.no y
 ·exact hL.symm.trans y |> fun w=>by cases w
theorem InC.grow (c:InC K C B z F1 L ρ σ F H acc) (g:Grow F H F2 H2):InC K C B z F1 L ρ σ F2 H2 acc:=by
 obtain ⟨xs,hL,r⟩:=c.at_
 have pg:=(Post.start c.post.st).grow g
 refine ⟨c.post.grow g,c.mono.trans g.mono,?_,fun h=>?_,xs,g.keep _ _ hL,r.to g.mono⟩
 ·cases y:F2 L with
  | none=>rfl
  | some u =>
   rcases g.new L u y with w | w
   ·rw [c.free] at w; cases w
   ·rw [hL] at w; cases w
 ·rcases pg.lowL L h with y | y
  ·exact c.no y
  ·exact hL.symm.trans y |> fun w=>by cases w
theorem InC.wiped (c:InC K C B z F1 L ρ σ F H acc) (vs:List Nat) {σ':L2.St} (hl:σ'.length=σ.length) (h:∀ i,i∉vs→σ'[i]?=σ[i]?):InC K C B z F1 L (wipeR ρ vs) σ' F H acc:=by
 have less:∀ (i:Nat) (x:SV),(wipeR ρ vs)[i]?=some (some x)→ρ[i]?=some (some x):=fun i x e=>(wipeR_some e).1
 have p1:=c.post.less (wipeR_length ρ vs) less
 have ag:∀ (i:Nat) (x:SV),(wipeR ρ vs)[i]?=some (some x)→σ'[i]?=σ[i]?:=fun i x e=>h i (wipeR_some e).2
 exact ⟨p1.sigs hl ag,c.mono,c.free,fun y=>c.no (Held.less less (Held.sigs ag y)),c.at_⟩
theorem InC.push (c:InC K C B z F1 L ρ σ F H acc) (n0:z.S L∨z.H L=none) {y:V} {d:D} (r:Rep K C F y d) {xs:List V} (hL:H L=some (.lst xs)):InC K C B z F1 L ρ σ F (upd H L (.lst (xs++[y]))) (acc++[d]):=by
 obtain ⟨xs',hL',rs⟩:=c.at_
 rw [hL] at hL'
 cases hL'
 refine ⟨c.post.aside n0 c.free c.no,c.mono,c.free,fun h=>?_,_,upd_same,rs.snoc r⟩
 obtain ⟨i,s,m,b,e1,t,q2,f⟩:=h
 have ne:b≠L:=fun w=>c.no (Held.of e1 t q2 (w ▸ Foot.root _ _ _))
 exact c.no ⟨i,s,m,b,e1,t,q2,(Foot.same (upd_ne ne)).mp f⟩
end
theorem drop_cons' {ds:List D} {i:Nat} {d:D} (lt:i < ds.length) (hd:ds[i]?=some d):ds.drop i=d :: ds.drop (i+1):=by
 rw [List.drop_eq_getElem_cons lt]
 congr 1
 rw [List.getElem?_eq_getElem lt] at hd
 exact Option.some.inj hd
theorem lc_run {fi:Ef Wk} {h:D→Sl→Option Sl} {ft:Ef Bool} {fe:DE} {vs js:List Nat} (hj:∀ j∈js,j∈vs) {σ:L2.St} {H:Hp} {Q:VK} (q:tD K C B W (dLc vs fi h ft fe) σ H Q) :
  tLc (tG (kI K C) B W fi) (tGt K C B js h) (tT K C B (fun _ _ _ _=>False) ft) (tD K C B (fun _ _ _ _=>False) (froze fe)) vs σ H Q:=by
 obtain ⟨ρ,F,st,q⟩:=q
 refine tG_bind (k1:=kI K C) (Post.start st) q fun w ρ0 J F1 H1 q0 p0 _ wk=>fun L nL=>?_
 obtain ⟨st1,q1⟩:=lockedE_run w.2 p0 q0
 obtain ⟨ds,is⟩:=w
 obtain ⟨G,Y,w,hG,hY⟩:=wk
 dsimp only at q1 st1 w hG hY
 generalize locks is ρ0=ρ1 at q1 st1 hG hY
 have wl:(wipe σ vs).length=σ.length:=wipe_length σ vs
 have p1:=Post.start st1
 have n0:(here ρ1 F1 σ H1).S L∨(here ρ1 F1 σ H1).H L=none:=.inr nL
 have c0:InC K C B (here ρ1 F1 σ H1) F1 L ρ1 σ F1 (upd H1 L (.lst [])) []:=⟨p1.newO nL _,Same.refl _,p1.st.sub.free nL,fun h=>by
  obtain ⟨i,s,m,b,e1,t,q2,f⟩:=h
  have ne:b≠L:=fun w=>p1.notHeld nL (Held.of e1 t q2 (w ▸ Foot.root _ _ _))
  exact p1.notHeld nL ⟨i,s,m,b,e1,t,q2,(Foot.same (upd_ne ne)).mp f⟩,[],upd_same,.nil⟩
 refine ⟨fun i m H'=>m=ds.length - i∧i≤ds.length∧∃ ρ' F' acc,InC K C B (here ρ1 F1 σ H1) F1 L ρ' (wipe σ vs) F' H' acc∧(∀ i∈vs,∀ x,ρ'[i]?≠some (some x)) ∧
  Goal K C B W (here ρ1 F1 σ H1) σ Q (loopC vs h ft (froze fe) (ds.drop i) acc ρ'),⟨ds.length,by simp,Nat.zero_le _,wipeR ρ1 vs,F1,[],c0.wiped vs wl fun i n=>wipe_out n,fun i hi x e=>(wipeR_some e).2 hi,q1⟩,?_⟩
 rintro i m H' ⟨rfl,hi,ρ',F',acc,c,free,q'⟩
 have kp:Kept (here ρ F σ H) ρ1 σ H1 H':=fun x o e n _=>c.post.frame x o e n
 have gg:=hG F' H' c.mono c.post.st.sub kp
 by_cases lt:i < ds.length
 ·refine .inr ⟨w.goes i H' lt gg,fun H2=>∃ ρ2 F2 acc,InC K C B (here ρ1 F1 σ H1) F1 L ρ2 (wipe σ vs) F2 H2 acc∧(∀ i∈vs,∀ x,ρ2[i]?≠some (some x)) ∧
   Goal K C B W (here ρ1 F1 σ H1) σ Q (loopC vs h ft (froze fe) (ds.drop (i+1)) acc ρ2),fun H2 y=>⟨ds.length - (i+1),by omega,rfl,lt,y⟩,fun x Hb y=>?_⟩
  obtain ⟨Fb,d,hd,rd,gr⟩:=hY i F' H' x Hb c.mono c.post.st.sub kp (w.yields i H' x Hb lt gg y)
  have cb:=c.grow gr
  rw [drop_cons' lt hd] at q'
  unfold loopC at q'
  cases e:h d ρ' with
  | none=>rw [e] at q'; exact False.elim q'
  | some ρ2 =>
   rw [e] at q'
   dsimp only at q'
   refine ⟨ρ',Fb,d,ρ2,cb.post.st,rd,e,fun σ2 wp p2=>⟨(wp vs hj).trans (wipe_idem _ _ fun i hi v y=>(wipe_some y).2 hi),?_⟩⟩
   have c2:=cb.thru p2
   have len2:σ2.length=σ.length:=by
    have:=congrArg List.length (wp vs hj)
    rw [wipe_length,wipe_length,wl] at this
    exact this
   have out2:∀ i,i∉vs→(wipe σ vs)[i]?=σ2[i]?:=fun i n=>by
    have:=congrArg (fun l:L2.St=>l[i]?) (wp vs hj)
    try dsimp only at this
    rw [wipe_out n,wipe_out n] at this
    exact this.symm
   refine ⟨ρ2,Fb,c2.post.st,?_⟩
   cases et:ft ρ2 with
   | none=>rw [et] at q'; exact False.elim q'
   | some o =>
    rw [et] at q'
    cases o with
    | exc c fs ρ3=>exact False.elim q'
    | ok b ρ3 =>
     intro b' F3 H3 p3 eb
     obtain rfl:b'=b:=eb
     have c3:=c2.thru p3
     cases b' with
     | false =>
      rw [if_neg Bool.false_ne_true]
      exact ⟨wipeR ρ3 vs,F3,acc,c3.wiped vs (by rw [wl,len2]) out2,fun i hi x e=>(wipeR_some e).2 hi,q'⟩
     | true =>
      rw [if_pos rfl]
      dsimp only at q'
      refine ⟨ρ3,F3,c3.post.st,?_⟩
      cases ee:froze fe ρ3 with
      | none=>rw [ee] at q'; exact False.elim q'
      | some o =>
       rw [ee] at q'
       cases o with
       | exc c fs ρ4=>exact False.elim q'
       | ok r ρ4 =>
        cases r with
        | own m=>exact False.elim q'
        | bor k=>exact False.elim q'
        | shr k=>exact False.elim q'
        | dat dz =>
         dsimp only at q'
         intro y F4 H4 p4 ry
         have ry:Rep K C F4 y dz:=ry
         split at q'
         ·rename_i la
          have c4:=c3.thru p4
          obtain ⟨xs,hL4,rs⟩:=c4.at_
          refine ⟨xs,hL4,by rw [rs.length]; exact line10000' la,wipeR ρ4 vs,F4,acc++[dz],?_,fun i hi x e=>(wipeR_some e).2 hi,q'⟩
          exact (c4.push n0 ry hL4).wiped vs (by rw [wl,len2]) out2
         ·exact False.elim q'
 ·have e:i=ds.length:=by omega
  subst e
  rw [List.drop_length] at q'
  refine .inl ⟨w.stops H' gg,?_⟩
  have cf:=c.wiped vs wl.symm fun i n=>(wipe_out n).symm
  rw [wipeR_idem ρ' vs free] at cf
  obtain ⟨xs,hL,rs⟩:=cf.at_
  refine q' _ F' H' cf.post ⟨L,rfl,⟨cf.free,xs,hL,rs⟩,fun x f=>?_⟩
  obtain rfl:x=L:=f
  exact ⟨cf.no,n0⟩
end
section
variable {X:Cx} {C:Cl} {B:Bw} {W:WX} {elt tg iter:Expr} {ifs:List Expr} {scope:Scope} {own:List (Str×Nat)} {pos spos py:Pos} {fi:Ef Wk} {h:D→Sl→Option Sl} {ft:Ef Bool} {fe:DE} {js:List Nat} {y:Str} {i np:Nat}
abbrev W0:WX:=fun _ _ _ _=>False
theorem pts_yes {Y:Cx}:PTs Y [] (tT Y.K C B W0 yesT):=⟨fun pins s σ H Q I q=>pts_nil.run pins s σ H Q I (by obtain ⟨ρ,F,st,g⟩:=q; exact g true F H (Post.start st) rfl)⟩
theorem pd_lc (hc:X.calm=true) (hN:X.N.Nodup) (hi:PDI X C B W tg iter fi) (ok:BlkOk X.N X.env.scope scope own) (hj:∀ j∈js,j∈own.map (·.2))
  (hg:∀ (s:Shared) (H:Hp) (L:Addr) (cl:List (Str×Addr)) (fp:List Addr),PDG (X.blk s H scope (compEnvC scope cl L X.env) fp) C B js tg h) (ht:∀ (s:Shared) (H:Hp) (L:Addr) (cl:List (Str×Addr)) (fp:List Addr),PTs (X.blk s H scope (compEnvC scope cl L X.env) fp) ifs (tT X.K C B W0 ft))
  (he:∀ (s:Shared) (H:Hp) (L:Addr) (cl:List (Str×Addr)) (fp:List Addr),PD (X.blk s H scope (compEnvC scope cl L X.env) fp) C B W0 elt fe) (hs:∀ x,foldedSetIterable iter X.env x=pure x:=by intro _; rfl) :
  PD X C B W (.ListComp elt [⟨tg,iter,ifs,0⟩] scope pos) (dLc (own.map (·.2)) fi h ft fe):=PE.conv (pe_lc hc hN hi ok hg ht (fun s H L cl fp=>pd_frz (he s H L cl fp)) hs) fun σ H Q q=>lc_run hj q
theorem pds_setLc (hn:B.np=np) (hc:X.calm=true) (hN:X.N.Nodup) (hy:X.N[i]?=some y) (hyl:X.env.scope.names.lookup y=some .local)
  (hsw:swapsWith (.ListComp elt [⟨tg,iter,ifs,0⟩] scope pos) (some (.Name y py)) spos.line X.env=pure true) (hi:PDI X C B W tg iter fi) (ok:BlkOk X.N X.env.scope scope own) (hj:∀ j∈js,j∈own.map (·.2))
  (hg:∀ (s:Shared) (H:Hp) (L:Addr) (cl:List (Str×Addr)) (fp:List Addr),PDG (X.blk s H scope (compEnvC scope cl L X.env) fp) C B js tg h) (ht:∀ (s:Shared) (H:Hp) (L:Addr) (cl:List (Str×Addr)) (fp:List Addr),PTs (X.blk s H scope (compEnvC scope cl L X.env) fp) ifs (tT X.K C B W0 ft))
  (he:∀ (s:Shared) (H:Hp) (L:Addr) (cl:List (Str×Addr)) (fp:List Addr),PD (X.blk s H scope (compEnvC scope cl L X.env) fp) C B W0 elt fe) (hs:∀ x,foldedSetIterable iter X.env x=pure x:=by intro _; rfl) :
  PDS X C B W (.Assign [.Name y py] (.ListComp elt [⟨tg,iter,ifs,0⟩] scope pos) spos) (sSet i np (dLc (own.map (·.2)) fi h ft fe)) :=
 PS.conv (ps_setLc hc hN hy hyl hsw hi ok hg ht (fun s H L cl fp=>pd_frz (he s H L cl fp)) hs) fun E σ H q=>lc_run hj (set_run hn q)
end
section
variable {K:PySem.W.Frag} {C:Cl} {B:Bw} {W:WX} {z:At0} {F H F1 F2 H2:Hp} {ρ ρ2:Sl} {σ σ2:L2.St} {L:Addr} {acc acc2:List D}
end
section
variable {X:Cx} {C:Cl} {B:Bw} {W:WX} {elt tg iter tg1 iter1:Expr} {ifs ifs1:List Expr} {scope:Scope} {own:List (Str×Nat)} {vs1:List Nat} {pos spos py:Pos} {fi fi1:Ef Wk} {h h1:D→Sl→Option Sl} {ft ft1:Ef Bool} {fe:DE} {js js1:List Nat} {y:Str} {i np:Nat}
end
def spF (K:PySem.W.Frag) (C:Cl) (f:DE):Sp:=fun vs H Q E=>tG (kR K C) noB (fun cls d _ H=>E cls d H) f (vs.map some) H Q
def lend:Option (Option SV)→Option SV
 | some (some (.dat d))=>some (.dat d)
 | some (some (.own m))=>some (.lck m)
 | some (some (.lck m))=>some (.lck m)
 | _=>none
def takeArgs:List RV→Sl→Option (List (Option SV)×Sl)
 | [],ρ=>some ([],ρ)
 | .dat d :: rs,ρ=>match takeArgs rs ρ with
  | some (as,ρ')=>some (some (.dat d) :: as,ρ')
  | none=>none
 | .bor i :: rs,ρ=>match ρ[i]? with
  | some (some (.dat d))=>match takeArgs rs ρ with
   | some (as,ρ')=>some (some (.dat d) :: as,ρ')
   | none=>none
  | some (some (.own m))=>match takeArgs rs (ρ.set i none) with
   | some (as,ρ')=>some (some (.own m) :: as,ρ')
   | none=>none
  | some (some (.lck m))=>match takeArgs rs ρ with
   | some (as,ρ')=>match lend ρ'[i]? with
    | some s=>some (some s :: as,ρ')
    | none=>none
   | none=>none
  | _=>none
 | .shr i :: rs,ρ=>match takeArgs rs ρ with
  | some (as,ρ')=>match lend ρ'[i]? with
   | some s=>some (some s :: as,ρ')
   | none=>none
  | none=>none
 | .own _ :: _,_=>none
def giveBack:List RV→List (Option SV)→Sl→Sl→Sl
 | .bor i :: rs,some (.own _) :: as,some (.own m) :: fs,ρ=>giveBack rs as fs (ρ.set i (some (.own m)))
 | _ :: rs,_ :: as,_ :: fs,ρ=>giveBack rs as fs ρ
 | _,_,_,ρ=>ρ
def gCallF (f:DE) (rs:List RV):DE:=fun ρ=>match takeArgs rs ρ with
 | some (as,ρd)=>match f as with
  | some (.ok (.dat d) fin)=>some (.ok (.dat d) (giveBack rs as fin ρd))
  | some (.ok (.own m) fin)=>some (.ok (.own m) (giveBack rs as fin ρd))
  | some (.exc c fs fin)=>some (.exc c fs (giveBack rs as fin ρd))
  | _=>none
 | none=>none
section
variable {K:PySem.W.Frag} {C:Cl} {B:Bw} {W:WX} {z:At0} {F H F' H':Hp} {ρ ρq:Sl} {σ:L2.St} {Q:VK}
structure Taken (K:PySem.W.Frag) (C:Cl) (B:Bw) (z:At0) (ρ:Sl) (σ:L2.St) (F H:Hp) (vs:List V) (rs:List RV) (as:List (Option SV)) (ρd:Sl):Prop where
 len:as.length=vs.length
 post:Post K C B z ρd F σ H
 sub:∀ (j:Nat) (x:SV),ρd[j]?=some (some x)→ρ[j]?=some (some x)
 dat:∀ (k:Nat) (d:D),as[k]?=some (some (.dat d))→∃ v,vs[k]?=some v∧Rep K C F v d
 own:∀ (k:Nat) (m:MO),as[k]?=some (some (.own m))→∃ (i:Nat) (a:Addr),rs[k]?=some (.bor i)∧ρ[i]?=some (some (.own m))∧vs[k]?=some (.ref a)∧σ[i]?=some (some (.ref a))∧∀ x,ρd[i]?≠some (some x)
 lck:∀ (k:Nat) (m:MO),as[k]?=some (some (.lck m))→∃ (i:Nat) (a:Addr) (s:SV),ρd[i]?=some (some s)∧thing s=some m∧vs[k]?=some (.ref a)∧σ[i]?=some (some (.ref a))
 one:∀ (k k':Nat) (m m':MO) (i:Nat),as[k]?=some (some (.own m))→as[k']?=some (some (.own m'))→rs[k]?=some (.bor i)→rs[k']?=some (.bor i)→k=k'
theorem unset {ρ:Sl} {i j:Nat} {x:SV} (h:(ρ.set i none)[j]?=some (some x)):j≠i∧ρ[j]?=some (some x):=by
 rcases set_cases h with ⟨_,y,_⟩ | y
 ·cases y
 ·exact y
theorem Taken.push {v:V} {r:RV} {vs:List V} {rs:List RV} {as:List (Option SV)} {ρd:Sl} {s:SV} (t:Taken K C B z ρ σ F H vs rs as ρd) (no:∀ m,s≠.own m) (hd:∀ d,s=.dat d→Rep K C F v d)
  (hl:∀ m,s=.lck m→∃ (i:Nat) (a:Addr) (s':SV),ρd[i]?=some (some s')∧thing s'=some m∧v=.ref a∧σ[i]?=some (some (.ref a))):Taken K C B z ρ σ F H (v :: vs) (r :: rs) (some s :: as) ρd:=by
 refine ⟨congrArg Nat.succ t.len,t.post,t.sub,fun k d h=>?_,fun k m h=>?_,fun k m h=>?_,fun k k' m m' i h1 h2 h3 h4=>?_⟩
 ·cases k with
  | zero=>simp at h; exact ⟨v,rfl,hd d h⟩
  | succ k=>exact t.dat k d (by simpa using h)
 ·cases k with
  | zero=>simp at h; exact (no m h).elim
  | succ k=>exact t.own k m (by simpa using h)
 ·cases k with
  | zero =>
   simp at h
   obtain ⟨i,a,s',e1,e2,rfl,e4⟩:=hl m h
   exact ⟨i,a,s',e1,e2,rfl,e4⟩
  | succ k=>exact t.lck k m (by simpa using h)
 ·cases k with
  | zero=>simp at h1; exact (no m h1).elim
  | succ k =>
   cases k' with
   | zero=>simp at h2; exact (no m' h2).elim
   | succ k'=>exact congrArg Nat.succ (t.one k k' m m' i (by simpa using h1) (by simpa using h2) (by simpa using h3) (by simpa using h4))
theorem Taken.lent {v:V} {r:RV} {vs:List V} {rs:List RV} {as:List (Option SV)} {ρd:Sl} {s:SV} {i:Nat} (t:Taken K C B z ρ σ F H vs rs as ρd) (h:σ[i]?=some (some v)) (e:lend ρd[i]?=some s):Taken K C B z ρ σ F H (v :: vs) (r :: rs) (some s :: as) ρd:=by
 unfold lend at e
 split at e
 ·rename_i d q
  cases e
  obtain ⟨v',e1,rr⟩:=t.post.st.dat i d q
  rw [h] at e1
  cases e1
  exact t.push (fun _ w=>by cases w) (fun _ w=>by cases w; exact rr) fun _ w=>by cases w
 ·rename_i m q
  cases e
  obtain ⟨a,e1,_⟩:=t.post.st.thg i _ m q rfl
  rw [h] at e1
  cases e1
  exact t.push (fun _ w=>by cases w) (fun _ w=>by cases w) fun _ w=>by cases w; exact ⟨i,a,_,q,rfl,rfl,h⟩
 ·rename_i m q
  cases e
  obtain ⟨a,e1,_⟩:=t.post.st.thg i _ m q rfl
  rw [h] at e1
  cases e1
  exact t.push (fun _ w=>by cases w) (fun _ w=>by cases w) fun _ w=>by cases w; exact ⟨i,a,_,q,rfl,rfl,h⟩
 ·cases e
theorem takeArgs_spec:∀ {rs:List RV} {vs:List V} {ρ:Sl} {as:List (Option SV)} {ρd:Sl},Post K C B z ρ F σ H→RepRVs K C z ρq F σ H vs rs→takeArgs rs ρ=some (as,ρd)→Taken K C B z ρ σ F H vs rs as ρd
 | [],_,ρ,as,ρd,p,q,e=>by
  cases q
  cases e
  exact ⟨rfl,p,fun _ _ h=>h,fun k d h=>by simp at h,fun k m h=>by simp at h,fun k m h=>by simp at h,fun k k' m m' i h=>by simp at h⟩
 | .own m :: rs,_,ρ,as,ρd,p,q,e=>by cases e
 | .dat d :: rs,_,ρ,as,ρd,p,.cons x t _,e=>by
  unfold takeArgs at e
  split at e
  ·rename_i as' ρ' e'
   cases e
   exact (takeArgs_spec p t e').push (fun _ w=>by cases w) (fun _ w=>by cases w; exact x) fun _ w=>by cases w
  ·cases e
 | .shr i :: rs,_,ρ,as,ρd,p,.cons (v:=v) x t _,e=>by
  have x:σ[i]?=some (some v):=x
  unfold takeArgs at e
  split at e
  ·rename_i as' ρ' e'
   split at e
   ·rename_i s es
    cases e
    exact (takeArgs_spec p t e').lent x es
   ·cases e
  ·cases e
 | .bor i :: rs,_,ρ,as,ρd,p,.cons (v:=v) x t _,e=>by
  have x:σ[i]?=some (some v):=x
  unfold takeArgs at e
  split at e
  ·rename_i d hd
   split at e
   ·rename_i as' ρ' e'
    cases e
    obtain ⟨v',e1,r⟩:=p.st.dat i _ hd
    rw [x] at e1
    cases e1
    exact (takeArgs_spec p t e').push (fun _ w=>by cases w) (fun _ w=>by cases w; exact r) fun _ w=>by cases w
   ·cases e
  ·rename_i m hm
   split at e
   ·rename_i as' ρ' e'
    cases e
    have ih:=takeArgs_spec (p.drop i) t e'
    obtain ⟨a,ea,_⟩:=p.st.own hm
    rw [x] at ea
    cases ea
    have gone:∀ x,ρd[i]?≠some (some x):=fun x h=>(unset (ih.sub i x h)).1 rfl
    refine ⟨congrArg Nat.succ ih.len,ih.post,fun j x h=>(unset (ih.sub j x h)).2,fun k d' h=>?_,fun k m' h=>?_,fun k m' h=>?_,fun k k' m1 m2 i' h1 h2 h3 h4=>?_⟩
    ·cases k with
     | zero=>simp at h
     | succ k=>exact ih.dat k d' (by simpa using h)
    ·cases k with
     | zero=>simp at h; subst h; exact ⟨i,a,rfl,hm,rfl,x,gone⟩
     | succ k =>
      obtain ⟨i',a',g1,g2,g3,g4,g5⟩:=ih.own k m' (by simpa using h)
      exact ⟨i',a',by simpa using g1,(unset g2).2,by simpa using g3,g4,g5⟩
    ·cases k with
     | zero=>simp at h
     | succ k=>exact ih.lck k m' (by simpa using h)
    ·cases k with
     | zero =>
      cases k' with
      | zero=>rfl
      | succ k' =>
       obtain ⟨i2,a',g1,g2,_⟩:=ih.own k' m2 (by simpa using h2)
       have z1:i=i':=by simpa using h3
       have z2:rs[k']?=some (RV.bor i'):=by simpa using h4
       rw [z2] at g1
       cases g1
       exact ((unset g2).1 z1.symm).elim
     | succ k =>
      cases k' with
      | zero =>
       obtain ⟨i2,a',g1,g2,_⟩:=ih.own k m1 (by simpa using h1)
       have z1:i=i':=by simpa using h4
       have z2:rs[k]?=some (RV.bor i'):=by simpa using h3
       rw [z2] at g1
       cases g1
       exact ((unset g2).1 z1.symm).elim
      | succ k'=>exact congrArg Nat.succ (ih.one k k' m1 m2 i' (by simpa using h1) (by simpa using h2) (by simpa using h3) (by simpa using h4))
   ·cases e
  ·rename_i m hm
   split at e
   ·rename_i as' ρ' e'
    split at e
    ·rename_i s es
     cases e
     exact (takeArgs_spec p t e').lent x es
    ·cases e
   ·cases e
  ·cases e
theorem map_some {vs:List V} {k:Nat} {v:V}:(vs.map some)[k]?=some (some v)↔vs[k]?=some v:=by
 rw [List.getElem?_map]
 cases vs[k]? <;> simp
section
variable {vs:List V} {rs:List RV} {as fin:List (Option SV)} {ρd:Sl}
theorem Taken.owns (t:Taken K C B z ρ σ F H vs rs as ρd) {x:Addr} (h:OwnA as (vs.map some) H x):OwnA ρ σ H x:=by
 obtain ⟨k,m,a,h1,h2,f⟩:=h
 obtain ⟨i,b,g1,g2,g3,g4,_⟩:=t.own k m h1
 rw [map_some.mp h2] at g3
 cases g3
 exact ⟨i,m,a,g2,g4,f⟩
theorem Taken.apart (t:Taken K C B z ρ σ F H vs rs as ρd) (p:Post K C B z ρ F σ H) {x:Addr} (h:OwnA as (vs.map some) H x) (h':Held ρd σ H x):False:=by
 obtain ⟨k,m,a,h1,h2,f⟩:=h
 obtain ⟨i,b,g1,g2,g3,g4,g5⟩:=t.own k m h1
 rw [map_some.mp h2] at g3
 cases g3
 obtain ⟨j,s,m',c,e1,th,e2,f2⟩:=h'
 refine p.st.sep i j a c x m m' s ?_ g2 (t.sub j _ e1) th g4 e2 f f2
 rintro rfl
 exact g5 _ e1
theorem Taken.args (t:Taken K C B z ρ σ F H vs rs as ρd) (p:Post K C B z ρ F σ H):RepSt K C noB as F (vs.map some) H:=by
 refine ⟨by rw [List.length_map,t.len],p.st.sub,fun k d h=>?_,fun k s m h th=>?_,fun k k' a b x m m' s n h1 h2 th h3 h4 f1 f2=>?_,fun k m h=>absurd h (Nat.not_lt_zero _)⟩
 ·obtain ⟨v,e,r⟩:=t.dat k d h
  exact ⟨v,map_some.mpr e,r⟩
 ·cases s with
  | dat d=>cases th
  | own m1 =>
   cases th
   obtain ⟨i,a,_,g2,g3,g4,_⟩:=t.own k m h
   obtain ⟨b,e1,r⟩:=p.st.own g2
   rw [g4] at e1
   cases e1
   exact ⟨a,map_some.mpr g3,r⟩
  | lck m1 =>
   cases th
   obtain ⟨i,a,s',g1,g2,g3,g4⟩:=t.lck k m h
   obtain ⟨b,e1,r⟩:=t.post.st.thg i s' m g1 g2
   rw [g4] at e1
   cases e1
   exact ⟨a,map_some.mpr g3,r⟩
 ·have ow:OwnA as (vs.map some) H x:=⟨k,m,a,h1,h3,f1⟩
  cases s with
  | dat d=>cases th
  | own m1 =>
   cases th
   obtain ⟨i,b1,g1,g2,g3,g4,_⟩:=t.own k m h1
   obtain ⟨i',b1',g1',g2',g3',g4',_⟩:=t.own k' m' h2
   rw [map_some.mp h3] at g3
   rw [map_some.mp h4] at g3'
   cases g3
   cases g3'
   by_cases hi:i=i'
   ·subst hi
    exact n (t.one k k' m m' i h1 h2 g1 g1')
   ·exact p.st.sep i i' a b x m m' _ hi g2 g2' rfl g4 g4' f1 f2
  | lck m1 =>
   cases th
   obtain ⟨i,c,s',g1,g2,g3,g4⟩:=t.lck k' m' h2
   rw [map_some.mp h4] at g3
   cases g3
   exact t.apart p ow (Held.of g1 g2 g4 f2)
theorem Taken.behind (t:Taken K C B z ρ σ F H vs rs as ρd) (p:Post K C B z ρ F σ H) (q:Post K C noB (here as F (vs.map some) H) fin F' (vs.map some) H'):Post K C B z ρd F' σ H':=by
 have stay:∀ {x:Addr},Held ρd σ H x→H' x=H x∧F' x=none:=fun {x} h=>by
  obtain ⟨n,o,ho⟩:=t.post.st.held h
  exact q.stays n ho fun y=>t.apart p y h
 have foot:∀ {i:Nat} {s:SV} {m:MO} {a x:Addr},ρd[i]?=some (some s)→thing s=some m→σ[i]?=some (some (.ref a))→Foot H' a m x→Foot H a m x:=fun e th q f=>(Foot.same (stay (Held.of e th q (Foot.root _ _ _))).1).mp f
 refine ⟨p.mono.trans q.mono,fun b o e s=>?_,fun b o e=>?_,⟨t.post.st.len,q.st.sub,fun i d e=>?_,fun i s m e th=>?_,fun i j a b x m m' s n e1 e2 th q1 q2 f1 f2=>t.post.st.sep i j a b x m m' s n e1 e2 th q1 q2 (foot e1 rfl q1 f1) (foot e2 th q2 f2),t.post.st.fix⟩,
  fun x ⟨i,m,a,e,q,f⟩=>t.post.low x ⟨i,m,a,e,q,foot e rfl q f⟩,fun x ⟨i,s,m,a,e,th,q,f⟩=>t.post.lowL x ⟨i,s,m,a,e,th,q,foot e th q f⟩,p.good,t.post.lks⟩
 ·refine q.frame b o (p.frame b o e s) fun y=>?_
  rcases p.low b (t.owns y) with u | u
  ·exact s u
  ·rw [e] at u; cases u
 ·rcases q.new b o e with h | h | h
  ·exact p.new b o h
  ·exact .inr (p.there h).symm
  ·exact .inr (p.low b (t.owns h)).symm
 ·obtain ⟨v,e1,r⟩:=t.post.st.dat i d e
  exact ⟨v,e1,r.to q.mono⟩
 ·obtain ⟨a,e1,r⟩:=t.post.st.thg i s m e th
  exact ⟨a,e1,r.to q.mono fun x f=>stay (Held.of e th e1 f)⟩
end
theorem giveBack_spec:∀ {rs:List RV} {as fin:List (Option SV)} {ρ:Sl},Post K C B z ρ F σ H →
  (∀ (k i:Nat) (m m':MO),rs[k]?=some (.bor i)→as[k]?=some (some (.own m))→fin[k]?=some (some (.own m'))→(∀ x,ρ[i]?≠some (some x))∧∃ a,σ[i]?=some (some (.ref a))∧RepM K C F H a m'∧(∀ x,Foot H a m' x→¬ Held ρ σ H x∧(z.S x∨z.H x=none))∧(i < B.np→∃ b,B.B i=some b∧σ[i]?=some (some (.ref b)))) →
  (∀ (k k' i i':Nat) (m m' n n':MO) (a b x:Addr),k≠k'→rs[k]?=some (.bor i)→as[k]?=some (some (.own m))→fin[k]?=some (some (.own n))→rs[k']?=some (.bor i')→as[k']?=some (some (.own m'))→fin[k']?=some (some (.own n'))→σ[i]?=some (some (.ref a))→σ[i']?=some (some (.ref b))→Foot H a n x→Foot H b n' x→False) →
  Post K C B z (giveBack rs as fin ρ) F σ H∧∀ x,Held (giveBack rs as fin ρ) σ H x→Held ρ σ H x∨∃ (k i:Nat) (m m':MO) (a:Addr),rs[k]?=some (.bor i)∧as[k]?=some (some (.own m))∧fin[k]?=some (some (.own m'))∧σ[i]?=some (some (.ref a))∧Foot H a m' x
 | [],as,fin,ρ,p,_,_=>by
  have e:giveBack [] as fin ρ=ρ:=by unfold giveBack; cases as <;> cases fin <;> rfl
  rw [e]
  exact ⟨p,fun a h=>.inl h⟩
 | r :: rs,[],fin,ρ,p,_,_=>by
  have e:giveBack (r :: rs) [] fin ρ=ρ:=by cases r <;> rfl
  rw [e]
  exact ⟨p,fun a h=>.inl h⟩
 | r :: rs,o :: as,[],ρ,p,_,_=>by
  have e:giveBack (r :: rs) (o :: as) [] ρ=ρ:=by
   cases r <;> first
    | rfl
    | (rcases o with _ | (_ | _ | _) <;> rfl)
  rw [e]
  exact ⟨p,fun a h=>.inl h⟩
 | r :: rs,o :: as,f :: fs,ρ,p,h,u=>by
  have u':∀ (k k' i i':Nat) (m m' n n':MO) (a b x:Addr),k≠k'→rs[k]?=some (.bor i)→as[k]?=some (some (.own m))→fs[k]?=some (some (.own n))→rs[k']?=some (.bor i')→as[k']?=some (some (.own m'))→fs[k']?=some (some (.own n'))→σ[i]?=some (some (.ref a))→σ[i']?=some (some (.ref b))→Foot H a n x→Foot H b n' x→False :=
   fun k k' i i' m m' n n' a b x ne g1 g2 g3 g4 g5 g6=>u (k+1) (k'+1) i i' m m' n n' a b x (by omega) (by simpa using g1) (by simpa using g2) (by simpa using g3) (by simpa using g4) (by simpa using g5) (by simpa using g6)
  have plain:giveBack (r :: rs) (o :: as) (f :: fs) ρ=giveBack rs as fs ρ→Post K C B z (giveBack (r :: rs) (o :: as) (f :: fs) ρ) F σ H∧∀ x,Held (giveBack (r :: rs) (o :: as) (f :: fs) ρ) σ H x→Held ρ σ H x∨∃ (k i:Nat) (m m':MO) (a:Addr),(r :: rs)[k]?=some (.bor i)∧(o :: as)[k]?=some (some (.own m))∧(f :: fs)[k]?=some (some (.own m'))∧σ[i]?=some (some (.ref a))∧Foot H a m' x:=by
   intro e
   rw [e]
   obtain ⟨p1,c1⟩:=giveBack_spec (rs:=rs) (as:=as) (fin:=fs) p (fun k i m m' g1 g2 g3=>h (k+1) i m m' (by simpa using g1) (by simpa using g2) (by simpa using g3)) u'
   refine ⟨p1,fun a y=>?_⟩
   rcases c1 a y with y | ⟨k,i,m,m',c,g1,g2,g3,g4⟩
   ·exact .inl y
   ·exact .inr ⟨k+1,i,m,m',c,by simpa using g1,by simpa using g2,by simpa using g3,g4⟩
  match r,o,f,plain,h,u with
  | .bor i,some (.own m),some (.own m'),_,h,u =>
   obtain ⟨g0,a,g1,g2,g3,g4⟩:=h 0 i m m' rfl rfl rfl
   have p0:=p.putN (i:=i) (m:=m') g0 g1 g2 g3 g4
   have e:giveBack (.bor i :: rs) (some (.own m) :: as) (some (.own m') :: fs) ρ=giveBack rs as fs (ρ.set i (some (.own m'))):=rfl
   rw [e]
   have held0:∀ x,Held (ρ.set i (some (.own m'))) σ H x→Held ρ σ H x∨Foot H a m' x:=by
    rintro x ⟨j,s,n,c,h1,th,h2,f⟩
    rcases set_cases h1 with ⟨rfl,y,_⟩ | ⟨_,y⟩
    ·cases y
     cases th
     rw [g1] at h2
     cases h2
     exact .inr f
    ·exact .inl ⟨j,s,n,c,y,th,h2,f⟩
   obtain ⟨p1,c1⟩:=giveBack_spec (rs:=rs) (as:=as) (fin:=fs) p0 (fun k i' n n' q1 q2 q3=>by
    obtain ⟨z0,b,z1,z2,z3,z4⟩:=h (k+1) i' n n' (by simpa using q1) (by simpa using q2) (by simpa using q3)
    refine ⟨fun x w=>?_,b,z1,z2,fun x f=>⟨fun y=>?_,(z3 x f).2⟩,z4⟩
    ·rcases set_cases w with ⟨rfl,_,_⟩ | ⟨_,y⟩
     ·rw [g1] at z1
      cases z1
      exact u 0 (k+1) i' i' m n m' n' a a a (by omega) rfl rfl rfl (by simpa using q1) (by simpa using q2) (by simpa using q3) g1 g1 (Foot.root _ _ _) (Foot.root _ _ _)
     ·exact z0 x y
    ·rcases held0 x y with y | y
     ·exact (z3 x f).1 y
     ·exact u 0 (k+1) i i' m n m' n' a b x (by omega) rfl rfl rfl (by simpa using q1) (by simpa using q2) (by simpa using q3) g1 z1 y f) u'
   refine ⟨p1,fun x y=>?_⟩
   rcases c1 x y with y | ⟨k,i',n,n',b,q1,q2,q3,q4⟩
   ·rcases held0 x y with y | y
    ·exact .inl y
    ·exact .inr ⟨0,i,m,m',a,rfl,rfl,rfl,g1,y⟩
   ·exact .inr ⟨k+1,i',n,n',b,by simpa using q1,by simpa using q2,by simpa using q3,q4⟩
  | .bor i,some (.own m),none,plain,_,_=>exact plain rfl
  | .bor i,some (.own m),some (.dat d),plain,_,_=>exact plain rfl
  | .bor i,some (.own m),some (.lck d),plain,_,_=>exact plain rfl
  | .bor i,some (.dat d),f,plain,_,_=>exact plain rfl
  | .bor i,some (.lck d),f,plain,_,_=>exact plain rfl
  | .bor i,none,f,plain,_,_=>exact plain rfl
  | .dat d,o,f,plain,_,_=>exact plain rfl
  | .own m,o,f,plain,_,_=>exact plain rfl
  | .shr m,o,f,plain,_,_=>exact plain rfl
section
variable {vs:List V} {rs:List RV} {as fin:List (Option SV)} {ρd:Sl}
theorem Taken.done (t:Taken K C B z ρ σ F H vs rs as ρd) (p:Post K C B z ρ F σ H) (q:Post K C noB (here as F (vs.map some) H) fin F' (vs.map some) H') :
  Post K C B z (giveBack rs as fin ρd) F' σ H'∧∀ x,Held (giveBack rs as fin ρd) σ H' x→Held ρd σ H' x∨Held fin (vs.map some) H' x:=by
 have pb:=t.behind p q
 -- what the callee holds at its end is none of what stayed with the caller
 have ap:∀ x,OwnA fin (vs.map some) H' x→¬ Held ρd σ H' x:=fun x h1 h2=>by
  obtain ⟨j,s,m,c,e1,th,e2,f⟩:=h2
  have hr:=Held.of e1 th e2 (Foot.root H c m)
  obtain ⟨nr,orr,hor⟩:=t.post.st.held hr
  have er:=(q.stays nr hor fun y=>t.apart p y hr).1
  have hx:Held ρd σ H x:=Held.of e1 th e2 ((Foot.same er).mp f)
  obtain ⟨_,o,ho⟩:=t.post.st.held hx
  rcases q.low x h1 with y | y
  ·exact t.apart p y hx
  ·exact ho.symm.trans y |> fun w=>by cases w
 obtain ⟨p1,c1⟩:=giveBack_spec (rs:=rs) (as:=as) (fin:=fin) pb (fun k i m m' g1 g2 g3=>by
  obtain ⟨i',a,z1,z2,z3,z4,z5⟩:=t.own k m g2
  rw [g1] at z1
  cases z1
  obtain ⟨b,e1,r⟩:=q.st.own g3
  rw [map_some.mpr z3] at e1
  cases e1
  refine ⟨z5,a,z4,r,fun x f=>?_,fun hi=>p.st.fix i m hi z2⟩
  have ow:OwnA fin (vs.map some) H' x:=⟨k,m',a,g3,map_some.mpr z3,f⟩
  refine ⟨ap x ow,?_⟩
  rcases q.low x ow with y | y
  ·exact p.low x (t.owns y)
  ·exact p.there y) (fun k k' i i' m m' n n' a b x ne g1 g2 g3 g4 g5 g6 g7 g8 f1 f2=>by
  obtain ⟨j,c,z1,z2,z3,z4,_⟩:=t.own k m g2
  obtain ⟨j',c',y1,y2,y3,y4,_⟩:=t.own k' m' g5
  rw [g1] at z1
  rw [g4] at y1
  cases z1
  cases y1
  rw [g7] at z4
  rw [g8] at y4
  cases z4
  cases y4
  exact q.st.sep k k' a b x n n' _ ne g3 g6 rfl (map_some.mpr z3) (map_some.mpr y3) f1 f2)
 refine ⟨p1,fun x y=>?_⟩
 rcases c1 x y with y | ⟨k,i,m,m',a,g1,g2,g3,g4,f⟩
 ·exact .inl y
 ·obtain ⟨j,b,z1,z2,z3,z4,_⟩:=t.own k m g2
  rw [g1] at z1
  cases z1
  rw [g4] at z4
  cases z4
  exact .inr (Held.of g3 rfl (map_some.mpr z3) f)
end
theorem call_run {f:DE} {vs:List V} {rs:List RV} (p:Post K C B z ρ F σ H) (q:RepRVs K C z ρ F σ H vs rs) (g:Goal K C B W z σ Q (gCallF f rs ρ)):spF K C f vs H Q (WE W σ):=by
 unfold gCallF at g
 split at g
 ·rename_i as ρd e
  have t:=takeArgs_spec p q e
  refine ⟨as,F,t.args p,?_⟩
  cases ef:f as with
  | none=>rw [ef] at g; exact False.elim g
  | some o =>
   rw [ef] at g
   cases o with
   | exc c fs fin=>exact fun dd F' H' pq ex=>g dd F' H' (t.done p pq).1 ex
   | ok r fin =>
    cases r with
    | bor i=>exact False.elim g
    | shr i=>exact False.elim g
    | dat d=>exact fun v F' H' pq rv=>g v F' H' (t.done p pq).1 rv
    | own m =>
     rintro v F' H' pq ⟨a,rfl,rm,no⟩
     obtain ⟨p1,c1⟩:=t.done p pq
     refine g _ F' H' p1 ⟨a,rfl,rm,fun x f=>⟨fun y=>?_,?_⟩⟩
     ·rcases c1 x y with y | y
      ·obtain ⟨j,s,m',c,e1,th,e2,f2⟩:=y
       have hr:=Held.of e1 th e2 (Foot.root H c m')
       obtain ⟨nr,orr,hor⟩:=t.post.st.held hr
       have er:=(pq.stays nr hor fun y=>t.apart p y hr).1
       have hx:Held ρd σ H x:=Held.of e1 th e2 ((Foot.same er).mp f2)
       rcases (no x f).2 with s | s
       ·exact t.apart p s hx
       ·obtain ⟨_,o,ho⟩:=t.post.st.held hx
        exact ho.symm.trans s |> fun w=>by cases w
      ·exact (no x f).1 y
     ·rcases (no x f).2 with s | s
      ·exact p.low x (t.owns s)
      ·exact p.there s
 ·exact False.elim g
end
def finOf (n:Nat) (ρ:Sl):Sl:=(List.range n).map fun (i:Nat)=>match ρ[i]? with
 | some (some (.own m))=>some (.own m)
 | _=>none
def callF (N n:Nat) (g:DS):DE:=fun as=>if as.length=n then match g (as++List.replicate (N - n) none) with
  | some (.nx ρ)=>some (.ok (.dat .non) (finOf n ρ))
  | some (.rt (.dat d) ρ)=>some (.ok (.dat d) (finOf n ρ))
  | some (.rt (.own m) ρ)=>some (.ok (.own m) (finOf n ρ))
  | some (.rt (.bor i) ρ)=>match ρ[i]? with
   | some (some (.dat d))=>some (.ok (.dat d) (finOf n ρ))
   | some (some (.own m))=>if n≤i then some (.ok (.own m) (finOf n ρ)) else none
   | _=>none
  | some (.exc c fs ρ)=>some (.exc c fs (finOf n ρ))
  | _=>none
 else none
section
variable {K:PySem.W.Frag} {C:Cl} {F H F' H':Hp} {as ρ':Sl} {vs:List V} {σ':L2.St} {N:List Str} {n:Nat}
def bwOf (as:Sl) (vs:List V):Bw:=⟨fun i=>match as[i]?,vs[i]? with
 | some (some (.own _)),some (.ref a)=>some a
 | _,_=>none,as.length⟩
theorem bwOf_inv {i:Nat} {a:Addr} (h:(bwOf as vs).B i=some a):∃ m,as[i]?=some (some (.own m))∧vs[i]?=some (.ref a):=by
 have h:(match as[i]?,vs[i]? with | some (some (.own _)),some (.ref a)=>some a | _,_=>none)=some a:=h
 split at h
 ·rename_i m b e1 e2
  cases h
  exact ⟨m,e1,e2⟩
 ·cases h
theorem app_none {as:Sl} {k i:Nat} {x:SV} (h:(as++List.replicate k none)[i]?=some (some x)):as[i]?=some (some x):=by
 by_cases hi:i < as.length
 ·rw [List.getElem?_append_left hi] at h
  exact h
 ·rw [List.getElem?_append_right (by omega),List.getElem?_replicate] at h
  split at h <;> cases h
theorem app_back {as:Sl} {k i:Nat} {x:SV} (h:as[i]?=some (some x)):(as++List.replicate k none)[i]?=some (some x):=by
 rw [List.getElem?_append_left (List.getElem?_eq_some_iff.mp h).1]
 exact h
theorem start_at {i:Nat} {v:V} (h:vs[i]?=some v):(L2.start N vs)[i]?=some (some v):=by
 unfold L2.start
 rw [List.getElem?_append_left (by rw [List.length_map]; exact (List.getElem?_eq_some_iff.mp h).1)]
 exact map_some.mpr h
theorem start_back {i:Nat} {v:V} (h:(L2.start N vs)[i]?=some (some v)):vs[i]?=some v:=by
 unfold L2.start at h
 by_cases hi:i < (vs.map some).length
 ·rw [List.getElem?_append_left hi] at h
  exact map_some.mp h
 ·rw [List.getElem?_append_right (by omega),List.getElem?_replicate] at h
  split at h <;> cases h
theorem start_map {i:Nat} {v:V} (h:(L2.start N vs)[i]?=some (some v)):(vs.map some)[i]?=some (some v):=map_some.mpr (start_back h)
theorem map_start {i:Nat} {v:V} (h:(vs.map some)[i]?=some (some v)):(L2.start N vs)[i]?=some (some v):=start_at (map_some.mp h)
theorem enter (h:RepSt K C noB as F (vs.map some) H):RepSt K C (bwOf as vs) (as++List.replicate (N.length - as.length) none) F (L2.start N vs) H:=by
 have l:=h.len
 rw [List.length_map] at l
 refine ⟨?_,h.sub,fun i d e=>?_,fun i s m e t=>?_,fun i j a b x m m' s ne e1 e2 t e3 e4 f1 f2=>?_,fun i m hi e=>?_⟩
 ·unfold L2.start
  rw [List.length_append,List.length_append,List.length_replicate,List.length_replicate,List.length_map,l]
 ·obtain ⟨v,e1,r⟩:=h.dat i d (app_none e)
  exact ⟨v,map_start e1,r⟩
 ·obtain ⟨a,e1,r⟩:=h.thg i s m (app_none e) t
  exact ⟨a,map_start e1,r⟩
 ·exact h.sep i j a b x m m' s ne (app_none e1) (app_none e2) t (start_map e3) (start_map e4) f1 f2
 ·obtain ⟨a,e1,r⟩:=h.own (app_none e)
  refine ⟨a,?_,map_start e1⟩
  show (match as[i]?,vs[i]? with | some (some (.own _)),some (.ref a)=>some a | _,_=>none)=some a
  rw [app_none e,map_some.mp e1]
theorem here_enter:here (as++List.replicate (N.length - as.length) none) F (L2.start N vs) H=here as F (vs.map some) H:=by
 have h1:OwnA (as++List.replicate (N.length - as.length) none) (L2.start N vs) H=OwnA as (vs.map some) H:=by
  funext x
  exact propext ⟨fun ⟨i,m,a,e1,e2,f⟩=>⟨i,m,a,app_none e1,start_map e2,f⟩,fun ⟨i,m,a,e1,e2,f⟩=>⟨i,m,a,app_back e1,map_start e2,f⟩⟩
 have h2:Held (as++List.replicate (N.length - as.length) none) (L2.start N vs) H=Held as (vs.map some) H:=by
  funext x
  exact propext ⟨fun ⟨i,s,m,a,e1,t,e2,f⟩=>⟨i,s,m,a,app_none e1,t,start_map e2,f⟩,fun ⟨i,s,m,a,e1,t,e2,f⟩=>⟨i,s,m,a,app_back e1,t,map_start e2,f⟩⟩
 have h3:Lck (as++List.replicate (N.length - as.length) none) (L2.start N vs)=Lck as (vs.map some):=by
  funext i a m
  exact propext ⟨fun ⟨e1,e2⟩=>⟨app_none e1,start_map e2⟩,fun ⟨e1,e2⟩=>⟨app_back e1,map_start e2⟩⟩
 unfold here
 rw [h1,h2,h3]
theorem finOf_own {ρ:Sl} {i:Nat} {x:SV} (h:(finOf n ρ)[i]?=some (some x)):i < n∧∃ m,x=.own m∧ρ[i]?=some (some (.own m)):=by
 unfold finOf at h
 rw [List.getElem?_map] at h
 by_cases hi:i < n
 ·rw [List.getElem?_range hi] at h
  simp only [Option.map_some,Option.some.injEq] at h
  refine ⟨hi,?_⟩
  split at h
  ·rename_i m e
   cases h
   exact ⟨m,rfl,e⟩
  ·cases h
 ·rw [List.getElem?_eq_none (by rw [List.length_range]; omega)] at h
  cases h
theorem leave (h:RepSt K C noB as F (vs.map some) H) (p:Post K C (bwOf as vs) (here as F (vs.map some) H) ρ' F' σ' H'):Post K C noB (here as F (vs.map some) H) (finOf as.length ρ') F' (vs.map some) H' ∧
  ∀ x,Held (finOf as.length ρ') (vs.map some) H' x→∃ (i:Nat) (m:MO) (a:Addr),i < as.length∧ρ'[i]?=some (some (.own m))∧σ'[i]?=some (some (.ref a))∧Foot H' a m x:=by
 have at_:∀ {i:Nat} {s:SV},(finOf as.length ρ')[i]?=some (some s)→∃ (m:MO) (a:Addr),s=.own m∧i < as.length∧ρ'[i]?=some (some (.own m))∧σ'[i]?=some (some (.ref a))∧(vs.map some)[i]?=some (some (.ref a)):=by
  intro i s e
  obtain ⟨hi,m,es,e'⟩:=finOf_own e
  obtain ⟨a,b1,b2⟩:=p.st.fix i m hi e'
  obtain ⟨m0,c1,c2⟩:=bwOf_inv b1
  exact ⟨m,a,es,hi,e',b2,map_some.mpr c2⟩
 have l:=h.len
 rw [List.length_map] at l
 have hold:∀ x,Held (finOf as.length ρ') (vs.map some) H' x→∃ (i:Nat) (m:MO) (a:Addr),i < as.length∧ρ'[i]?=some (some (.own m))∧σ'[i]?=some (some (.ref a))∧Foot H' a m x:=by
  rintro x ⟨i,s,m,a,e1,t,e2,f⟩
  obtain ⟨m',b,rfl,hi,g1,g2,g3⟩:=at_ e1
  cases t
  rw [e2] at g3
  cases g3
  exact ⟨i,m,a,hi,g1,g2,f⟩
 refine ⟨⟨p.mono,p.frame,p.new,⟨by rw [List.length_map]; unfold finOf; simp [l],p.st.sub,fun i d e=>?_,fun i s m e t=>?_,fun i j a b x m m' s ne e1 e2 t e3 e4 f1 f2=>?_,fun i m hi=>absurd hi (Nat.not_lt_zero _)⟩,?_,?_,p.good,?_⟩,hold⟩
 ·obtain ⟨m,a,z,_⟩:=at_ e
  cases z
 ·obtain ⟨m',a,rfl,hi,g1,g2,g3⟩:=at_ e
  cases t
  obtain ⟨b,e1,r⟩:=p.st.own g1
  rw [g2] at e1
  cases e1
  exact ⟨a,g3,r⟩
 ·obtain ⟨m1,a',z,hi,g1,g2,g3⟩:=at_ e1
  cases z
  obtain ⟨m2,b',rfl,hi',g1',g2',g3'⟩:=at_ e2
  cases t
  rw [e3] at g3
  rw [e4] at g3'
  cases g3
  cases g3'
  exact p.st.sep i j a b x m m' _ ne g1 g1' rfl g2 g2' f1 f2
 ·rintro x ⟨i,m,a,e1,e2,f⟩
  obtain ⟨m',b,z,hi,g1,g2,g3⟩:=at_ e1
  cases z
  rw [e2] at g3
  cases g3
  exact p.low x ⟨i,m,a,g1,g2,f⟩
 ·intro x y
  obtain ⟨i,m,a,hi,g1,g2,f⟩:=hold x y
  exact p.lowL x ⟨i,_,m,a,g1,rfl,g2,f⟩
 ·rintro i a m ⟨e1,e2⟩
  obtain ⟨m',b,z,_⟩:=at_ e1
  cases z
end
section
variable {P:Program} {w:World} {K:PySem.W.Frag} {mg:Str→Option Value} {base:Heap} {C:Cl}
theorem def_okC {x qual:Str} {st:Stmt} {f:Addr} {fd:FuncData} {N ps:List Str} {k n:Nat} {g:DS} (F:Fun K x qual st f fd) (S:FnScope N ps (defScope st)) (hn:ps.length=n)
  (body:∀ (cdv:Value) (hcd:PySem.W.codeIn K cdv qual=true) (A:Around) (outer:List Env) (s:Shared) (H:Hp) (E:XK) (B:Bw),Room k (A.deeper (envOfC qual (defScope st) s.heap.objs.size f cdv))→B.np=n →
   PDSs (cxOf (L2.CX P w) P w K mg base N qual (defScope st) f cdv A outer s H E) C B (fun cls d _ H=>E cls d H) (defBody st) g) :
  FnOk P w K mg base (L2.CX P w) (k+1) f fd ps (spF K C (callF N.length n g)):=by
 have arity:∀ (vs:List V) (H:Hp) (Q:VK) (E:XK),spF K C (callF N.length n g) vs H Q E→vs.length=n:=by
  rintro vs H Q E ⟨as,F0,st0,q⟩
  have l:=st0.len
  rw [List.length_map] at l
  by_cases h:as.length=n
  ·rw [l,h]
  ·have e:callF N.length n g as=none:=if_neg h
   rw [e] at q
   exact False.elim q
 obtain ⟨oc,od,kV,doc,pm,an,cdv,ct,osl,rfl,lk,hcd⟩:=F.ex
 refine fn_of lk hcd S (fun vs H Q E h=>by rw [hn]; exact arity vs H Q E h) fun A outer s H vs Q E hr h=>?_
 have lv:=arity vs H Q E h
 obtain ⟨as,F0,st0,q⟩:=h
 have la:as.length=n:=by
  have l:=st0.len
  rw [List.length_map] at l
  rw [← l,lv]
 refine ⟨_,body cdv hcd A outer s H E (bwOf as vs) hr la,?_⟩
 have he:=here_enter (as:=as) (vs:=vs) (N:=N) (F:=F0) (H:=H)
 have hen:=enter (N:=N) st0
 rw [la] at he hen
 refine ⟨as++List.replicate (N.length - n) none,F0,hen,?_⟩
 rw [he]
 have ec:callF N.length n g as=(match g (as++List.replicate (N.length - n) none) with
  | some (.nx ρ)=>some (.ok (.dat .non) (finOf n ρ))
  | some (.rt (.dat d) ρ)=>some (.ok (.dat d) (finOf n ρ))
  | some (.rt (.own m) ρ)=>some (.ok (.own m) (finOf n ρ))
  | some (.rt (.bor i) ρ)=>match ρ[i]? with
   | some (some (.dat d))=>some (.ok (.dat d) (finOf n ρ))
   | some (some (.own m))=>if n≤i then some (.ok (.own m) (finOf n ρ)) else none
   | _=>none
  | some (.exc c fs ρ)=>some (.exc c fs (finOf n ρ))
  | _=>none):=if_pos la
 rw [ec] at q
 have lv':∀ {ρ':Sl} {σ':L2.St} {F' H':Hp},Post K C (bwOf as vs) (here as F0 (vs.map some) H) ρ' F' σ' H'→Post K C noB (here as F0 (vs.map some) H) (finOf n ρ') F' (vs.map some) H' ∧
   ∀ x,Held (finOf n ρ') (vs.map some) H' x→∃ (i:Nat) (m:MO) (a:Addr),i < n∧ρ'[i]?=some (some (.own m))∧σ'[i]?=some (some (.ref a))∧Foot H' a m x:=by
  intro ρ' σ' F' H' p
  have:=leave st0 p
  rw [la] at this
  exact this
 cases eg:g (as++List.replicate (N.length - n) none) with
 | none=>rw [eg] at q; exact False.elim q
 | some o =>
  rw [eg] at q
  cases o with
  | bk ρ'=>exact False.elim q
  | ct ρ'=>exact False.elim q
  | nx ρ'=>exact fun σ' F' H' p=>q .non F' H' (lv' p).1 .non
  | exc c fs ρ'=>exact fun dd σ' F' H' p ex=>q dd F' H' (lv' p).1 ex
  | rt r ρ' =>
   cases r with
   | dat d=>exact fun v σ' F' H' p rv=>q v F' H' (lv' p).1 rv
   | shr i=>exact False.elim q
   | own m =>
    rintro v σ' F' H' p ⟨a,rfl,rm,no⟩
    obtain ⟨p1,c1⟩:=lv' p
    refine q _ F' H' p1 ⟨a,rfl,rm,fun x f=>⟨fun y=>?_,(no x f).2⟩⟩
    obtain ⟨i,m',b,_,e1,e2,f2⟩:=c1 x y
    exact (no x f).1 ⟨i,_,m',b,e1,rfl,e2,f2⟩
   | bor i =>
    intro v σ' F' H' p rv
    have rv:σ'[i]?=some (some v):=rv
    obtain ⟨p1,c1⟩:=lv' p
    dsimp only at q
    split at q
    ·rename_i d e
     obtain ⟨v',e1,r⟩:=p.st.dat i d e
     rw [rv] at e1
     cases e1
     exact q _ F' H' p1 r
    ·rename_i m e
     split at q
     ·rename_i hi
      obtain ⟨a,e1,r⟩:=p.st.own e
      rw [rv] at e1
      cases e1
      refine q _ F' H' p1 ⟨a,rfl,r,fun x f=>⟨fun y=>?_,p.low x ⟨i,m,a,e,rv,f⟩⟩⟩
      obtain ⟨j,m',b,hj,g1,g2,f2⟩:=c1 x y
      exact p.st.sep j i b a x m' m _ (by omega) g1 e rfl g2 rv f2 f
     ·exact False.elim q
    ·exact False.elim q
theorem def_ok {x qual:Str} {st:Stmt} {f:Addr} {fd:FuncData} {N ps:List Str} {k n:Nat} {g:DS} (F:Fun K x qual st f fd) (S:FnScope N ps (defScope st)) (hn:ps.length=n)
  (body:∀ (cdv:Value) (A:Around) (outer:List Env) (s:Shared) (H:Hp) (E:XK) (B:Bw),Room k (A.deeper (envOfC qual (defScope st) s.heap.objs.size f cdv))→B.np=n →
   PDSs (cxOf (L2.CX P w) P w K mg base N qual (defScope st) f cdv A outer s H E) C B (fun cls d _ H=>E cls d H) (defBody st) g) :
  FnOk P w K mg base (L2.CX P w) (k+1) f fd ps (spF K C (callF N.length n g)):=def_okC F S hn fun cdv _=>body cdv
end
structure DefOk (P:Program) (w:World) (K:PySem.W.Frag) (mg:Str→Option Value) (base:Heap) (C:Cl) (k:Nat) (x:Str) (ps:List Str) (fF:DE):Prop where
 ex:∃ f fd,FnOk P w K mg base (L2.CX P w) k f fd ps (spF K C fF)∧Binds K fd ps []∧PySem.W.keepIn K (.ref f)=true∧mg x=some (.ref f)
abbrev dFn (f:DE) (fl:Ef (List RV)):DE:=dCall (gCallF f) fl
section
variable {X:Cx} {C:Cl} {B:Bw} {W:WX} {k:Nat} {ps:List Str} {x:Str} {p pos:Pos} {e:Expr} {es:List Expr} {fF:DE} {fl:Ef (List RV)}
theorem pd_fn (h:DefOk X.prog X.w X.K X.mg X.base C k x ps fF) (hr:Room k X.A) (tk:Takes X W) (hg:Gl X x) (ha:PDA X C B W (e :: es) fl) (hdb:(x == ("__debug__" : Str))=false:=by decide)
  (he:starEach (e :: es) X.env=(false,eval e X.env) :: starEach es X.env:=by rfl) (hpl:(backTo pos (starEach es X.env)).any (·.1)=false:=by rfl):PD X C B W (.Call (.Name x p) (e :: es) [] pos) (dFn fF fl):=by
 obtain ⟨f,fd,F,b,kf,mf⟩:=h.ex
 exact PE.conv (pe_callS F hr hg mf kf b (passAt tk) ha hdb he hpl) fun σ H Q ⟨ρ,F',st,g⟩=>tG_bind (k1:=kL X.K C) (Post.start st) g fun rs ρ1 vs F1 H1 g1 p1 _ q1=>call_run p1 q1 g1
end
def dShr (f:DE):DE:=bindE f fun r ρ=>match r with
 | .bor i=>some (.ok (.shr i) ρ)
 | r=>some (.ok r ρ)
section
variable {X:Cx} {C:Cl} {B:Bw} {W:WX} {o:Expr} {fo:DE} {pos:Pos}
def hNeg:D→Option D
 | .int i=>some (.int (-i))
 | _=>none
def dUn (h:D→Option D) (f:DE):DE:=bindE f fun r ρ=>match r.see ρ with
 | some a=>match h a with
  | some d=>some (.ok (.dat d) ρ)
  | none=>none
 | none=>none
theorem pd_neg (h:PD X C B W o fo):PD X C B W (.UnaryOp .USub o pos) (dUn hNeg fo):=PE.conv (pe_un un_neg h) fun σ H Q ⟨ρ,F,st,g⟩=>tG_bind (k1:=kR X.K C) (Post.start st) g fun r1 ρ1 v F1 H1 g1 p1 _ q1=>by
 try dsimp only at g1
 split at g1
 ·rename_i a e
  split at g1
  ·rename_i d e2
   unfold hNeg at e2
   split at e2
   ·rename_i i
    cases e2
    exact ⟨i,(RepRV.see q1 p1.st e).int_inv,g1 _ F1 H1 p1 (.int _)⟩
   ·cases e2
  ·exact False.elim g1
 ·exact False.elim g1
end
def natAt (i:Nat) (ρ:Sl):Nat:=match (ρ[i]?:Option (Option SV)) with
 | some (some (SV.dat (D.int z)))=>z.natAbs+1
 | _=>0
def spLaw (K:PySem.W.Frag):Sp:=fun vs H Q _=>∃ (a:Addr) (ns:List Int),vs=[.ref a]∧SqL K H a (ns.map V.int)∧ns.length≤63∧∀ H',Q (.bl true) H'
section
variable {P:Program} {w:World} {K:PySem.W.Frag} {mg:Str→Option Value} {base:Heap} {C:Cl}
theorem reps_ints {F:Hp}:∀ ns:List Int,Reps K C F (ns.map V.int) (ns.map D.int)
 | []=>.nil
 | n :: r=>.cons (.int n) (reps_ints r)
theorem law_def {st:Stmt} {f:Addr} {fd:FuncData} {N:List Str} {x:Str} {k:Nat} {g:DS} (F:Fun K "law" "law" st f fd) (S:FnScope N [x] (defScope st))
  (body:∀ (cdv:Value) (A:Around) (outer:List Env) (s:Shared) (H:Hp) (E:XK) (B:Bw),A.guards=some []→Room k (A.deeper (envOfC "law" (defScope st) s.heap.objs.size f cdv))→B.np=1 →
   PDSs (cxOf CX0 P w K mg base N "law" (defScope st) f cdv A outer s H E).nox C B (fun _ _ _ _=>False) (defBody st) g)
  (true_:∀ ns:List Int,ns.length≤63→∃ ρ,g (some (.dat (.wri (ns.map D.int))) :: List.replicate (N.length - 1) none)=some (.rt (.dat (.bl true)) ρ)) :
  FnG P w K mg base CX0 (k+1) f fd [x] (spLaw K):=by
 refine okG F S (fun vs H Q E h=>?_) (fun cdv A outer s H vs Q E gd hr h=>?_)
 ·obtain ⟨a,ns,rfl,_⟩:=h
  rfl
 obtain ⟨a,ns,rfl,sq,l,q⟩:=h
 refine ⟨_,body cdv A outer s H E ⟨fun _=>none,1⟩ gd hr rfl,?_⟩
 obtain ⟨ρ,e⟩:=true_ ns l
 -- the script alone is data: it is read where it stands
 have rep:Rep K C (fun b=>if b=a then H b else none) (.ref a) (.wri (ns.map D.int)):=by
  refine .wri ?_ (reps_ints ns)
  rcases sq with (h | ⟨o,h⟩) | h
  ·exact .inl (.inl ((if_pos rfl).trans h))
  ·exact .inl (.inr ⟨o,(if_pos rfl).trans h⟩)
  ·exact .inr h
 have slot:∀ {i:Nat} {y:SV},(some (.dat (.wri (ns.map D.int))) :: List.replicate (N.length - 1) none:Sl)[i]?=some (some y)→i=0∧y=.dat (.wri (ns.map D.int)):=by
  intro i y hy
  cases i with
  | zero=>simp at hy; exact ⟨rfl,hy.symm⟩
  | succ i =>
   rw [List.getElem?_cons_succ,List.getElem?_replicate] at hy
   split at hy <;> cases hy
 refine ⟨some (.dat (.wri (ns.map D.int))) :: List.replicate (N.length - 1) none,fun b=>if b=a then H b else none,⟨?_,fun b o hb=>?_,fun i d hd=>?_,fun i s m hm t=>?_,fun i j b b' x m m' s _ hm=>?_,fun i m _ hm=>?_⟩,?_⟩
 ·show (L2.start N [V.ref a]).length=_
  unfold L2.start
  simp
 ·have hb:(if b=a then H b else none)=some o:=hb
  split at hb
  ·exact hb
  ·cases hb
 ·obtain ⟨rfl,z⟩:=slot hd
  cases z
  exact ⟨_,rfl,rep⟩
 ·obtain ⟨_,z⟩:=slot hm
  cases z
  cases t
 ·obtain ⟨_,z⟩:=slot hm
  cases z
 ·obtain ⟨_,z⟩:=slot hm
  cases z
 ·rw [e]
  intro v σ' F' H' p rv
  cases (show Rep K C F' v (.bl true) from rv)
  exact q H'
end
abbrev topOf (p:Program) (i:Nat):Stmt:=p.main.body.getD i (.Pass ⟨0,0,0,0⟩)
section
variable {X:Cx} {CX:CXT} {k:Nat} {f:Addr} {fd:FuncData} {ps:List Str} {sp:Sp} {dvs:List V} {ds:List Value} {E:XK} {pins:List (Addr×Obj)} {σ:L2.St} {H:Hp} {s:Shared} {Q:VK} {us:List Value} {vs:List V} {A':Around} {W:WX}
theorem run_fnS (F:FnOk X.prog X.w X.K X.mg X.base CX k f fd ps sp) (hr:Room k A') (hb:Binds X.K fd ps ds) (hd:Vals dvs ds) (hx:PassesAt CX X σ E) (I:L2.Inv X pins σ H s) (ev:Env0 X.prog X.w X.K X.mg X.base A' X.stack s H) (rel:Vals vs us) (h:sp (vs++dvs) H Q E) :
  wpAny (model X.prog X.w) A' (call (.ref f) us) (EP X pins σ Q) X.xe s:=by
 have len:(us++ds).length=ps.length:=((rel.append hd).length.symm).trans (F.len _ _ _ _ h)
 refine wpAny_call (codeAny_mono (F.run A' X.stack s H ⟨us,[]⟩ (us++ds) (vs++dvs) Q E hr ev (hb s us I.kIn len) (rel.append hd) h) ?_)
 rintro (er | fl) s' out
 ·exact hx pins H s er s' I out
 ·cases fl with
  | ret u=>exact I.after out
  | next=>exact out.elim
  | brk=>exact out.elim
  | cont=>exact out.elim
structure MethR (X:Cx) (k:Nat) (m:Str) (a:Addr) (H:Hp) (sp:Sp):Prop where
 ex:∃ (Cc dx:Addr) (fs:List (Str×V)) (f:Addr) (fd:FuncData) (ps:List Str),H a=some (.ins Cc dx fs)∧fs.lookup m=none∧Cls X.K Cc∧Meth X.K Cc m f∧FnOk X.prog X.w X.K X.mg X.base (L2.CX X.prog X.w) k f fd ps sp∧Binds X.K fd ps []
def tMethS (X:Cx) (k:Nat) (m:Str) (E:L2.St→XK) (ta:TE) (t:TA):TE:=fun σ H Q=>ta σ H fun x H1=>∃ a sp,x=.ref a∧MethR X k m a H1 sp∧t σ H1 fun vs H2=>sp (x :: vs) H2 Q (E σ)
theorem pe_methS {m:Str} {pos apos:Pos} {e o:Expr} {es:List Expr} {ta:TE} {t:TA} {pl:Sem Bool} (he:PE X o ta) (hr:Room k X.A) (tk:Takes X W) (ha:PA X (e :: es) t)
  (hst:starEach (e :: es) X.env=(false,eval e X.env) :: starEach es X.env:=by rfl) (hpl:(backTo pos (starEach es X.env)).any (·.1)=false:=by rfl)
  (ht:eval (.Call (.Attribute o m apos) (e :: es) [] pos) X.env=(do
   let ov ← eval o X.env
   standAt apos.atName
   let (f,first) ← holding [ov] (getMethod ov m pl)
   callWith pos f first (backTo pos (starEach (e :: es) X.env)) (backToKw pos (keywordEach [] X.env))):=by rfl) :
  PE X (.Call (.Attribute o m apos) (e :: es) [] pos) (tMethS X k m (WE W) ta t):=by
 constructor
 intro pins s σ H Q I h
 refine PySem.W.methodCall_KW (thn (he.run pins s σ H _ I h) ?_) ht
 rintro u s1 ⟨x,H1,I1,rx,a,sp,rfl,⟨Cc,dx,fs,f,fd,ps,ea,l,c,hm,F,hb⟩,q⟩
 cases rx
 refine getmeth_ok I1 ea c hm l (PySem.W.callWith_K I.ok.mod.kin hm.kp (thn (ha.run pos pins s1 σ H1 _ I1 q) ?_) hst hpl)
 rintro us s2 ⟨vs,H2,I2,r,q2⟩
 exact ⟨I2.kIn,run_fnS (vs:=.ref a :: vs) (us:=.ref a :: us) F hr hb .nil (passAt tk σ) I2 I2.env0 (.cons rfl r) (by rw [List.append_nil]; exact q2)⟩
end
def isStrV:Value→Bool
 | .str _ _=>true
 | _=>false
def neNames (K:PySem.W.Frag) (N f:Addr):Bool:=match K.lookup N with
 | some ⟨_,_,.dict es _,_⟩=>es.toList.all (fun e=>isStrV e.key) && (match nsFind es "__eq__" with | some (.ref g)=>g == f | _=>false) && (nsFind es "__ne__").isNone
 | _=>false
structure NeAt (K:PySem.W.Frag) (Cc f:Addr):Prop where
 ex:∃ (nm q:Str) (N:Addr) (bs:List Value) (hdct:Bool) (sn:List Str) (sub:List Value) (ab:Bool) (col:Option Bool) (dd:Option Addr) (k0 k1 k2 k3 k5:Option Value) (newId:String),
  K.lookup Cc=some (excClassObj nm q Cc N bs [.type "object"] hdct sn sub ab col dd k0 k1 k2 k3 k5 newId)∧neNames K N f=true
section
variable {X:Cx} {CX:CXT} {k:Nat} {f:Addr} {fd:FuncData} {ps:List Str} {sp:Sp} {pins:List (Addr×Obj)} {σ:L2.St} {H:Hp} {s:Shared} {Q:VK}
end
def quiet (F:DE):DE:=fun ρ=>match F ρ with
 | some (.ok r ρ')=>some (.ok r ρ')
 | _=>none
structure MethOk (P:Program) (w:World) (K:PySem.W.Frag) (mg:Str→Option Value) (base:Heap) (C:Cl) (k:Nat) (m:Str) (mt:Nat→Option DE):Prop where
 at_:∀ c F,mt c=some F→Cls K (C.adr c)∧m∉C.att c∧∃ f fd ps,Meth K (C.adr c) m f∧FnOk P w K mg base (L2.CX P w) k f fd ps (spF K C F)∧Binds K fd ps []
theorem MethOk.mono {P:Program} {w:World} {K:PySem.W.Frag} {mg:Str→Option Value} {base:Heap} {C:Cl} {j k:Nat} {m:Str} {mt:Nat→Option DE} (h:MethOk P w K mg base C j m mt) (l:j≤k):MethOk P w K mg base C k m mt:=⟨fun c F e=>by
 obtain ⟨h1,h2,f,fd,ps,h3,h4,h5⟩:=h.at_ c F e
 exact ⟨h1,h2,f,fd,ps,h3,h4.mono l,h5⟩⟩
def noName (m:Str) (fs:List (Str×D)):Bool:=fs.all fun p=>!decide (m=p.1)
def clsOf (m:Str) (r:RV) (ρ:Sl):Option Nat:=match r with
 | .dat (.obj c _)=>some c
 | .dat _=>none
 | .own _=>none
 | .bor i=>match ρ[i]? with
  | some (some (.dat (.obj c _)))=>some c
  | some (some (.own (.ins c fs)))=>if noName m fs=true then some c else none
  | some (some (.lck (.ins c fs)))=>if noName m fs=true then some c else none
  | _=>none
 | .shr i=>match ρ[i]? with
  | some (some (.dat (.obj c _)))=>some c
  | some (some (.own (.ins c fs)))=>if noName m fs=true then some c else none
  | some (some (.lck (.ins c fs)))=>if noName m fs=true then some c else none
  | _=>none
section
variable {K:PySem.W.Frag} {C:Cl} {B:Bw} {W:WX} {z:At0} {F H:Hp} {ρ:Sl} {σ:L2.St} {Q:VK} {v:V} {r:RV} {c:Nat} {m:Str}
theorem lookup_none {α:Type} {m:Str} {fs:List (Str×α)} (h:m∉fs.map (·.1)):fs.lookup m=none:=by
 induction fs with
 | nil=>rfl
 | cons p fs ih =>
  obtain ⟨x,v⟩:=p
  rw [List.map_cons,List.mem_cons,not_or] at h
  rw [List.lookup_cons]
  have:(m == x)=false:=by simpa using h.1
  rw [this]
  exact ih h.2
theorem noName_not {fs:List (Str×D)} (h:noName m fs=true):m∉fs.map (·.1):=fun w=>by
 obtain ⟨p,hp,e⟩:=List.mem_map.mp w
 have:=List.all_eq_true.mp h p hp
 simp [e] at this
theorem slot_ins (st:RepSt K C B ρ F σ H) {i:Nat} (h:σ[i]?=some (some v)) (e:clsOf m (.bor i) ρ=some c) (no:m∉C.att c):∃ a dx fs,v=.ref a∧H a=some (.ins (C.adr c) dx fs)∧fs.lookup m=none:=by
 unfold clsOf at e
 dsimp only at e
 split at e
 ·rename_i c' l q
  cases e
  obtain ⟨v',e1,rr⟩:=st.dat i _ q
  rw [h] at e1
  cases e1
  cases rr with
  | obj q n r=>exact ⟨_,_,_,rfl,st.sub _ _ q,lookup_none (by rw [n]; exact no)⟩
 ·rename_i c' fs q
  split at e
  ·rename_i nn
   cases e
   obtain ⟨a,e1,n,dx,vs,q2,nm,_⟩:=st.thg i _ _ q rfl
   rw [h] at e1
   cases e1
   exact ⟨a,dx,vs,rfl,q2,lookup_none (by rw [nm]; exact noName_not nn)⟩
  ·cases e
 ·rename_i c' fs q
  split at e
  ·rename_i nn
   cases e
   obtain ⟨a,e1,n,dx,vs,q2,nm,_⟩:=st.thg i _ _ q rfl
   rw [h] at e1
   cases e1
   exact ⟨a,dx,vs,rfl,q2,lookup_none (by rw [nm]; exact noName_not nn)⟩
  ·cases e
 ·cases e
theorem clsOf_at (h:RepRV K C z ρ F σ H v r) (st:RepSt K C B ρ F σ H) (e:clsOf m r ρ=some c) (no:m∉C.att c):∃ a dx fs,v=.ref a∧H a=some (.ins (C.adr c) dx fs)∧fs.lookup m=none:=by
 cases r with
 | dat d =>
  cases d with
  | obj c' l =>
   cases e
   cases (show Rep K C F v (.obj _ l) from h) with
   | obj q n r=>exact ⟨_,_,_,rfl,st.sub _ _ q,lookup_none (by rw [n]; exact no)⟩
  | _=>cases e
 | own m=>cases e
 | bor i=>exact slot_ins st h e no
 | shr i=>exact slot_ins st h (show clsOf m (.bor i) ρ=some c from e) no
theorem clsOf_own {mo:MO} (e:clsOf m r ρ=some c):r≠.own mo:=by
 rintro rfl
 cases e
end
def dMth (m:Str) (mt:Nat→Option DE) (fo:DE) (fl:Ef (List RV)):DE:=bindE fo fun r ρ=>match clsOf m r ρ with
 | some c=>match mt c with
  | some F=>bindE fl (fun rs=>gCallF F (r :: rs)) ρ
  | none=>none
 | none=>none
section
variable {X:Cx} {C:Cl} {B:Bw} {W:WX} {k:Nat} {m:Str} {mt:Nat→Option DE} {o e:Expr} {es:List Expr} {fo:DE} {fl:Ef (List RV)} {pos apos:Pos} {pl:Sem Bool}
theorem meth_run (ok:MethOk X.prog X.w X.K X.mg X.base C k m mt) {t:TA} (ht:∀ σ H Q,tL X.K C B W fl σ H Q→t σ H Q) {σ:L2.St} {H:Hp} {Q:VK} (h:tD X.K C B W (dMth m mt fo fl) σ H Q):tMethS X k m (WE W) (tD X.K C B W fo) t σ H Q:=by
 obtain ⟨ρ,F,st,g⟩:=h
 refine tG_bind (k1:=kR X.K C) (Post.start st) g fun r1 ρ1 v F1 H1 g1 p1 _ q1=>?_
 try dsimp only at g1
 split at g1
 ·rename_i c ec
  split at g1
  ·rename_i F0 em
   obtain ⟨cl,no,f,fd,ps,me,fn,bi⟩:=ok.at_ c F0 em
   obtain ⟨a,dx,fs,rfl,ea,lk⟩:=clsOf_at q1 p1.st ec no
   refine ⟨a,spF X.K C F0,rfl,⟨_,dx,fs,f,fd,ps,ea,lk,cl,me,fn,bi⟩,ht σ H1 _ (tG_bind (k1:=kL X.K C) p1 g1 fun rs ρ2 vs F2 H2 g2 p2 s2 q2=>?_)⟩
   exact call_run p2 (.cons (RepRV.carry q1 s2) q2 fun mo er=>(clsOf_own ec er).elim) g2
  ·exact False.elim g1
 ·exact False.elim g1
theorem pd_mth (ok:MethOk X.prog X.w X.K X.mg X.base C k m mt) (hr:Room k X.A) (tk:Takes X W) (ho:PD X C B W o fo) (ha:PDA X C B W (e :: es) fl)
  (hst:starEach (e :: es) X.env=(false,eval e X.env) :: starEach es X.env:=by rfl) (hpl:(backTo pos (starEach es X.env)).any (·.1)=false:=by rfl)
  (ht:eval (.Call (.Attribute o m apos) (e :: es) [] pos) X.env=(do
   let ov ← eval o X.env
   standAt apos.atName
   let (f,first) ← holding [ov] (getMethod ov m pl)
   callWith pos f first (backTo pos (starEach (e :: es) X.env)) (backToKw pos (keywordEach [] X.env))):=by rfl) :
  PD X C B W (.Call (.Attribute o m apos) (e :: es) [] pos) (dMth m mt fo fl):=PE.conv (pe_methS (k:=k) ho hr tk ha hst hpl ht) fun _ _ _ h=>meth_run ok (fun _ _ _ q=>q) h
end
structure FldOk (K:PySem.W.Frag) (C:Cl) (att:Nat→List Str) (f:Str):Prop where
 hA:C.att=att
 at_:∀ c,f∈att c→Cls K (C.adr c)∧NoAttr K (C.adr c) f
def objFld (att:Nat→List Str) (f:Str):D→Option D
 | .obj c l=>if (att c).contains f then ((att c).zip l).lookup f else none
 | _=>none
def insFld (att:Nat→List Str) (f:Str):MO→Option D
 | .ins c fs=>if (att c).contains f then fs.lookup f else none
 | _=>none
def svFld (att:Nat→List Str) (f:Str):Option (Option SV)→Option D
 | some (some (.dat d))=>objFld att f d
 | some (some (.own m))=>insFld att f m
 | some (some (.lck m))=>insFld att f m
 | _=>none
def rvFld (att:Nat→List Str) (f:Str) (r:RV) (ρ:Sl):Option D:=match r with
 | .dat d=>objFld att f d
 | .own m=>insFld att f m
 | .bor i=>svFld att f ρ[i]?
 | .shr i=>svFld att f ρ[i]?
def dFld (att:Nat→List Str) (f:Str) (fo:DE):DE:=bindE fo fun r ρ=>match rvFld att f r ρ with
 | some d=>some (.ok (.dat d) ρ)
 | none=>none
section
variable {K:PySem.W.Frag} {C:Cl} {B:Bw} {W:WX} {z:At0} {F H:Hp} {ρ:Sl} {σ:L2.St} {Q:VK} {v:V} {r:RV} {c:Nat} {f:Str} {att:Nat→List Str}
theorem lookup_reps {f:Str} {d:D}:∀ {fs:List (Str×V)} {ds:List (Str×D)},fs.map (·.1)=ds.map (·.1)→Reps K C F (fs.map (·.2)) (ds.map (·.2))→ds.lookup f=some d→∃ v,fs.lookup f=some v∧Rep K C F v d
 | [],[],_,_,e=>by cases e
 | [],_ :: _,h,_,_=>by cases h
 | _ :: _,[],h,_,_=>by cases h
 | (x,v) :: fs,(y,d') :: ds,h,r,e=>by
  rw [List.map_cons,List.map_cons] at h
  injection h with h1 h2
  have h1:x=y:=h1
  subst h1
  cases r with
  | cons r1 r2 =>
   rw [List.lookup_cons] at e ⊢
   cases hx:f == x with
   | true=>rw [hx] at e; cases e; exact ⟨v,rfl,r1⟩
   | false=>rw [hx] at e; exact lookup_reps h2 r2 e
theorem obj_fld (ok:FldOk K C att f) {d e:D} (h:Rep K C F v d) (s:Same F H) (q:objFld att f d=some e):∃ a c dx fs u,v=.ref a∧H a=some (.ins (C.adr c) dx fs)∧f∈att c∧fs.lookup f=some u∧Rep K C F u e:=by
 cases d with
 | obj c l =>
  unfold objFld at q
  dsimp only at q
  split at q
  ·rename_i hc
   cases h with
   | obj e1 n r =>
    rename_i p dx fs
    rw [ok.hA] at n
    have hl:fs.length=l.length:=by have:=r.length; simpa using this
    obtain ⟨u,h1,h2⟩:=lookup_reps (ds:=(att c).zip l) (by rw [n,List.map_fst_zip]; rw [← n,List.length_map,hl]; exact Nat.le_refl _) (by rw [List.map_snd_zip]; exact r; rw [← n,List.length_map,hl]; exact Nat.le_refl _) q
    exact ⟨_,c,_,_,u,rfl,s _ _ e1,by simpa using hc,h1,h2⟩
  ·cases q
 | _=>cases q
theorem ins_fld (ok:FldOk K C att f) {m:MO} {a:Addr} {e:D} (h:RepM K C F H a m) (q:insFld att f m=some e):∃ c dx fs u,H a=some (.ins (C.adr c) dx fs)∧f∈att c∧fs.lookup f=some u∧Rep K C F u e:=by
 cases m with
 | ins c fs =>
  obtain ⟨n,dx,vs,e1,nm,r⟩:=h
  unfold insFld at q
  dsimp only at q
  split at q
  ·rename_i hc
   obtain ⟨u,h1,h2⟩:=lookup_reps nm r q
   exact ⟨c,dx,vs,u,e1,by simpa using hc,h1,h2⟩
  ·cases q
 | _=>cases q
theorem rv_fld (ok:FldOk K C att f) {e:D} (h:RepRV K C z ρ F σ H v r) (st:RepSt K C B ρ F σ H) (q:rvFld att f r ρ=some e):∃ a c dx fs u,v=.ref a∧H a=some (.ins (C.adr c) dx fs)∧f∈att c∧fs.lookup f=some u∧Rep K C F u e:=by
 have slot:∀ i:Nat,σ[i]?=some (some v)→svFld att f ρ[i]?=some e→∃ a c dx fs u,v=.ref a∧H a=some (.ins (C.adr c) dx fs)∧f∈att c∧fs.lookup f=some u∧Rep K C F u e:=fun i h q=>by
  unfold svFld at q
  split at q
  ·rename_i d hd
   obtain ⟨v',e1,rr⟩:=st.dat i _ hd
   rw [h] at e1
   cases e1
   exact obj_fld ok rr st.sub q
  ·rename_i m hm
   obtain ⟨a,e1,rm⟩:=st.thg i _ m hm rfl
   rw [h] at e1
   cases e1
   obtain ⟨c,dx,fs,u,h1,h2,h3,h4⟩:=ins_fld ok rm q
   exact ⟨a,c,dx,fs,u,rfl,h1,h2,h3,h4⟩
  ·rename_i m hm
   obtain ⟨a,e1,rm⟩:=st.thg i _ m hm rfl
   rw [h] at e1
   cases e1
   obtain ⟨c,dx,fs,u,h1,h2,h3,h4⟩:=ins_fld ok rm q
   exact ⟨a,c,dx,fs,u,rfl,h1,h2,h3,h4⟩
  ·cases q
 cases r with
 | dat d=>exact obj_fld ok h st.sub q
 | own m =>
  obtain ⟨a,rfl,rm,_⟩:=h
  obtain ⟨c,dx,fs,u,h1,h2,h3,h4⟩:=ins_fld ok rm q
  exact ⟨a,c,dx,fs,u,rfl,h1,h2,h3,h4⟩
 | bor i=>exact slot i h q
 | shr i=>exact slot i h q
end
section
variable {X:Cx} {C:Cl} {B:Bw} {W:WX} {o e:Expr} {fo fe:DE} {pos pos':Pos} {f:Str} {att:Nat→List Str}
theorem pd_fld (ok:FldOk X.K C att f) (ho:PD X C B W o fo) (hab:attributeBase o f X.env (eval o X.env)=eval o X.env:=by rfl):PD X C B W (.Attribute o f pos) (dFld att f fo):=PE.conv (pe_fld ho hab) fun σ H Q ⟨ρ,F,st,g⟩=>tG_bind (k1:=kR X.K C) (Post.start st) g fun r1 ρ1 v F1 H1 g1 p1 _ q1=>by
 try dsimp only at g1
 split at g1
 ·rename_i d ed
  obtain ⟨a,c,dx,fs,u,rfl,h1,h2,h3,h4⟩:=rv_fld ok q1 p1.st ed
  exact ⟨a,_,dx,fs,u,rfl,h1,(ok.at_ c h2).1,(ok.at_ c h2).2,h3,g1 u F1 H1 p1 h4⟩
 ·exact False.elim g1
end
def putD (f:Str) (d:D):List (Str×D)→List (Str×D)
 | []=>[(f,d)]
 | (g,w) :: r=>if g=f then (g,d) :: r else (g,w) :: putD f d r
def sFldSet (att:Nat→List Str) (f:Str) (fo fe:DE):DS:=bindS (froze fe) fun r=>bindS fo fun r2 ρ=>match r,r2 with
 | .dat d,.bor i=>match ρ[i]? with
  | some (some (.own (.ins c fs)))=>if (att c).contains f && decide (fs.length < 1000) then some (.nx (ρ.set i (some (.own (.ins c (putD f d fs)))))) else none
  | _=>none
 | _,_=>none
section
variable {K:PySem.W.Frag} {C:Cl} {F:Hp}
theorem reps_put {f:Str} {v:V} {d:D} (x:Rep K C F v d):∀ {fs:List (Str×V)} {ds:List (Str×D)},fs.map (·.1)=ds.map (·.1)→Reps K C F (fs.map (·.2)) (ds.map (·.2))→(putF f v fs).map (·.1)=(putD f d ds).map (·.1)∧Reps K C F ((putF f v fs).map (·.2)) ((putD f d ds).map (·.2))
 | [],[],_,_=>⟨rfl,.cons x .nil⟩
 | [],_ :: _,h,_=>by cases h
 | _ :: _,[],h,_=>by cases h
 | (g,w) :: fs,(y,d') :: ds,h,r=>by
  rw [List.map_cons,List.map_cons] at h
  injection h with h1 h2
  have h1:g=y:=h1
  subst h1
  cases r with
  | cons r1 r2 =>
   rw [putF.eq_2]
   unfold putD
   by_cases hx:g=f
   ·rw [if_pos hx,if_pos hx]
    exact ⟨congrArg (g :: ·) h2,.cons x r2⟩
   ·rw [if_neg hx,if_neg hx]
    obtain ⟨a,b⟩:=reps_put x h2 r2
    exact ⟨congrArg (g :: ·) a,.cons r1 b⟩
end
section
variable {X:Cx} {C:Cl} {B:Bw} {W:WX} {o value:Expr} {fo fe:DE} {pos pos':Pos} {f:Str} {att:Nat→List Str}
theorem pds_fld (ok:FldOk X.K C att f) (ho:PD X C B W o fo) (hv:PD X C B W value fe) (hs:swapsWith value (some (.Attribute o f pos')) pos.line X.env=pure false:=by rfl):PDS X C B W (.Assign [.Attribute o f pos'] value pos) (sFldSet att f fo fe) :=
 PS.conv (ps_fld ho (pd_frz hv) hs) fun E σ H ⟨ρ,F,st,g⟩=>tS_bind (k1:=kR X.K C) (Post.start st) g fun r1 ρ1 v F1 H1 g1 p1 q1=>tS_bindR (k1:=kR X.K C) p1 g1 fun r2 ρ2 w F2 H2 g2 p2 s2 q2=>by
  try dsimp only at g2
  split at g2
  ·rename_i d i
   have q1:Rep X.K C F2 v d:=Rep.to q1 s2.mono
   have q2:σ[i]?=some (some w):=q2
   split at g2
   ·rename_i c fs hi
    split at g2
    ·rename_i hc
     simp only [Bool.and_eq_true,decide_eq_true_eq] at hc
     obtain ⟨a,e1,rm⟩:=p2.st.own hi
     rw [q2] at e1
     cases e1
     obtain ⟨n,dx,vs,e2,nm,rs⟩:=rm
     have hm:f∈att c:=by simpa using hc.1
     obtain ⟨n1,n2⟩:=reps_put (f:=f) q1 nm rs
     have ln:vs.length=fs.length:=by have:=congrArg List.length nm; simpa using this
     refine ⟨a,_,dx,vs,rfl,e2,(ok.at_ c hm).1,(ok.at_ c hm).2,by rw [ln]; exact hc.2,g2 σ F2 _ ?_⟩
     exact p2.write hi q2 (x:=a) rfl ⟨n,dx,_,upd_same,n1,n2⟩ fun y f=>f
    ·exact False.elim g2
   ·exact False.elim g2
  ·exact False.elim g2
end
section
variable {K:PySem.W.Frag} {C:Cl} {B:Bw} {W:WX} {z:At0} {F H:Hp} {ρ:Sl} {σ:L2.St} {Q:VK}
theorem app_at {α:Type} {l:List α} {y z:α} {i:Nat} (h:(l++[y])[i]?=some z):l[i]?=some z∨(i=l.length∧z=y):=by
 by_cases hi:i < l.length
 ·rw [List.getElem?_append_left hi] at h
  exact .inl h
 ·by_cases hj:i=l.length
  ·subst hj
   rw [List.getElem?_append_right (Nat.le_refl _)] at h
   simp at h
   exact .inr ⟨rfl,h.symm⟩
  ·rw [List.getElem?_eq_none (by simp; omega)] at h
   cases h
theorem at_app {α:Type} {l:List α} {y z:α} {i:Nat} (h:l[i]?=some z):(l++[y])[i]?=some z:=by
 rw [List.getElem?_append_left (List.getElem?_eq_some_iff.mp h).1]
 exact h
theorem Post.push (p:Post K C B z ρ F σ H) {a:Addr} {m:MO} (hn:B.np≤ρ.length) (rm:RepM K C F H a m) (no:∀ x,Foot H a m x→¬ Held ρ σ H x∧(z.S x∨z.H x=none)):Post K C B z (ρ++[some (.own m)]) F (σ++[some (.ref a)]) H:=by
 have l:=p.st.len
 have cs:∀ {j:Nat} {x:SV},(ρ++[some (.own m)])[j]?=some (some x)→ρ[j]?=some (some x)∨(j=ρ.length∧x=.own m):=fun h=>(app_at h).imp_right fun ⟨a,b⟩=>⟨a,by cases b; rfl⟩
 have sl:∀ {j:Nat} {x:SV} {v:V},ρ[j]?=some (some x)→(σ++[some (.ref a)])[j]?=some (some v)→σ[j]?=some (some v):=fun {j x v} h e=>by
  rw [List.getElem?_append_left (by rw [l]; exact (List.getElem?_eq_some_iff.mp h).1)] at e
  exact e
 have last:∀ {v:V},(σ++[some (.ref a)])[ρ.length]?=some (some v)→v=.ref a:=fun e=>by
  rw [← l,List.getElem?_append_right (Nat.le_refl _)] at e
  simp at e
  exact e.symm
 have lastS:(σ++[some (V.ref a)])[ρ.length]?=some (some (.ref a)):=by rw [← l]; simp
 refine ⟨p.mono,p.frame,p.new,⟨by simp [l],p.st.sub,fun j d h=>?_,fun j x m' e t=>?_,fun j k a1 b1 x m1 m2 s' n e1 e2 t q1 q2 f1 f2=>?_,fun j m' hi e=>?_⟩,?_,?_,p.good,?_⟩
 ·rcases cs h with h | ⟨_,y⟩
  ·obtain ⟨v,e1,r⟩:=p.st.dat j d h
   exact ⟨v,at_app e1,r⟩
  ·cases y
 ·rcases cs e with h | ⟨rfl,rfl⟩
  ·obtain ⟨b,e1,r⟩:=p.st.thg j x m' h t
   exact ⟨b,at_app e1,r⟩
  ·cases t
   exact ⟨a,lastS,rm⟩
 ·rcases cs e1 with h1 | ⟨rfl,y1⟩
  ·rcases cs e2 with h2 | ⟨rfl,y2⟩
   ·exact p.st.sep j k a1 b1 x m1 m2 s' n h1 h2 t (sl h1 q1) (sl h2 q2) f1 f2
   ·cases y2
    cases t
    cases last q2
    exact (no x f2).1 (Held.of h1 rfl (sl h1 q1) f1)
  ·cases y1
   cases last q1
   rcases cs e2 with h2 | ⟨rfl,y2⟩
   ·exact (no x f1).1 (Held.of h2 t (sl h2 q2) f2)
   ·exact n rfl
 ·rcases cs e with h | ⟨rfl,_⟩
  ·obtain ⟨b,h1,h2⟩:=p.st.fix j m' hi h
   exact ⟨b,h1,at_app h2⟩
  ·omega
 ·rintro x ⟨j,m',b,e,q,f⟩
  rcases cs e with h | ⟨rfl,y⟩
  ·exact p.low x ⟨j,m',b,h,sl h q,f⟩
  ·cases y
   cases last q
   exact (no x f).2
 ·rintro x ⟨j,s',m',b,e,t,q,f⟩
  rcases cs e with h | ⟨rfl,rfl⟩
  ·exact p.lowL x ⟨j,s',m',b,h,t,sl h q,f⟩
  ·cases t
   cases last q
   exact (no x f).2.imp_left (p.good x)
 ·rintro j b m' ⟨e,q⟩
  rcases cs e with h | ⟨_,y⟩
  ·exact p.lks j b m' ⟨h,sl h q⟩
  ·cases y
theorem Post.pop {v:V} (p:Post K C B z ρ F (σ++[some v]) H) (hn:B.np≤σ.length):Post K C B z (ρ.take σ.length) F σ H∧∀ m,ρ[σ.length]?=some (some (.own m))→RepRV K C z (ρ.take σ.length) F σ H v (.own m):=by
 have l:=p.st.len
 simp only [List.length_append,List.length_cons,List.length_nil,Nat.zero_add] at l
 have cs:∀ {j:Nat} {x:SV},(ρ.take σ.length)[j]?=some (some x)→ρ[j]?=some (some x)∧j < σ.length:=fun {j x} h=>by
  rw [List.getElem?_take] at h
  split at h
  ·exact ⟨h,by assumption⟩
  ·cases h
 have sl:∀ {j:Nat} {w:Option V},j < σ.length→(σ++[some v])[j]?=some w→σ[j]?=some w:=fun h e=>by
  rw [List.getElem?_append_left h] at e
  exact e
 have back:∀ {j:Nat} {w:V},σ[j]?=some (some w)→(σ++[some v])[j]?=some (some w):=fun h=>at_app h
 have own:∀ {x:Addr},OwnA (ρ.take σ.length) σ H x→OwnA ρ (σ++[some v]) H x:=fun ⟨i,m,a,e,q,f⟩=>⟨i,m,a,(cs e).1,back q,f⟩
 have held:∀ {x:Addr},Held (ρ.take σ.length) σ H x→Held ρ (σ++[some v]) H x:=fun ⟨i,s,m,a,e,t,q,f⟩=>⟨i,s,m,a,(cs e).1,t,back q,f⟩
 refine ⟨⟨p.mono,p.frame,p.new,⟨by rw [List.length_take,← l]; omega,p.st.sub,fun j d h=>?_,fun j x m e t=>?_,fun j k a b x m m' s n e1 e2 t q1 q2 f1 f2=>?_,fun j m hi e=>?_⟩,fun a h=>p.low a (own h),fun a h=>p.lowL a (held h),p.good,fun i a m ⟨e,q⟩=>p.lks i a m ⟨(cs e).1,back q⟩⟩,fun m e=>?_⟩
 ·obtain ⟨w,e1,r⟩:=p.st.dat j d (cs h).1
  exact ⟨w,sl (cs h).2 e1,r⟩
 ·obtain ⟨w,e1,r⟩:=p.st.thg j x m (cs e).1 t
  exact ⟨w,sl (cs e).2 e1,r⟩
 ·exact p.st.sep j k a b x m m' s n (cs e1).1 (cs e2).1 t (back q1) (back q2) f1 f2
 ·obtain ⟨b,h1,h2⟩:=p.st.fix j m hi (cs e).1
  exact ⟨b,h1,sl (cs e).2 h2⟩
 ·obtain ⟨a,e1,rm⟩:=p.st.own e
  have ev:v=.ref a:=by
   rw [List.getElem?_append_right (Nat.le_refl _)] at e1
   simp at e1
   exact e1
  refine ⟨a,ev,rm,fun x f=>⟨?_,p.low x ⟨_,m,a,e,e1,f⟩⟩⟩
  rintro ⟨j,s,m',b,h1,t,h2,f2⟩
  exact p.st.sep σ.length j a b x m m' s (by have:=(cs h1).2; omega) e (cs h1).1 t e1 (back h2) f f2
theorem Post.fixI (p:Post K C B z ρ F σ H) {v:V} {c:Nat} {fs:List (Str×D)} (h:RepRV K C z ρ F σ H v (.own (.ins c fs))) (hc:fs.map (·.1)=C.att c):∃ F',Post K C B z ρ F' σ H∧Rep K C F' v (.obj c (fs.map (·.2))):=by
 obtain ⟨a,rfl,⟨n,dx,vs,e,nm,rs⟩,no⟩:=h
 have s:Same F (upd F a (.ins (C.adr c) dx vs)):=fun b u q=>by rw [upd_ne (ne_of_none q n)]; exact q
 refine ⟨_,p.fixed s fun x u q=>?_,.obj upd_same (nm.trans hc) (rs.to s)⟩
 by_cases hx:x=a
 ·subst hx
  rw [upd_same] at q
  cases q
  exact .inr ⟨e,(no x rfl).1,(no x rfl).2⟩
 ·rw [upd_ne hx] at q
  exact .inl q
end
def tMakeD (C:Addr) (sp:Sp) (dvs:List V) (E:L2.St→XK) (t:TA):TE:=fun σ H Q=>t σ H fun vs H1=>∀ x dx,H1 x=none→H1 dx=none→dx≠x →
 sp (.ref x :: (vs++dvs)) (upd (upd H1 dx (.own x)) x (.ins C dx [])) (fun v H2=>v=.non∧Q (.ref x) H2) (E σ)
theorem pe_makeD {X:Cx} {k:Nat} {f C:Addr} {fd:FuncData} {ps:List Str} {sp:Sp} {dvs:List V} {ds:List Value} {W:WX} {x:Str} {p pos:Pos} {e:Expr} {es:List Expr} {t:TA} (M:Mk X.K C f) (F:FnOk X.prog X.w X.K X.mg X.base (L2.CX X.prog X.w) k f fd ps sp) (hr:Room (k+1) X.A)
  (hg:Gl X x) (hm:X.mg x=some (.ref C)) (hb:Binds X.K fd ps ds) (hd:Vals dvs ds) (tk:Takes X W)
  (ha:PA X (e :: es) t) (hdb:(x == ("__debug__" : Str))=false:=by decide) (he:starEach (e :: es) X.env=(false,eval e X.env) :: starEach es X.env:=by rfl) (hpl:(backTo pos (starEach es X.env)).any (·.1)=false:=by rfl) :
  PE X (.Call (.Name x p) (e :: es) [] pos) (tMakeD C sp dvs (WE W) t):=by
 constructor
 intro pins s σ H Q I h
 refine wpAny_Call_Name_kw (ld_glob I hg hm ?_ hdb)
 refine PySem.W.callWith_K (h₀:=X.base) I.ok.mod.kin M.kp ?_ he hpl
 refine thn (ha.run pos pins s σ H _ I h) ?_
 rintro us s1 ⟨vs,H1,I1,r,q⟩
 refine ⟨I1.kIn,?_⟩
 have ask:=q (s1.heap.objs.size+1) s1.heap.objs.size (I1.hok.fresh (Nat.le_succ _)) (I1.hok.fresh (Nat.le_refl _)) (Nat.ne_of_lt (Nat.lt_succ_self _))
 have J:=Inv.made (C:=C) I1
 have rel:Vals (V.ref (s1.heap.objs.size+1) :: (vs++dvs)) (Value.ref (s1.heap.objs.size+1) :: (us++ds)):=.cons rfl (r.append hd)
 have len:(Value.ref (s1.heap.objs.size+1) :: (us++ds)).length=ps.length:=rel.length.symm.trans (F.len _ _ _ _ ask)
 have bnd:=hb _ (Value.ref (s1.heap.objs.size+1) :: us) J.kIn (by simpa using len)
 refine wpAny_call (make_map (f:=f) I1.kIn M.makes M.init (beq_iff_eq.mp M.fn) (codeAny_mono (F.run _ X.stack _ _ ⟨Value.ref (s1.heap.objs.size+1) :: us,[]⟩ (Value.ref (s1.heap.objs.size+1) :: (us++ds)) _ _ (WE W σ) (hr.make C us []) (J.env0.make C us []) (by simpa using bnd) rel ask) ?_))
 rintro (er | fl) s' out
 ·exact passAt tk σ pins _ _ _ _ J out
 ·cases fl with
  | next=>exact out.elim
  | brk=>exact out.elim
  | cont=>exact out.elim
  | ret u =>
   obtain ⟨v,H',J',rv,rfl,qq⟩:=J.after out
   exact ⟨rv,⟨V.ref (s1.heap.objs.size+1),H',J',rfl,qq⟩⟩
structure MakeOk (P:Program) (w:World) (K:PySem.W.Frag) (mg:Str→Option Value) (base:Heap) (C:Cl) (k:Nat) (x:Str) (c:Nat) (F:DE) (dd:List D):Prop where
 at_:∃ f fd ps dvs ds,Mk K (C.adr c) f∧mg x=some (.ref (C.adr c))∧FnOk P w K mg base (L2.CX P w) k f fd ps (spF K C F)∧Binds K fd ps ds∧Vals dvs ds∧∀ Fh:Hp,Reps K C Fh dvs dd
def gMakeI (c:Nat) (F:DE) (dd:List D) (rs:List RV):Ef (List (Str×D)):=fun ρ=>match gCallF F (.bor ρ.length :: (rs++dd.map .dat)) (ρ++[some (.own (.ins c []))]) with
 | some (.ok (.dat .non) ρ1)=>match ρ1[ρ.length]? with
  | some (some (.own (.ins c' fs)))=>if c'=c then some (.ok fs (ρ1.take ρ.length)) else none
  | _=>none
 | some (.exc e fs ρ1)=>some (.exc e fs (ρ1.take ρ.length))
 | _=>none
def gMake (att:Nat→List Str) (c:Nat) (F:DE) (dd:List D) (rs:List RV):DE:=fun ρ=>match gMakeI c F dd rs ρ with
 | some (.ok fs ρ')=>if fs.map (·.1)=att c then some (.ok (.dat (.obj c (fs.map (·.2)))) ρ') else none
 | some (.exc e fs ρ')=>some (.exc e fs ρ')
 | none=>none
section
variable {K:PySem.W.Frag} {C:Cl} {B:Bw} {W:WX} {z:At0} {F H:Hp} {ρ:Sl} {σ:L2.St} {Q:VK}
theorem reps_dat:∀ {us:List V} {ds:List D},Reps K C F us ds→RepRVs K C z ρ F σ H us (ds.map .dat)
 | _,_,.nil=>.nil
 | _,_,.cons x r=>.cons x (reps_dat r) fun m e=>by cases e
theorem repRVs_add:∀ {vs us:List V} {rs:List RV} {ds:List D},RepRVs K C z ρ F σ H vs rs→Reps K C F us ds→RepRVs K C z ρ F σ H (vs++us) (rs++ds.map .dat)
 | _,_,_,_,.nil,r=>reps_dat r
 | _,us,_,ds,.cons (v:=v) (vs:=vs) (r:=r0) (rs:=rs) x t n,r=>by
  refine .cons x (repRVs_add t r) fun m e k m' a b y hk hv ea f=>?_
  have hk:(rs++ds.map RV.dat)[k]?=some (.own m'):=hk
  have hv:(vs++us)[k]?=some (.ref b):=hv
  by_cases hl:k < rs.length
  ·rw [List.getElem?_append_left hl] at hk
   rw [List.getElem?_append_left (by rw [t.length]; exact hl)] at hv
   exact n m e k m' a b y hk hv ea f
  ·rw [List.getElem?_append_right (by omega),List.getElem?_map] at hk
   cases hd:ds[k - rs.length]? with
   | none=>rw [hd] at hk; cases hk
   | some d=>rw [hd] at hk; cases hk
theorem takeArgs_noown:∀ {rs:List RV} {ρ:Sl} {x:List (Option SV)×Sl},takeArgs rs ρ=some x→∀ m,RV.own m∉rs
 | [],_,_,_=>fun m h=>by cases h
 | .own _ :: _,_,_,e=>by cases e
 | .dat d :: rs,ρ,x,e=>fun m h=>by
  unfold takeArgs at e
  split at e
  ·rename_i e'
   rcases List.mem_cons.mp h with h | h
   ·cases h
   ·exact takeArgs_noown e' m h
  ·cases e
 | .shr i :: rs,ρ,x,e=>fun m h=>by
  unfold takeArgs at e
  split at e
  ·rename_i e'
   rcases List.mem_cons.mp h with h | h
   ·cases h
   ·exact takeArgs_noown e' m h
  ·cases e
 | .bor i :: rs,ρ,x,e=>fun m h=>by
  rcases List.mem_cons.mp h with h | h
  ·cases h
  ·unfold takeArgs at e
   split at e
   ·split at e
    ·rename_i e'
     exact takeArgs_noown e' m h
    ·cases e
   ·split at e
    ·rename_i e'
     exact takeArgs_noown e' m h
    ·cases e
   ·split at e
    ·rename_i e'
     exact takeArgs_noown e' m h
    ·cases e
   ·cases e
theorem RepRVs.lift {ρ':Sl} {H':Hp} {w:Option V}:∀ {vs:List V} {rs:List RV},RepRVs K C z ρ F σ H vs rs→(∀ m,RV.own m∉rs)→RepRVs K C z ρ' F (σ++[w]) H' vs rs
 | _,_,.nil,_=>.nil
 | _,_,.cons (r:=r) x t n,no=>by
  refine .cons ?_ (t.lift fun m h=>no m (List.mem_cons_of_mem _ h)) fun m e=>(no m (e ▸ List.mem_cons_self)).elim
  cases r with
  | dat d=>exact x
  | own m=>exact (no m List.mem_cons_self).elim
  | bor i=>exact at_app x
  | shr i=>exact at_app x
theorem make_run {f:DE} {c:Nat} {dd:List D} {vs dvs:List V} {rs:List RV} (hd:∀ Fh:Hp,Reps K C Fh dvs dd) (hn:B.np≤ρ.length) (p:Post K C B z ρ F σ H) (q:RepRVs K C z ρ F σ H vs rs) {x dx:Addr} (nx:H x=none) (nd:H dx=none) (ne:dx≠x)
  (good:∀ fs ρ',gMakeI c f dd rs ρ=some (.ok fs ρ')→∀ F' H',Post K C B z ρ' F' σ H'→RepRV K C z ρ' F' σ H' (.ref x) (.own (.ins c fs))→Q (.ref x) H')
  (bad:∀ e fs ρ',gMakeI c f dd rs ρ=some (.exc e fs ρ')→∀ d F' H',Post K C B z ρ' F' σ H'→ExcAt K C F' H' d fs→W (.ref (C.adr e)) d σ H')
  (some_:gMakeI c f dd rs ρ≠none):spF K C f (.ref x :: (vs++dvs)) (upd (upd H dx (.own x)) x (.ins (C.adr c) dx [])) (fun v H2=>v=.non∧Q (.ref x) H2) (WE W σ):=by
 have l:=p.st.len
 have p1:=p.newO nd (.own x)
 have nx1:upd H dx (.own x) x=none:=by rw [upd_ne (Ne.symm ne)]; exact nx
 have p2:=p1.newO nx1 (.ins (C.adr c) dx [])
 have rm:RepM K C F (upd (upd H dx (.own x)) x (.ins (C.adr c) dx [])) x (.ins c []):=⟨p1.st.sub.free nx1,dx,[],upd_same,rfl,.nil⟩
 have nh:¬ Held ρ σ (upd (upd H dx (.own x)) x (.ins (C.adr c) dx [])) x:=by
  rintro ⟨i,s,m,b,e,t,w,fo⟩
  have nb:b≠x:=by
   rintro rfl
   exact p1.notHeld nx1 (Held.of e t w (Foot.root _ _ _))
  exact p1.notHeld nx1 ⟨i,s,m,b,e,t,w,(Foot.same (upd_ne nb)).mp fo⟩
 have p3:=p2.push hn rm fun y fy=>by
  obtain rfl:y=x:=fy
  exact ⟨nh,p.there nx⟩
 cases ec:gCallF f (.bor ρ.length :: (rs++dd.map .dat)) (ρ++[some (.own (.ins c []))]) with
 | none=>exact (some_ (by unfold gMakeI; rw [ec])).elim
 | some o =>
  have no:∀ m,RV.own m∉rs:=fun m h=>by
   unfold gCallF at ec
   split at ec
   ·rename_i as ρd et
    exact takeArgs_noown et m (List.mem_cons_of_mem _ (List.mem_append_left _ h))
   ·cases ec
  have q3:RepRVs K C z (ρ++[some (.own (.ins c []))]) F (σ++[some (.ref x)]) (upd (upd H dx (.own x)) x (.ins (C.adr c) dx [])) (.ref x :: (vs++dvs)) (.bor ρ.length :: (rs++dd.map .dat)) :=
   .cons (show (σ++[some (V.ref x)])[ρ.length]?=_ by rw [← l]; simp) (repRVs_add (q.lift no) (hd F)) fun m e=>by cases e
  refine call_run (W:=fun cls d _ H=>W cls d σ H) p3 q3 ?_
  rw [ec]
  cases o with
  | exc e fs ρ1 =>
   intro d F' H' p' ex
   have eg:gMakeI c f dd rs ρ=some (.exc e fs (ρ1.take ρ.length)):=by unfold gMakeI; rw [ec]
   refine bad e fs _ eg d F' H' ?_ ex
   have:=(p'.pop (by rw [l]; exact hn)).1
   rw [l] at this
   exact this
  | ok r ρ1 =>
   cases r with
   | dat d =>
    cases d with
    | non =>
     intro v F' H' p' rv
     cases (show Rep K C F' v .non from rv)
     refine ⟨rfl,?_⟩
     cases e1:ρ1[ρ.length]? with
     | none=>exact (some_ (by unfold gMakeI; rw [ec]; dsimp only; rw [e1])).elim
     | some s1 =>
      match s1,e1 with
      | some (.own (.ins c' fs)),e1 =>
       by_cases hc:c'=c
       ·subst hc
        have eg:gMakeI c' f dd rs ρ=some (.ok fs (ρ1.take ρ.length)):=by unfold gMakeI; rw [ec]; dsimp only; rw [e1]; exact if_pos rfl
        obtain ⟨p4,q4⟩:=p'.pop (by rw [l]; exact hn)
        rw [l] at p4 q4
        exact good fs _ eg F' H' p4 (q4 _ e1)
       ·exact (some_ (by unfold gMakeI; rw [ec]; dsimp only; rw [e1]; exact if_neg hc)).elim
      | none,e1=>exact (some_ (by unfold gMakeI; rw [ec]; dsimp only; rw [e1])).elim
      | some (.dat d),e1=>exact (some_ (by unfold gMakeI; rw [ec]; dsimp only; rw [e1])).elim
      | some (.lck d),e1=>exact (some_ (by unfold gMakeI; rw [ec]; dsimp only; rw [e1])).elim
      | some (.own (.lst d)),e1=>exact (some_ (by unfold gMakeI; rw [ec]; dsimp only; rw [e1])).elim
      | some (.own (.dct k d)),e1=>exact (some_ (by unfold gMakeI; rw [ec]; dsimp only; rw [e1])).elim
      | some (.own (.lls d)),e1=>exact (some_ (by unfold gMakeI; rw [ec]; dsimp only; rw [e1])).elim
      | some (.own (.dls k d)),e1=>exact (some_ (by unfold gMakeI; rw [ec]; dsimp only; rw [e1])).elim
      | some (.own (.set k d)),e1=>exact (some_ (by unfold gMakeI; rw [ec]; dsimp only; rw [e1])).elim
    | _=>exact (some_ (by unfold gMakeI; rw [ec])).elim
   | _=>exact (some_ (by unfold gMakeI; rw [ec])).elim
end
section
variable {X:Cx} {C:Cl} {B:Bw} {W:WX} {k:Nat} {c:Nat} {F:DE} {dd:List D} {e:Expr} {es:List Expr} {fl:Ef (List RV)} {x:Str} {p pos:Pos} {att:Nat→List Str}
theorem pd_make (ok:MakeOk X.prog X.w X.K X.mg X.base C k x c F dd) (hA:C.att=att) (hn:B.np≤X.N.length) (hr:Room (k+1) X.A) (tk:Takes X W) (hg:Gl X x) (ha:PDA X C B W (e :: es) fl)
  (hdb:(x == ("__debug__" : Str))=false:=by decide) (he:starEach (e :: es) X.env=(false,eval e X.env) :: starEach es X.env:=by rfl) (hpl:(backTo pos (starEach es X.env)).any (·.1)=false:=by rfl) :
  PD X C B W (.Call (.Name x p) (e :: es) [] pos) (bindE fl (gMake att c F dd)):=by
 obtain ⟨f,fd,ps,dvs,ds,M,mx,Fn,hb,hd,hD⟩:=ok.at_
 constructor
 intro pins s σ H Q I h
 refine (pe_makeD M Fn hr hg mx hb hd tk ha hdb he hpl).run pins s σ H Q I ?_
 have ln:=I.len
 obtain ⟨ρ,F0,st,g⟩:=h
 refine tG_bind (k1:=kL X.K C) (Post.start st) g fun rs ρ1 vs F1 H1 g1 p1 _ q1 x dx nx nd ne=>?_
 refine make_run hD (by rw [← p1.st.len,ln]; exact hn) p1 q1 nx nd ne (fun fs ρ' eg F' H' p' q'=>?_) (fun e' fs ρ' eg d F' H' p' ex=>?_) fun en=>?_
 ·unfold gMake at g1
  rw [eg] at g1
  dsimp only at g1
  split at g1
  ·rename_i hc
   obtain ⟨F2,p2,r2⟩:=p'.fixI q' (by rw [hA]; exact hc)
   exact g1 _ F2 H' p2 r2
  ·exact False.elim g1
 ·unfold gMake at g1
  rw [eg] at g1
  exact g1 d F' H' p' ex
 ·unfold gMake at g1
  rw [en] at g1
  exact g1
end
structure ClsK (K:PySem.W.Frag) (C:Cl) (c:Nat):Prop where
 cl:Cls K (C.adr c)
 ha:PySem.W.findIn K (.ref (C.adr c)) "__class__" = some (some (.builtin "object.__class__"))
 hn:PySem.W.specialIn K (.builtin "object.__class__") "__get__" = some (some (.builtin "getset_descriptor.__get__"))
 ht:PySem.W.takesIn K (.builtin "object.__class__")=some true
 hm:PySem.W.mroIn K (C.adr c) (.type "object")=some true
 sf:PySem.W.selfFirst K (C.adr c)=true
theorem ClsK.ty {K:PySem.W.Frag} {C:Cl} {c:Nat} (k:ClsK K C c) {H:Hp} {a dx:Addr} {fs:List (Str×V)} (h:H a=some (.ins (C.adr c) dx fs)):TyX K H (.ref a) (.ref (C.adr c)):=.base (.ins h k.cl k.ha k.hn k.ht k.hm)
section
variable {K:PySem.W.Frag} {C:Cl} {B:Bw} {W:WX} {z:At0} {F H:Hp} {ρ:Sl} {σ:L2.St} {Q:VK}
end
structure PropOk (P:Program) (w:World) (K:PySem.W.Frag) (mg:Str→Option Value) (base:Heap) (C:Cl) (k:Nat) (f:Str) (pt:Nat→Option DE):Prop where
 at_:∀ c F,pt c=some F→Cls K (C.adr c)∧f∉C.att c∧∃ p g fd ps,PropOf K (C.adr c) f p g∧FnOk P w K mg base (L2.CX P w) k g fd ps (spF K C F)∧Binds K fd ps []
def dPrp (f:Str) (pt:Nat→Option DE) (fo:DE):DE:=bindE fo fun r ρ=>match clsOf f r ρ with
 | some c=>match pt c with
  | some F=>gCallF (quiet F) [r] ρ
  | none=>none
 | none=>none
section
variable {X:Cx} {C:Cl} {B:Bw} {W:WX} {k:Nat} {o:Expr} {fo:DE} {pos:Pos} {f:Str} {pt:Nat→Option DE}
end
def gCallQ (F:DE) (rs:List RV):DE:=fun ρ=>match gCallF (quiet F) rs ρ with
 | some (.ok r ρ')=>some (.ok r ρ')
 | _=>none
def gLenX (lt:Nat→Option DE) (rs:List RV):DE:=fun ρ=>match rs with
 | [r]=>match clsOf "__len__" r ρ with
  | some c=>match lt c with
   | some F=>match gCallQ F [r] ρ with
    | some (.ok (.dat (.int n)) ρ')=>if decide (0≤n) && decide (n≤100000) then some (.ok (.dat (.int n)) ρ') else none
    | _=>none
   | none=>none
  | none=>on1 hLen [r] ρ
 | _=>none
def gBinX (m:Str) (bt:Nat→Option DE) (g:RV→RV→DE) (r1 r2:RV):DE:=fun ρ=>match clsOf m r1 ρ with
 | some c=>match bt c with
  | some F=>if clsOf m r2 ρ=some c then match gCallQ F [r1,r2] ρ with
    | some (.ok (.dat (.obj c' l)) ρ')=>some (.ok (.dat (.obj c' l)) ρ')
    | _=>none
   else none
  | none=>none
 | none=>g r1 r2 ρ
def gEqX (et:Nat→Option DE) (g:RV→RV→DE) (r1 r2:RV):DE:=fun ρ=>match clsOf "__eq__" r1 ρ with
 | some c=>match et c with
  | some F=>if decide (clsOf "__eq__" r2 ρ=some c) || ((r2.see ρ).bind kindD).isSome then match gCallQ F [r1,r2] ρ with
    | some (.ok (.dat (.bl b)) ρ')=>some (.ok (.dat (.bl b)) ρ')
    | _=>none
   else none
  | none=>none
 | none=>g r1 r2 ρ
def gNeX (et:Nat→Option DE) (g:RV→RV→DE) (r1 r2:RV):DE:=fun ρ=>match clsOf "__eq__" r1 ρ with
 | some c=>match et c with
  | some F=>if clsOf "__eq__" r2 ρ=some c then match gCallQ F [r1,r2] ρ with
    | some (.ok (.dat (.bl b)) ρ')=>some (.ok (.dat (.bl !b)) ρ')
    | _=>none
   else none
  | none=>none
 | none=>g r1 r2 ρ
def gStrX (st:Nat→Option DE) (g:List RV→DE) (rs:List RV):DE:=fun ρ=>match rs with
 | [r]=>match clsOf "__str__" r ρ with
  | some c=>match st c with
   | some F=>match gCallQ F [r] ρ with
    | some (.ok (.dat (.str x)) ρ')=>some (.ok (.dat (.str x)) ρ')
    | _=>none
   | none=>none
  | none=>g [r] ρ
 | _=>none
section
variable {X:Cx} {C:Cl} {k:Nat} {lt:Nat→Option DE}
theorem MethOk.r {m:Str} {B:Bw} {z:At0} {F H:Hp} {ρ:Sl} {σ:L2.St} {v:V} {r:RV} {c:Nat} {F0:DE} (ok:MethOk X.prog X.w X.K X.mg X.base C k m lt) (p:Post X.K C B z ρ F σ H) (q:RepRV X.K C z ρ F σ H v r) (ec:clsOf m r ρ=some c) (em:lt c=some F0):∃ a dx fs,v=.ref a∧H a=some (.ins (C.adr c) dx fs)∧MethR X k m a H (spF X.K C F0):=by
 obtain ⟨cl,no,f,fd,ps,me,fn,bi⟩:=ok.at_ c F0 em
 obtain ⟨a,dx,fs,rfl,ea,lk⟩:=clsOf_at q p.st ec no
 exact ⟨a,dx,fs,rfl,ea,⟨_,dx,fs,f,fd,ps,ea,lk,cl,me,fn,bi⟩⟩
end
structure RaiseOk (P:Program) (w:World) (K:PySem.W.Frag) (mg:Str→Option Value) (base:Heap) (C:Cl) (k:Nat) (x:Str) (c:Nat) (f:Str):Prop where
 ex:∃ fI fd nm,OexC K (C.adr c)∧OxC K (C.adr c)∧PySem.W.findIn K (.ref (C.adr c)) "__init__" = some (some (.ref fI))∧PySem.W.typeIn K (.ref fI)=some (.type "function")∧FnOk P w K mg base CX0 k fI fd ["self",nm] (spInit K f)∧Binds K fd ["self",nm] []∧mg x=some (.ref (C.adr c))∧PySem.W.findIn K (.ref (C.adr c)) f=some none
def sRaise1 (c:Nat) (f:Str) (fe:DE):DS:=bindS (froze fe) fun r ρ=>match r with
 | .dat d=>some (.exc c [(f,d)] ρ)
 | _=>none
section
variable {X:Cx} {C:Cl} {B:Bw} {W:WX} {k:Nat} {c:Nat} {e:Expr} {fe:DE} {x f:Str} {p pos pos':Pos}
theorem pds_raise1 (ok:RaiseOk X.prog X.w X.K X.mg X.base C k x c f) (hc:X.calm=true) (hr:Room (k+1) X.A) (tk:Takes X W) (hg:Gl X x) (he:PD X C B W e fe)
  (hdb:(x == ("__debug__" : Str))=false:=by decide) (hs:starEach [e] X.env=(false,eval e X.env) :: starEach [] X.env:=by rfl) (hpl:(backTo pos (starEach [] X.env)).any (·.1)=false:=by rfl) :
  PDS X C B W (.Raise (some (.Call (.Name x p) [e] [] pos)) none pos') (sRaise1 c f fe):=by
 obtain ⟨fI,fd,nm,oe,ox,iI,tI,F,b,mx,no⟩:=ok.ex
 refine PS.conv (ps_raise (W:=W) hc tk (pmk_oex oe iI tI F hr b .nil (fun _ _ _ _ _ _ _ h=>h.elim) hg mx (pa_cons (pd_frz he) pa_nil hs) hdb hs hpl)) fun E σ H ⟨ρ,F0,st,g⟩=>tS_bind (k1:=kR X.K C) (Post.start st) g fun r1 ρ1 v F1 H1 g1 p1 q1=>?_
 try dsimp only at g1
 split at g1
 ·rename_i d
  have q1:Rep X.K C F1 v d:=q1
  refine ⟨(by show 1≤1000; decide),fun a na=>⟨a,C.adr c,v,rfl,ox,no,upd_same,fun dd nd ne=>⟨rfl,dd,[(f,v)],upd_same,?_,?_,?_⟩⟩⟩
  ·rw [upd_ne ne,upd_same]
  ·rw [upd_ne ne] at nd
   exact nd
  ·rw [upd_ne ne] at nd
   have eh:upd (del (upd (upd (upd H1 a (exo a (C.adr c) none)) dd (exd dd [(f,v)])) a (exo a (C.adr c) (some dd))) a) dd (.xd [(f,v)])=upd H1 dd (.xd [(f,v)]):=by
    funext b
    by_cases h1:b=dd
    ·subst h1; rw [upd_same,upd_same]
    ·rw [upd_ne h1,upd_ne h1]
     by_cases h2:b=a
     ·subst h2
      rw [na]
      unfold del
      exact if_pos rfl
     ·rw [del_ne h2,upd_ne h2,upd_ne h1,upd_ne h2]
   rw [eh]
   have p2:=p1.newO nd (.xd [(f,v)])
   exact g1 (some dd) σ F1 _ p2 ⟨p1.st.sub.free nd,[(f,v)],upd_same,rfl,.cons q1 .nil⟩
 ·exact False.elim g1
end
structure IsiOk (K:PySem.W.Frag) (C:Cl) (cs:List Nat):Prop where
 ck:∀ c,c∈cs→ClsK K C c
 kk:∀ c,c∈cs→∀ c',c'∈cs→PySem.W.kitOne K (.ref (C.adr c)) (.ref (C.adr c'))=some (decide (c=c'))
 kt:∀ n,n∈["NoneType","bool","int","str","list","tuple"]→∀ c',c'∈cs→PySem.W.kitOne K (.type n) (.ref (C.adr c'))=some false
 ko:∀ c,c∈cs→∀ m,m∈["int","bool","str","tuple","list"]→PySem.W.kitOne K (.ref (C.adr c)) (.type m)=some false
def hIsiX (cs:List Nat) (a b:D):Option D:=match a,b with
 | .obj c _,.cls c'=>if cs.contains c && cs.contains c' then some (.bl (decide (c=c'))) else none
 | .obj c _,.ty m=>if cs.contains c && plainTy m then some (.bl false) else none
 | a,.cls c'=>if cs.contains c' then (kindD a).map fun _=>.bl false else none
 | a,b=>hIsi a b
section
variable {K:PySem.W.Frag} {C:Cl} {cs:List Nat}
end
def D.bools:D→Option (List Bool)
 | .lst l=>go l
 | .wri l=>go l
 | _=>none
where go:List D→Option (List Bool)
 | []=>some []
 | .bl b :: r=>(go r).map (b :: ·)
 | _ :: _=>none
theorem bools_go {K:PySem.W.Frag} {C:Cl} {F:Hp}:∀ {vs:List V} {l:List D} {bs:List Bool},Reps K C F vs l→D.bools.go l=some bs→vs=bs.map V.bl
 | _,_,_,.nil,e=>by cases e; rfl
 | _,_,_,.cons (d:=d) x r,e=>by
  cases d with
  | bl b =>
   unfold D.bools.go at e
   cases h:D.bools.go _ with
   | none=>rw [h] at e; cases e
   | some bs' =>
    rw [h] at e
    cases e
    cases x
    rw [bools_go r h]
    rfl
  | _=>cases e
theorem RepP.bools {K:PySem.W.Frag} {C:Cl} {F H:Hp} {v:V} {d:D} {bs:List Bool} (r:RepP K C F H v d) (e:d.bools=some bs):∃ a,v=.ref a∧SqL K H a (bs.map V.bl):=by
 cases d with
 | lst l=>obtain ⟨a,vs,rfl,q,z⟩:=r; rw [bools_go z e] at q; exact ⟨a,rfl,SqL.of q⟩
 | wri l=>obtain ⟨a,vs,rfl,q,z⟩:=r; rw [bools_go z e] at q; exact ⟨a,rfl,q⟩
 | _=>cases e
def hAll (d:D):Option D:=d.bools.map fun bs=>.bl (bs.all id)
def hAny (d:D):Option D:=d.bools.map fun bs=>.bl (bs.any id)
section
variable {K:PySem.W.Frag} {C:Cl}
theorem o_all:OpL K C (rAll K) (on1 hAll):=on1_op (by
 intro F H x a d Q r e q
 unfold hAll at e
 cases h:a.bools with
 | none=>rw [h] at e; cases e
 | some bs =>
  rw [h] at e
  cases e
  obtain ⟨p,rfl,s⟩:=r.bools h
  exact ⟨p,bs,rfl,s,q _ fun F=>.bl _⟩)
end
def D.strs:D→Option (List Str)
 | .lst l=>go l
 | .wri l=>go l
 | .tup l=>go l
 | _=>none
where go:List D→Option (List Str)
 | []=>some []
 | .str b :: r=>(go r).map (b :: ·)
 | _ :: _=>none
theorem strs_go {K:PySem.W.Frag} {C:Cl} {F:Hp}:∀ {vs:List V} {l:List D} {bs:List Str},Reps K C F vs l→D.strs.go l=some bs→vs=bs.map V.str
 | _,_,_,.nil,e=>by cases e; rfl
 | _,_,_,.cons (d:=d) x r,e=>by
  cases d with
  | str b =>
   unfold D.strs.go at e
   cases h:D.strs.go _ with
   | none=>rw [h] at e; cases e
   | some bs' =>
    rw [h] at e
    cases e
    cases x
    rw [strs_go r h]
    rfl
  | _=>cases e
theorem RepP.strs {K:PySem.W.Frag} {C:Cl} {F H:Hp} {v:V} {d:D} {bs:List Str} (r:RepP K C F H v d) (e:d.strs=some bs):∃ a,v=.ref a∧(SqL K H a (bs.map V.str)∨SqT K H a (bs.map V.str)):=by
 cases d with
 | lst l=>obtain ⟨a,vs,rfl,q,z⟩:=r; rw [strs_go z e] at q; exact ⟨a,rfl,.inl (SqL.of q)⟩
 | wri l=>obtain ⟨a,vs,rfl,q,z⟩:=r; rw [strs_go z e] at q; exact ⟨a,rfl,.inl q⟩
 | tup l=>obtain ⟨a,vs,rfl,q,z⟩:=r; rw [strs_go z e] at q; exact ⟨a,rfl,.inr q⟩
 | _=>cases e
def dTx1 (h:Str→D→Option RV) (fo fe:DE):DE:=bindE fo fun r ρ1=>match r.see ρ1 with
 | some (.str a)=>bindE fe (fun r2 ρ=>match r2.see ρ with
  | some d=>match h a d with
   | some x=>some (.ok x ρ)
   | none=>none
  | none=>none) ρ1
 | _=>none
def dTx0 (h:Str→Option RV) (fo:DE):DE:=bindE fo fun r ρ=>match r.see ρ with
 | some (.str a)=>match h a with
  | some x=>some (.ok x ρ)
  | none=>none
 | _=>none
section
variable {X:Cx} {C:Cl} {B:Bw} {W:WX} {o e:Expr} {fo fe:DE} {apos pos:Pos} {name:Str} {id:String} {r:V→List V→Hp→VK→Prop}
end
def hJoin (a:Str) (d:D):Option RV:=d.strs.bind fun ys=>if (ys.map (·.length)).sum+ys.length * a.length≤10000 then some (.dat (.str (Txt.join a ys))) else none
section
variable {X:Cx} {K:PySem.W.Frag} {C:Cl}
end
structure FOk (P:Program) (w:World) (K:PySem.W.Frag) (mg:Str→Option Value) (base:Heap) (C:Cl) (k:Nat) (f:Addr) (ps:List Str) (F:DE):Prop where
 ex:∃ fd,FnOk P w K mg base (L2.CX P w) k f fd ps (spF K C F)∧Binds K fd ps []
def dLend (f:DE):DE:=bindE f fun r ρ=>match r with
 | .bor i=>some (.ok (.shr i) ρ)
 | .own m=>match m.fix with
  | some d=>some (.ok (.dat d) ρ)
  | none=>none
 | r=>some (.ok r ρ)
section
variable {X:Cx} {C:Cl} {B:Bw} {W:WX} {o:Expr} {fo:DE} {pos:Pos} {x:Str}
theorem pd_lend (h:PD X C B W o fo):PD X C B W o (dLend fo):=PE.conv h fun σ H Q ⟨ρ,F,st,g⟩=>tG_bind (k1:=kR X.K C) (Post.start st) g fun r1 ρ1 v F1 H1 g1 p1 _ q1=>by
 cases r1 with
 | bor i=>exact g1 v F1 H1 p1 q1
 | shr i=>exact g1 v F1 H1 p1 q1
 | dat d=>exact g1 v F1 H1 p1 q1
 | own m =>
  try dsimp only at g1
  split at g1
  ·rename_i d em
   have e:toDat (.own m) ρ1=some (.ok d ρ1):=by unfold toDat; dsimp only; rw [em]
   obtain ⟨F',p',r',_⟩:=p1.toDat (show RepRV X.K C (here ρ F σ H) ρ1 F1 σ H1 v (.own m) from q1) e
   exact g1 v F' H1 p' r'
  ·exact False.elim g1
end
section
variable {α β:Type} {f fa fb fo fi:DE} {fl:Ef (List RV)} {ρ ρ':Sl} {r r1 r2:RV} {d d':D} {a b i j:Int} {x y:Str} {l l':List D}
@[simp] theorem ev_bind (f:Ef α) (k:α→Ef β) (ρ:Sl):bindE f k ρ=(match f ρ with
 | some (.ok a ρ')=>k a ρ'
 | some (.exc c fs ρ')=>some (.exc c fs ρ')
 | none=>none):=rfl
@[simp] theorem ev_bindS (f:Ef α) (k:α→DS) (ρ:Sl):bindS f k ρ=(match f ρ with
 | some (.ok a ρ')=>k a ρ'
 | some (.exc c fs ρ')=>some (.exc c fs ρ')
 | none=>none):=rfl
@[simp] theorem ev_ret (a:α) (ρ:Sl):retE a ρ=some (.ok a ρ):=rfl
@[simp] theorem ev_var (i:Nat) (ρ:Sl):dVar i ρ=(match ρ[i]? with
 | some (some (.dat d))=>some (.ok (.dat d) ρ)
 | some (some _)=>some (.ok (.bor i) ρ)
 | _=>none):=rfl
@[simp] theorem ev_bin (g:RV→RV→DE) (fa fb:DE) (ρ:Sl):dBin g fa fb ρ=bindE fa (fun r1=>bindE fb fun r2=>g r1 r2) ρ:=rfl
@[simp] theorem ev_lift2 (h:D→D→Option D) (r1 r2:RV) (ρ:Sl):lift2 h r1 r2 ρ=(match r1.see ρ,r2.see ρ with
 | some a,some b=>(match h a b with
  | some d=>some (.ok (.dat d) ρ)
  | none=>none)
 | _,_=>none):=rfl
@[simp] theorem ev_hI (f:Int→Int→Option D) (i j:Int):hI f (.int i) (.int j)=f i j:=rfl
@[simp] theorem see_dat (ρ:Sl) (d:D):RV.see ρ (.dat d)=some d:=rfl
@[simp] theorem see_own (ρ:Sl) (m:MO):RV.see ρ (.own m)=m.see:=rfl
@[simp] theorem see_bor (ρ:Sl) (i:Nat):RV.see ρ (.bor i)=slotSee ρ[i]?:=rfl
@[simp] theorem see_mo (l:List D):MO.see (.lst l)=some (.lst l):=rfl
@[simp] theorem see_shr (ρ:Sl) (i:Nat):RV.see ρ (.shr i)=slotSee ρ[i]?:=rfl
@[simp] theorem see_slotL (m:MO):slotSee (some (some (.lck m)))=m.see:=rfl
@[simp] theorem see_slotO (m:MO):slotSee (some (some (.own m)))=m.see:=rfl
@[simp] theorem see_slotD (d:D):slotSee (some (some (.dat d)))=some d:=rfl
@[simp] theorem items_lst (l:List D):D.items (.lst l)=some l:=rfl
@[simp] theorem items_tup (l:List D):D.items (.tup l)=some l:=rfl
@[simp] theorem items_wri (l:List D):D.items (.wri l)=some l:=rfl
@[simp] theorem ev_items (ρ:Sl) (r:RV):r.items ρ=(r.see ρ).bind D.items:=rfl
@[simp] theorem ev_add (r1 r2:RV) (ρ:Sl):gAdd r1 r2 ρ=(match r1.see ρ,r2.see ρ with
 | some (.int a),some (.int b)=>some (.ok (.dat (.int (a+b))) ρ)
 | some (.str a),some (.str b)=>if a.length+b.length≤10000 then some (.ok (.dat (.str (a++b))) ρ) else none
 | some (.lst a),some (.lst b)=>if a.length+b.length≤10000 then some (.ok (.own (.lst (a++b))) ρ) else none
 | some (.tup a),some (.tup b)=>if a.length+b.length≤10000 then some (.ok (.dat (.tup (a++b))) ρ) else none
 | _,_=>none):=rfl
@[simp] theorem ev_mul (r1 r2:RV) (ρ:Sl):gMul r1 r2 ρ=(match r1.see ρ,r2.see ρ with
 | some (.int a),some (.int b)=>if cMul a b=true then some (.ok (.dat (.int (a * b))) ρ) else none
 | some (.lst a),some (.int b)=>if decide (0≤b) && decide (b≤1000) && decide (a.length≤10) then some (.ok (.own (.lst (List.replicate b.toNat a).flatten)) ρ) else none
 | some (.tup a),some (.int b)=>if decide (0 < a.length) && decide (2≤b) && decide (b≤1000) && decide (a.length≤10) then some (.ok (.dat (.tup (List.replicate b.toNat a).flatten)) ρ) else none
 | _,_=>none):=rfl
@[simp] theorem ev_ix (r1 r2:RV) (ρ:Sl):gIx r1 r2 ρ=(match r1.see ρ,r2.see ρ with
 | some d,some (.int i)=>(match ixD d i with
  | some z=>some (.ok (.dat z) ρ)
  | none=>none)
 | _,_=>none):=rfl
@[simp] theorem ixD_lst (l:List D) (i:Int):ixD (.lst l) i=atI l i:=rfl
@[simp] theorem ixD_tup (l:List D) (i:Int):ixD (.tup l) i=atI l i:=rfl
@[simp] theorem ixD_wri (l:List D) (i:Int):ixD (.wri l) i=atI l i:=rfl
@[simp] theorem atI_0 {α:Type} (x:α) (l:List α):atI (x :: l) 0=some x:=atI_nat (j:=0) rfl
@[simp] theorem atI_1 {α:Type} (x y:α) (l:List α):atI (x :: y :: l) 1=some y:=atI_nat (j:=1) rfl
@[simp] theorem atI_2 {α:Type} (x y z:α) (l:List α):atI (x :: y :: z :: l) 2=some z:=atI_nat (j:=2) rfl
theorem atI_of {α:Type} (l:List α) (i:Int) (h0:0≤i) (h:i.toNat < l.length):atI l i=some (l[i.toNat]'h):=by
 have:=atI_nat (List.getElem?_eq_getElem h)
 rwa [Int.toNat_of_nonneg h0] at this
@[simp] theorem ixN_0 (n:Nat):ixN (n+1) 0=some 0:=by simp [ixN]
@[simp] theorem ixN_1 (n:Nat):ixN (n+2) 1=some 1:=by simp [ixN]; omega
@[simp] theorem ixN_2 (n:Nat):ixN (n+3) 2=some 2:=by simp [ixN]; omega
@[simp] theorem ev_dCall (g:List RV→DE) (fl:Ef (List RV)) (ρ:Sl):dCall g fl ρ=bindE fl g ρ:=rfl
@[simp] theorem ev_on1 (h:D→Option D) (r:RV) (ρ:Sl):on1 h [r] ρ=(match r.see ρ with
 | some a=>(match h a with
  | some d=>some (.ok (.dat d) ρ)
  | none=>none)
 | none=>none):=rfl
@[simp] theorem ev_on2 (h:D→D→Option D) (r r':RV) (ρ:Sl):on2 h [r,r'] ρ=(match r.see ρ,r'.see ρ with
 | some a,some b=>(match h a b with
  | some d=>some (.ok (.dat d) ρ)
  | none=>none)
 | _,_=>none):=rfl
@[simp] theorem ev_dNil (ρ:Sl):dNil ρ=some (.ok [] ρ):=rfl
@[simp] theorem ev_dCons (fa:DE) (fr:Ef (List RV)) (ρ:Sl):dCons fa fr ρ=bindE fa (fun r=>bindE fr fun rs=>retE (r :: rs)) ρ:=rfl
@[simp] theorem allDat_nil:allDat []=some []:=rfl
@[simp] theorem allDat_cons (d:D) (rs:List RV):allDat (.dat d :: rs)=(allDat rs).map fun ds=>d :: ds:=rfl
@[simp] theorem ev_dTup (fl:Ef (List RV)) (ρ:Sl):dTup fl ρ=bindE fl (fun rs ρ=>match allDat rs with
 | some ds=>if ds.length≤1000 then some (.ok (.dat (.tup ds)) ρ) else none
 | none=>none) ρ:=rfl
@[simp] theorem ev_dLst (fl:Ef (List RV)) (ρ:Sl):dLst fl ρ=bindE fl (fun rs ρ=>match allDat rs with
 | some ds=>if ds.length≤1000 then some (.ok (.own (.lst ds)) ρ) else none
 | none=>none) ρ:=rfl
@[simp] theorem ev_froze (f:DE) (ρ:Sl):froze f ρ=bindE f (fun r ρ=>match toDat r ρ with
 | some (.ok d ρ')=>some (.ok (.dat d) ρ')
 | _=>none) ρ:=rfl
@[simp] theorem toDat_dat (d:D) (ρ:Sl):toDat (.dat d) ρ=some (.ok d ρ):=rfl
@[simp] theorem toDat_own (m:MO) (ρ:Sl):toDat (.own m) ρ=(match m.fix with
  | some d=>some (.ok d ρ)
  | none=>none):=rfl
@[simp] theorem toDat_bor (i:Nat) (ρ:Sl):toDat (.bor i) ρ=(match ρ[i]? with
  | some (some (.dat d))=>some (.ok d ρ)
  | some (some (.own m))=>(match m.fix with
   | some d=>some (.ok d (ρ.set i (some (.dat d))))
   | none=>none)
  | _=>none):=rfl
@[simp] theorem fix_lst (l:List D):MO.fix (.lst l)=some (.lst l):=rfl
@[simp] theorem ev_asB (f:DE) (ρ:Sl):asB f ρ=bindE f (fun r ρ=>match r.see ρ with
 | some (.bl b)=>some (.ok b ρ)
 | _=>none) ρ:=rfl
@[simp] theorem ev_andT (fa fb:Ef Bool) (ρ:Sl):dAndT fa fb ρ=bindE fa (fun c=>if c=true then fb else retE false) ρ:=rfl
@[simp] theorem ev_orT (fa fb:Ef Bool) (ρ:Sl):dOrT fa fb ρ=bindE fa (fun c=>if c=true then retE true else fb) ρ:=rfl
@[simp] theorem ev_notT (fa:Ef Bool) (ρ:Sl):dNotT fa ρ=bindE fa (fun c=>retE (!c)) ρ:=rfl
@[simp] theorem ev_andV (fa fb:DE) (ρ:Sl):dAndV fa fb ρ=bindE (asB fa) (fun c=>if c=true then fb else retE (.dat (.bl false))) ρ:=rfl
@[simp] theorem ev_orV (fa fb:DE) (ρ:Sl):dOrV fa fb ρ=bindE (asB fa) (fun c=>if c=true then retE (.dat (.bl true)) else fb) ρ:=rfl
@[simp] theorem ev_notV (fa:DE) (ρ:Sl):dNotV fa ρ=bindE (asB fa) (fun c=>retE (.dat (.bl (!c)))) ρ:=rfl
@[simp] theorem ev_ifE (fc:Ef Bool) (fa fb:DE) (ρ:Sl):dIfE fc fa fb ρ=bindE fc (fun c=>if c=true then fa else fb) ρ:=rfl
@[simp] theorem ev_un (h:D→Option D) (f:DE) (ρ:Sl):dUn h f ρ=bindE f (fun r ρ=>match r.see ρ with
 | some a=>(match h a with
  | some d=>some (.ok (.dat d) ρ)
  | none=>none)
 | none=>none) ρ:=rfl
@[simp] theorem hNeg_int (i:Int):hNeg (.int i)=some (.int (-i)):=rfl
@[simp] theorem ev_meth (T:String) (g:RV→List RV→DE) (fo:DE) (fl:Ef (List RV)) (ρ:Sl):dMeth T g fo fl ρ=bindE fo (fun r ρ=>match r.see ρ with
 | some d=>if tyOk T d=true then bindE fl (fun rs=>g r rs) ρ else none
 | none=>none) ρ:=rfl
@[simp] theorem tyOk_lst (l:List D):tyOk "list" (.lst l)=true:=rfl
@[simp] theorem tyOk_str (z:Str):tyOk "str" (.str z)=true:=rfl
@[simp] theorem ev_ownL (i:Nat) (ρ:Sl):ownL (.bor i) ρ=(match ρ[i]? with
  | some (some (.own (.lst l)))=>some (i,l)
  | _=>none):=rfl
@[simp] theorem ev_append (r:RV) (rs:List RV) (ρ:Sl):gAppend r rs ρ=(match ownL r ρ,rs with
 | some (i,l),[.dat d]=>if l.length < 10000 then some (.ok (.dat .non) (ρ.set i (some (.own (.lst (l++[d])))))) else none
 | _,_=>none):=rfl
@[simp] theorem ev_extend (r:RV) (rs:List RV) (ρ:Sl):gExtend r rs ρ=(match ownL r ρ,rs with
 | some (i,l),[r']=>(match r'.see ρ with
  | some (.lst l')=>if l.length+l'.length≤10000 then some (.ok (.dat .non) (ρ.set i (some (.own (.lst (l++l')))))) else none
  | _=>none)
 | _,_=>none):=rfl
@[simp] theorem ev_listOf (r:RV) (ρ:Sl):gListOf [r] ρ=(match r.items ρ with
  | some l=>some (.ok (.own (.lst l)) ρ)
  | none=>none):=rfl
@[simp] theorem ev_tupOf (r:RV) (ρ:Sl):gTupOf [r] ρ=(match r.see ρ with
  | some (.lst l)=>some (.ok (.dat (.tup l)) ρ)
  | some (.tup l)=>some (.ok (.dat (.tup l)) ρ)
  | _=>none):=rfl
@[simp] theorem ev_seq (g1 g2:DS) (ρ:Sl):seqS g1 g2 ρ=(match g1 ρ with
 | some (.nx ρ')=>g2 ρ'
 | o=>o):=rfl
@[simp] theorem ev_nx (ρ:Sl):nxS ρ=some (.nx ρ):=rfl
@[simp] theorem ev_sExpr (f:DE) (ρ:Sl):sExpr f ρ=bindS f (fun _=>nxS) ρ:=rfl
@[simp] theorem ev_sRet (f:DE) (ρ:Sl):sRet f ρ=bindS f (fun r ρ=>some (.rt r ρ)) ρ:=rfl
@[simp] theorem ev_sIf (fc:Ef Bool) (g1 g2:DS) (ρ:Sl):sIf fc g1 g2 ρ=bindS fc (fun c=>if c=true then g1 else g2) ρ:=rfl
@[simp] theorem ev_sSet (i np:Nat) (f:DE) (ρ:Sl):sSet i np f ρ=bindS f (fun r=>putR i np r) ρ:=rfl
@[simp] theorem putR_dat (i np:Nat) (d:D) (ρ:Sl):putR i np (.dat d) ρ=some (.nx (ρ.set i (some (.dat d)))):=rfl
@[simp] theorem putR_own (i np:Nat) (m:MO) (ρ:Sl):putR i np (.own m) ρ=if np≤i then some (.nx (ρ.set i (some (.own m)))) else none:=rfl
@[simp] theorem putR_bor (i np j:Nat) (ρ:Sl):putR i np (.bor j) ρ=(match toDat (.bor j) ρ with
  | some (.ok d ρ')=>some (.nx (ρ'.set i (some (.dat d))))
  | _=>none):=rfl
@[simp] theorem noBor_dat (d:D):noBor (.dat d)=true:=rfl
@[simp] theorem noBor_own (m:MO):noBor (.own m)=true:=rfl
@[simp] theorem ev_par (i j np:Nat) (fl:Ef (List RV)) (ρ:Sl):sPar2 i j np fl ρ=bindS fl (fun rs=>match rs with
 | [r,r']=>if noBor r && noBor r' then seqS (putR i np r) (putR j np r') else fun _=>none
 | _=>fun _=>none) ρ:=rfl
@[simp] theorem ev_asg (h:D→Sl→Option Sl) (f:DE) (ρ:Sl):sAsg h f ρ=bindS (froze f) (fun r ρ=>match r with
 | .dat d=>(match h d ρ with
  | some ρ'=>some (.nx ρ')
  | none=>none)
 | _=>none) ρ:=rfl
@[simp] theorem ev_tgN (i:Nat) (d:D) (ρ:Sl):tgN i d ρ=some (ρ.set i (some (.dat d))):=rfl
@[simp] theorem ev_tgT (js:List Nat) (ds:List D) (ρ:Sl):tgT js (.tup ds) ρ=setDs js ds ρ:=rfl
@[simp] theorem setDs_nil (ρ:Sl):setDs [] [] ρ=some ρ:=rfl
@[simp] theorem setDs_cons (j:Nat) (js:List Nat) (d:D) (ds:List D) (ρ:Sl):setDs (j :: js) (d :: ds) ρ=setDs js ds (ρ.set j (some (.dat d))):=rfl
@[simp] theorem ev_store (f fo fi:DE) (ρ:Sl):sStore f fo fi ρ=bindS (froze f) (fun rv=>bindS fo fun ro=>bindS fi fun ri ρ=>match rv,ownL ro ρ,ri.see ρ with
 | .dat d,some (i,l),some (.int k)=>(match ixN l.length k with
  | some j=>some (.nx (ρ.set i (some (.own (.lst (l.set j d))))))
  | none=>none)
 | _,_,_=>none) ρ:=rfl
@[simp] theorem ev_dItems (f:DE) (ρ:Sl):dItems f ρ=bindE f (fun r ρ=>match walked r ρ with
 | some w=>some (.ok w ρ)
 | none=>none) ρ:=rfl
@[simp] theorem walked_dat (d:D) (ρ:Sl):walked (.dat d) ρ=(walkedD d).map fun l=>(l,[]):=rfl
@[simp] theorem walked_own (l:List D) (ρ:Sl):walked (.own (.lst l)) ρ=some (l,[]):=rfl
@[simp] theorem walked_bor (i:Nat) (ρ:Sl):walked (.bor i) ρ=(match ρ[i]? with
  | some (some (.dat d))=>(walkedD d).map fun l=>(l,[])
  | some (some (.own (.lst l)))=>some (l,[i])
  | some (some (.lck (.lst l)))=>some (l,[])
  | _=>none):=rfl
@[simp] theorem walkedD_lst (l:List D):walkedD (.lst l)=some l:=rfl
@[simp] theorem walkedD_tup (l:List D):walkedD (.tup l)=some l:=rfl
@[simp] theorem ev_dEnum (f:DE) (ρ:Sl):dEnum f ρ=bindE f (fun r ρ=>match walked r ρ with
 | some w=>some (.ok (enumL w.1,w.2) ρ)
 | none=>none) ρ:=rfl
@[simp] theorem ev_range1 (f:DE) (ρ:Sl):dRange1 f ρ=bindE f (fun r ρ=>match r.see ρ with
 | some (.int j)=>if j.natAbs≤100000 then some (.ok (rangeL 0 j.toNat,[]) ρ) else none
 | _=>none) ρ:=rfl
@[simp] theorem ev_range2 (f f':DE) (ρ:Sl):dRange2 f f' ρ=bindE f (fun r=>bindE f' fun r' ρ=>match r.see ρ,r'.see ρ with
 | some (.int i),some (.int j)=>if i.natAbs≤100000∧j.natAbs≤100000 then some (.ok (rangeL i (j - i).toNat,[]) ρ) else none
 | _,_=>none) ρ:=rfl
@[simp] theorem ev_for (fi:Ef Wk) (tg:D→Sl→Option Sl) (body:DS) (ρ:Sl):sFor fi tg body ρ=bindS fi (fun w=>lockedS w.2 (loopS tg body w.1)) ρ:=rfl
@[simp] theorem lockedS_nil (g:DS) (ρ:Sl):lockedS [] g ρ=g ρ:=rfl
@[simp] theorem lockedS_cons (i:Nat) (is:List Nat) (g:DS) (ρ:Sl):lockedS (i :: is) g ρ=if isOwnL i ρ=true then mapO (free1 i) (lockedS is g (lock1 i ρ)) else none:=rfl
@[simp] theorem lockedE_nil (g:DE) (ρ:Sl):lockedE [] g ρ=g ρ:=rfl
@[simp] theorem lockedE_cons (i:Nat) (is:List Nat) (g:DE) (ρ:Sl):lockedE (i :: is) g ρ=if isOwnL i ρ=true then mapR (free1 i) (lockedE is g (lock1 i ρ)) else none:=rfl
@[simp] theorem ev_isOwnL (i:Nat) (ρ:Sl):isOwnL i ρ=(match ρ[i]? with
 | some (some (.own (.lst _)))=>true
 | _=>false):=rfl
@[simp] theorem ev_lock1 (i:Nat) (ρ:Sl):lock1 i ρ=(match ρ[i]? with
 | some (some (.own (.lst l)))=>ρ.set i (some (.lck (.lst l)))
 | _=>ρ):=rfl
@[simp] theorem ev_free1 (i:Nat) (ρ:Sl):free1 i ρ=(match ρ[i]? with
 | some (some (.lck m))=>ρ.set i (some (.own m))
 | _=>ρ):=rfl
@[simp] theorem mapO_nx (f:Sl→Sl) (ρ:Sl):mapO f (some (.nx ρ))=some (.nx (f ρ)):=rfl
@[simp] theorem mapO_rt (f:Sl→Sl) (r:RV) (ρ:Sl):mapO f (some (.rt r ρ))=some (.rt r (f ρ)):=rfl
@[simp] theorem mapO_exc (f:Sl→Sl) (c:Nat) (fs:List (Str×D)) (ρ:Sl):mapO f (some (.exc c fs ρ))=some (.exc c fs (f ρ)):=rfl
@[simp] theorem mapR_ok (f:Sl→Sl) (r:RV) (ρ:Sl):mapR f (some (.ok r ρ))=some (.ok r (f ρ)):=rfl
@[simp] theorem mapR_exc (f:Sl→Sl) (c:Nat) (fs:List (Str×D)) (ρ:Sl):mapR f (some (.exc c fs ρ):Option (Res RV))=some (.exc c fs (f ρ)):=rfl
@[simp] theorem ev_loopS_nil (tg:D→Sl→Option Sl) (body:DS) (ρ:Sl):loopS tg body [] ρ=some (.nx ρ):=rfl
theorem ev_loopS_cons (tg:D→Sl→Option Sl) (body:DS) (d:D) (r:List D) (ρ:Sl):loopS tg body (d :: r) ρ=(match tg d ρ with
  | none=>none
  | some ρ1=>match body ρ1 with
   | some (.nx ρ2)=>loopS tg body r ρ2
   | some (.ct ρ2)=>loopS tg body r ρ2
   | some (.bk ρ2)=>some (.nx ρ2)
   | o=>o):=rfl
@[simp] theorem ev_while (μ:Sl→Nat) (test:Ef Bool) (body:DS) (ρ:Sl):sWhile μ test body ρ=loopW test body (μ ρ) ρ:=rfl
@[simp] theorem ev_lc (vs:List Nat) (fi:Ef Wk) (tg:D→Sl→Option Sl) (ft:Ef Bool) (fe:DE) (ρ:Sl):dLc vs fi tg ft fe ρ=bindE fi (fun w=>lockedE w.2 fun ρ=>loopC vs tg ft (froze fe) w.1 [] (wipeR ρ vs)) ρ:=rfl
@[simp] theorem wipeR_nil (ρ:Sl):wipeR ρ []=ρ:=rfl
@[simp] theorem wipeR_cons (ρ:Sl) (v:Nat) (vs:List Nat):wipeR ρ (v :: vs)=(wipeR ρ vs).set v none:=rfl
@[simp] theorem ev_yes (ρ:Sl):yesT ρ=some (.ok true ρ):=rfl
@[simp] theorem ev_loopC_nil (vs:List Nat) (tg:D→Sl→Option Sl) (ft:Ef Bool) (fe:DE) (acc:List D) (ρ:Sl):loopC vs tg ft fe [] acc ρ=some (.ok (.own (.lst acc)) ρ):=rfl
theorem ev_loopC_cons (vs:List Nat) (tg:D→Sl→Option Sl) (ft:Ef Bool) (fe:DE) (d:D) (r acc:List D) (ρ:Sl):loopC vs tg ft fe (d :: r) acc ρ=(match tg d ρ with
  | none=>none
  | some ρ1=>match ft ρ1 with
   | some (.ok true ρ2)=>(match fe ρ2 with
    | some (.ok (.dat e) ρ3)=>if acc.length < 10000 then loopC vs tg ft fe r (acc++[e]) (wipeR ρ3 vs) else none
    | _=>none)
   | some (.ok false ρ2)=>loopC vs tg ft fe r acc (wipeR ρ2 vs)
   | _=>none):=rfl
@[simp] theorem ev_callF (f:DE) (rs:List RV) (ρ:Sl):gCallF f rs ρ=(match takeArgs rs ρ with
 | some (as,ρd)=>(match f as with
  | some (.ok (.dat d) fin)=>some (.ok (.dat d) (giveBack rs as fin ρd))
  | some (.ok (.own m) fin)=>some (.ok (.own m) (giveBack rs as fin ρd))
  | some (.exc c fs fin)=>some (.exc c fs (giveBack rs as fin ρd))
  | _=>none)
 | none=>none):=rfl
@[simp] theorem takeArgs_nil (ρ:Sl):takeArgs [] ρ=some ([],ρ):=rfl
@[simp] theorem takeArgs_dat (d:D) (rs:List RV) (ρ:Sl):takeArgs (.dat d :: rs) ρ=(match takeArgs rs ρ with
  | some (as,ρ')=>some (some (.dat d) :: as,ρ')
  | none=>none):=rfl
@[simp] theorem takeArgs_bor (i:Nat) (rs:List RV) (ρ:Sl):takeArgs (.bor i :: rs) ρ=(match ρ[i]? with
  | some (some (.dat d))=>(match takeArgs rs ρ with
   | some (as,ρ')=>some (some (.dat d) :: as,ρ')
   | none=>none)
  | some (some (.own m))=>(match takeArgs rs (ρ.set i none) with
   | some (as,ρ')=>some (some (.own m) :: as,ρ')
   | none=>none)
  | some (some (.lck m))=>(match takeArgs rs ρ with
   | some (as,ρ')=>(match lend ρ'[i]? with
    | some s=>some (some s :: as,ρ')
    | none=>none)
   | none=>none)
  | _=>none):=rfl
@[simp] theorem takeArgs_shr (i:Nat) (rs:List RV) (ρ:Sl):takeArgs (.shr i :: rs) ρ=(match takeArgs rs ρ with
  | some (as,ρ')=>(match lend ρ'[i]? with
   | some s=>some (some s :: as,ρ')
   | none=>none)
  | none=>none):=rfl
@[simp] theorem lend_dat (d:D):lend (some (some (.dat d)))=some (.dat d):=rfl
@[simp] theorem lend_own (m:MO):lend (some (some (.own m)))=some (.lck m):=rfl
@[simp] theorem lend_lck (m:MO):lend (some (some (.lck m)))=some (.lck m):=rfl
@[simp] theorem giveBack_shr (i:Nat) (rs:List RV) (o f:Option SV) (as fin ρ:Sl):giveBack (.shr i :: rs) (o :: as) (f :: fin) ρ=giveBack rs as fin ρ:=rfl
@[simp] theorem giveBack_borD (i:Nat) (rs:List RV) (d:D) (f:Option SV) (as fin ρ:Sl):giveBack (.bor i :: rs) (some (.dat d) :: as) (f :: fin) ρ=giveBack rs as fin ρ:=rfl
@[simp] theorem giveBack_borL (i:Nat) (rs:List RV) (m:MO) (f:Option SV) (as fin ρ:Sl):giveBack (.bor i :: rs) (some (.lck m) :: as) (f :: fin) ρ=giveBack rs as fin ρ:=rfl
@[simp] theorem giveBack_nil (as fin ρ:Sl):giveBack [] as fin ρ=ρ:=by unfold giveBack; cases as <;> cases fin <;> rfl
@[simp] theorem giveBack_dat (d:D) (rs:List RV) (o f:Option SV) (as fin ρ:Sl):giveBack (.dat d :: rs) (o :: as) (f :: fin) ρ=giveBack rs as fin ρ:=rfl
@[simp] theorem giveBack_own (i:Nat) (rs:List RV) (m m':MO) (as fin ρ:Sl):giveBack (.bor i :: rs) (some (.own m) :: as) (some (.own m') :: fin) ρ=giveBack rs as fin (ρ.set i (some (.own m'))):=rfl
@[simp] theorem ev_def (N n:Nat) (g:DS) (as:Sl):callF N n g as=if as.length=n then (match g (as++List.replicate (N - n) none) with
  | some (.nx ρ)=>some (.ok (.dat .non) (finOf n ρ))
  | some (.rt (.dat d) ρ)=>some (.ok (.dat d) (finOf n ρ))
  | some (.rt (.own m) ρ)=>some (.ok (.own m) (finOf n ρ))
  | some (.rt (.bor i) ρ)=>(match ρ[i]? with
   | some (some (.dat d))=>some (.ok (.dat d) (finOf n ρ))
   | some (some (.own m))=>if n≤i then some (.ok (.own m) (finOf n ρ)) else none
   | _=>none)
  | some (.exc c fs ρ)=>some (.exc c fs (finOf n ρ))
  | _=>none)
 else none:=rfl
def keepO:Option SV→Option SV
 | some (.own m)=>some (.own m)
 | _=>none
@[simp] theorem keepO_own (m:MO):keepO (some (.own m))=some (.own m):=rfl
@[simp] theorem keepO_dat (d:D):keepO (some (.dat d))=none:=rfl
@[simp] theorem keepO_lck (m:MO):keepO (some (.lck m))=none:=rfl
@[simp] theorem keepO_none:keepO none=none:=rfl
theorem keepO_eq (a:Option SV):(match (some a:Option (Option SV)) with | some (some (.own m))=>some (.own m) | _=>none)=keepO a:=by
 rcases a with _ | (_ | _ | _) <;> rfl
@[simp] theorem ev_finOf1 (a:Option SV) (ρ:Sl):finOf 1 (a :: ρ)=[keepO a]:=by rw [← keepO_eq]; rfl
@[simp] theorem ev_finOf2 (a b:Option SV) (ρ:Sl):finOf 2 (a :: b :: ρ)=[keepO a,keepO b]:=by rw [← keepO_eq,← keepO_eq]; rfl
@[simp] theorem ev_finOf3 (a b c:Option SV) (ρ:Sl):finOf 3 (a :: b :: c :: ρ)=[keepO a,keepO b,keepO c]:=by rw [← keepO_eq,← keepO_eq,← keepO_eq]; rfl
@[simp] theorem ev_finOf4 (a b c d:Option SV) (ρ:Sl):finOf 4 (a :: b :: c :: d :: ρ)=[keepO a,keepO b,keepO c,keepO d]:=by rw [← keepO_eq,← keepO_eq,← keepO_eq,← keepO_eq]; rfl
@[simp] theorem hLen_lst (l:List D):hLen (.lst l)=some (.int l.length):=rfl
@[simp] theorem hLen_tup (l:List D):hLen (.tup l)=some (.int l.length):=rfl
@[simp] theorem hLen_wri (l:List D):hLen (.wri l)=some (.int l.length):=rfl
@[simp] theorem hAbs_int (i:Int):hAbs (.int i)=some (.int (if i < 0 then -i else i)):=rfl
@[simp] theorem hInt_int (i:Int):hInt (.int i)=some (.int i):=rfl
@[simp] theorem hInt_bl (b:Bool):hInt (.bl b)=some (.int (if b then 1 else 0)):=rfl
@[simp] theorem hMax2_int (i j:Int):hMax2 (.int i) (.int j)=some (.int (if j > i then j else i)):=rfl
@[simp] theorem hMin2_int (i j:Int):hMin2 (.int i) (.int j)=some (.int (if j < i then j else i)):=rfl
@[simp] theorem hGcd_int (i j:Int):hGcd (.int i) (.int j)=some (.int ((Nat.gcd i.natAbs j.natAbs:Nat):Int)):=rfl
@[simp] theorem hLcm_int (i j:Int):hLcm (.int i) (.int j)=if cLcm i j=true then some (.int ((Nat.lcm i.natAbs j.natAbs:Nat):Int)) else none:=rfl
@[simp] theorem hIsi_ty (a:D) (m:String):hIsi a (.ty m)=if decide (m = "int") || decide (m = "bool") || decide (m = "str") || decide (m = "tuple") || decide (m = "list") then (kindD a).map fun n=>.bl (isKind n m) else none:=rfl
@[simp] theorem hIsN_non (a:D):hIsN a .non=some (.bl (isNon a)):=rfl
@[simp] theorem hNotN_non (a:D):hNotN a .non=some (.bl (!isNon a)):=rfl
@[simp] theorem hEq_ap (a b:D):hEq a b=(dEq a b).map fun c=>.bl c:=rfl
@[simp] theorem hNe_ap (a b:D):hNe a b=(dEq a b).map fun c=>.bl !c:=rfl
@[simp] theorem dEq_int (i j:Int):dEq (.int i) (.int j)=some (decide (i=j)):=rfl
@[simp] theorem dEq_str (i j:Str):dEq (.str i) (.str j)=some (decide (i=j)):=rfl
@[simp] theorem dEq_bl (i j:Bool):dEq (.bl i) (.bl j)=some (decide (i=j)):=rfl
end
section
variable {ρ:Sl}
@[simp] theorem ev_shr_ (f:DE) (ρ:Sl):dShr f ρ=bindE f (fun r ρ=>match r with
 | .bor i=>some (.ok (.shr i) ρ)
 | r=>some (.ok r ρ)) ρ:=rfl
@[simp] theorem ev_lend (f:DE) (ρ:Sl):dLend f ρ=bindE f (fun r ρ=>match r with
 | .bor i=>some (.ok (.shr i) ρ)
 | .own m=>(match m.fix with
  | some d=>some (.ok (.dat d) ρ)
  | none=>none)
 | r=>some (.ok r ρ)) ρ:=rfl
@[simp] theorem ev_isi2 (m m':String) (f:DE) (ρ:Sl):dIsi2 m m' f ρ=bindE f (fun r ρ=>match r.see ρ with
 | some a=>(match hIsi2 m m' a with
  | some d=>some (.ok (.dat d) ρ)
  | none=>none)
 | none=>none) ρ:=rfl
@[simp] theorem hIsi2_ap (m m':String) (a:D):hIsi2 m m' a=(kindD a).map fun n=>.bl (isKind n m || isKind n m'):=rfl
@[simp] theorem kindD_non:kindD .non=some "NoneType" := rfl
@[simp] theorem kindD_bl (b:Bool):kindD (.bl b)=some "bool" := rfl
@[simp] theorem kindD_int (i:Int):kindD (.int i)=some "int" := rfl
@[simp] theorem kindD_str (x:Str):kindD (.str x)=some "str" := rfl
@[simp] theorem kindD_lst (l:List D):kindD (.lst l)=some "list" := rfl
@[simp] theorem kindD_tup (l:List D):kindD (.tup l)=some "tuple" := rfl
@[simp] theorem ev_fld (att:Nat→List Str) (f:Str) (fo:DE) (ρ:Sl):dFld att f fo ρ=bindE fo (fun r ρ=>match rvFld att f r ρ with
 | some d=>some (.ok (.dat d) ρ)
 | none=>none) ρ:=rfl
@[simp] theorem rvFld_dat (att:Nat→List Str) (f:Str) (d:D) (ρ:Sl):rvFld att f (.dat d) ρ=objFld att f d:=rfl
@[simp] theorem rvFld_bor (att:Nat→List Str) (f:Str) (i:Nat) (ρ:Sl):rvFld att f (.bor i) ρ=svFld att f ρ[i]?:=rfl
@[simp] theorem svFld_dat (att:Nat→List Str) (f:Str) (d:D):svFld att f (some (some (.dat d)))=objFld att f d:=rfl
@[simp] theorem svFld_own (att:Nat→List Str) (f:Str) (m:MO):svFld att f (some (some (.own m)))=insFld att f m:=rfl
@[simp] theorem svFld_lck (att:Nat→List Str) (f:Str) (m:MO):svFld att f (some (some (.lck m)))=insFld att f m:=rfl
@[simp] theorem ev_fldSet (att:Nat→List Str) (f:Str) (fo fe:DE) (ρ:Sl):sFldSet att f fo fe ρ=bindS (froze fe) (fun r=>bindS fo fun r2 ρ=>match r,r2 with
 | .dat d,.bor i=>(match ρ[i]? with
  | some (some (.own (.ins c fs)))=>if (att c).contains f && decide (fs.length < 1000) then some (.nx (ρ.set i (some (.own (.ins c (putD f d fs)))))) else none
  | _=>none)
 | _,_=>none) ρ:=rfl
@[simp] theorem ev_mth (m:Str) (mt:Nat→Option DE) (fo:DE) (fl:Ef (List RV)) (ρ:Sl):dMth m mt fo fl ρ=bindE fo (fun r ρ=>match clsOf m r ρ with
 | some c=>(match mt c with
  | some F=>bindE fl (fun rs=>gCallF F (r :: rs)) ρ
  | none=>none)
 | none=>none) ρ:=rfl
@[simp] theorem clsOf_obj (m:Str) (c:Nat) (l:List D) (ρ:Sl):clsOf m (.dat (.obj c l)) ρ=some c:=rfl
@[simp] theorem clsOf_int (m:Str) (i:Int) (ρ:Sl):clsOf m (.dat (.int i)) ρ=none:=rfl
@[simp] theorem clsOf_str (m:Str) (i:Str) (ρ:Sl):clsOf m (.dat (.str i)) ρ=none:=rfl
@[simp] theorem clsOf_lst (m:Str) (i:List D) (ρ:Sl):clsOf m (.dat (.lst i)) ρ=none:=rfl
@[simp] theorem clsOf_tup (m:Str) (i:List D) (ρ:Sl):clsOf m (.dat (.tup i)) ρ=none:=rfl
@[simp] theorem clsOf_bl (m:Str) (i:Bool) (ρ:Sl):clsOf m (.dat (.bl i)) ρ=none:=rfl
@[simp] theorem clsOf_nn (m:Str) (ρ:Sl):clsOf m (.dat .non) ρ=none:=rfl
@[simp] theorem clsOf_own_ (m:Str) (x:MO) (ρ:Sl):clsOf m (.own x) ρ=none:=rfl
@[simp] theorem clsOf_bor (m:Str) (i:Nat) (ρ:Sl):clsOf m (.bor i) ρ=(match ρ[i]? with
  | some (some (.dat (.obj c _)))=>some c
  | some (some (.own (.ins c fs)))=>if noName m fs=true then some c else none
  | some (some (.lck (.ins c fs)))=>if noName m fs=true then some c else none
  | _=>none):=rfl
@[simp] theorem ev_prp (f:Str) (pt:Nat→Option DE) (fo:DE) (ρ:Sl):dPrp f pt fo ρ=bindE fo (fun r ρ=>match clsOf f r ρ with
 | some c=>(match pt c with
  | some F=>gCallF (quiet F) [r] ρ
  | none=>none)
 | none=>none) ρ:=rfl
@[simp] theorem ev_quiet (F:DE) (ρ:Sl):quiet F ρ=(match F ρ with
 | some (.ok r ρ')=>some (.ok r ρ')
 | _=>none):=rfl
@[simp] theorem ev_callQ (F:DE) (rs:List RV) (ρ:Sl):gCallQ F rs ρ=(match gCallF (quiet F) rs ρ with
 | some (.ok r ρ')=>some (.ok r ρ')
 | _=>none):=rfl
@[simp] theorem ev_lenX (lt:Nat→Option DE) (r:RV) (ρ:Sl):gLenX lt [r] ρ=(match clsOf "__len__" r ρ with
  | some c=>(match lt c with
   | some F=>(match gCallQ F [r] ρ with
    | some (.ok (.dat (.int n)) ρ')=>if decide (0≤n) && decide (n≤100000) then some (.ok (.dat (.int n)) ρ') else none
    | _=>none)
   | none=>none)
  | none=>on1 hLen [r] ρ):=rfl
@[simp] theorem ev_binX (m:Str) (bt:Nat→Option DE) (g:RV→RV→DE) (r1 r2:RV) (ρ:Sl):gBinX m bt g r1 r2 ρ=(match clsOf m r1 ρ with
 | some c=>(match bt c with
  | some F=>if clsOf m r2 ρ=some c then (match gCallQ F [r1,r2] ρ with
    | some (.ok (.dat (.obj c' l)) ρ')=>some (.ok (.dat (.obj c' l)) ρ')
    | _=>none)
   else none
  | none=>none)
 | none=>g r1 r2 ρ):=rfl
@[simp] theorem ev_eqX (et:Nat→Option DE) (g:RV→RV→DE) (r1 r2:RV) (ρ:Sl):gEqX et g r1 r2 ρ=(match clsOf "__eq__" r1 ρ with
 | some c=>(match et c with
  | some F=>if decide (clsOf "__eq__" r2 ρ=some c) || ((r2.see ρ).bind kindD).isSome then (match gCallQ F [r1,r2] ρ with
    | some (.ok (.dat (.bl b)) ρ')=>some (.ok (.dat (.bl b)) ρ')
    | _=>none)
   else none
  | none=>none)
 | none=>g r1 r2 ρ):=rfl
@[simp] theorem ev_neX (et:Nat→Option DE) (g:RV→RV→DE) (r1 r2:RV) (ρ:Sl):gNeX et g r1 r2 ρ=(match clsOf "__eq__" r1 ρ with
 | some c=>(match et c with
  | some F=>if clsOf "__eq__" r2 ρ=some c then (match gCallQ F [r1,r2] ρ with
    | some (.ok (.dat (.bl b)) ρ')=>some (.ok (.dat (.bl !b)) ρ')
    | _=>none)
   else none
  | none=>none)
 | none=>g r1 r2 ρ):=rfl
@[simp] theorem ev_strX (st:Nat→Option DE) (g:List RV→DE) (r:RV) (ρ:Sl):gStrX st g [r] ρ=(match clsOf "__str__" r ρ with
  | some c=>(match st c with
   | some F=>(match gCallQ F [r] ρ with
    | some (.ok (.dat (.str x)) ρ')=>some (.ok (.dat (.str x)) ρ')
    | _=>none)
   | none=>none)
  | none=>g [r] ρ):=rfl
@[simp] theorem ev_makeI (c:Nat) (F:DE) (dd:List D) (rs:List RV) (ρ:Sl):gMakeI c F dd rs ρ=(match gCallF F (.bor ρ.length :: (rs++dd.map .dat)) (ρ++[some (.own (.ins c []))]) with
 | some (.ok (.dat .non) ρ1)=>(match ρ1[ρ.length]? with
  | some (some (.own (.ins c' fs)))=>if c'=c then some (.ok fs (ρ1.take ρ.length)) else none
  | _=>none)
 | some (.exc e fs ρ1)=>some (.exc e fs (ρ1.take ρ.length))
 | _=>none):=rfl
@[simp] theorem ev_make (att:Nat→List Str) (c:Nat) (F:DE) (dd:List D) (rs:List RV) (ρ:Sl):gMake att c F dd rs ρ=(match gMakeI c F dd rs ρ with
 | some (.ok fs ρ')=>if fs.map (·.1)=att c then some (.ok (.dat (.obj c (fs.map (·.2)))) ρ') else none
 | some (.exc e fs ρ')=>some (.exc e fs ρ')
 | none=>none):=rfl
@[simp] theorem ev_raise1 (c:Nat) (f:Str) (fe:DE) (ρ:Sl):sRaise1 c f fe ρ=bindS (froze fe) (fun r ρ=>match r with
 | .dat d=>some (.exc c [(f,d)] ρ)
 | _=>none) ρ:=rfl
@[simp] theorem ev_tx1 (h:Str→D→Option RV) (fo fe:DE) (ρ:Sl):dTx1 h fo fe ρ=bindE fo (fun r ρ1=>match r.see ρ1 with
 | some (.str a)=>bindE fe (fun r2 ρ=>match r2.see ρ with
  | some d=>(match h a d with
   | some x=>some (.ok x ρ)
   | none=>none)
  | none=>none) ρ1
 | _=>none) ρ:=rfl
@[simp] theorem ev_tx0 (h:Str→Option RV) (fo:DE) (ρ:Sl):dTx0 h fo ρ=bindE fo (fun r ρ=>match r.see ρ with
 | some (.str a)=>(match h a with
  | some x=>some (.ok x ρ)
  | none=>none)
 | _=>none) ρ:=rfl
@[simp] theorem hAll_ap (d:D):hAll d=d.bools.map fun bs=>.bl (bs.all id):=rfl
@[simp] theorem hAny_ap (d:D):hAny d=d.bools.map fun bs=>.bl (bs.any id):=rfl
@[simp] theorem bools_lst (l:List D):D.bools (.lst l)=D.bools.go l:=rfl
@[simp] theorem strs_lst (l:List D):D.strs (.lst l)=D.strs.go l:=rfl
@[simp] theorem strs_tup (l:List D):D.strs (.tup l)=D.strs.go l:=rfl
@[simp] theorem ev_par3 (i j l np:Nat) (fl:Ef (List RV)) (ρ:Sl):sPar3 i j l np fl ρ=bindS fl (fun rs=>match rs with
 | [r,r',r'']=>if noBor r && noBor r' && noBor r'' then seqS (putR i np r) (seqS (putR j np r') (putR l np r'')) else fun _=>none
 | _=>fun _=>none) ρ:=rfl
end
theorem small_log {n k:Nat} (h:n < 2 ^ k) (h0:0 < k):n.log2 < k:=by
 by_cases hn:n=0
 ·subst hn
  simpa using h0
 ·exact (Nat.log2_lt hn).mpr h
theorem cDiv_ok {i j:Int} (h0:0 < j) (h:j < 2 ^ 200):cDiv i j=true:=by
 unfold cDiv
 have:j.natAbs < 2 ^ 200:=by
  have:((j.natAbs:Nat):Int) < ((2 ^ 200:Nat):Int):=by
   rw [Int.natAbs_of_nonneg (Int.le_of_lt h0)]
   simpa using h
  exact Int.ofNat_lt.mp this
 have:=small_log this (by decide)
 simp [h0]
 omega
theorem cMul_left {i j:Int} (h:i.natAbs < 2 ^ 64):cMul i j=true:=by
 unfold cMul
 rw [decide_eq_true h]
 rfl
theorem cMul_right {i j:Int} (h:j.natAbs < 2 ^ 64):cMul i j=true:=by
 unfold cMul
 rw [decide_eq_true h]
 simp
theorem cLcm_log {i j:Int} (h:i.natAbs.log2 < 12000) (h':j.natAbs.log2 < 12000):cLcm i j=true:=by
 unfold cLcm
 rw [decide_eq_true h,decide_eq_true h']
 rfl
theorem log_small {a k:Nat} (h:a < 2 ^ k) (hk:k≤12000):a.log2 < 12000:=by
 by_cases z:a=0
 ·subst z
  rw [Nat.log2_zero]
  decide
 ·exact Nat.lt_of_lt_of_le ((Nat.log2_lt z).2 h) hk
theorem cLcm_lt {i j:Int} {k:Nat} (hk:k≤12000) (h:i.natAbs < 2 ^ k) (h':j.natAbs < 2 ^ k):cLcm i j=true:=cLcm_log (log_small h hk) (log_small h' hk)
theorem loopS_inv {tg:D→Sl→Option Sl} {body:DS} (I:List D→Sl→Prop) (step:∀ d r ρ,I (d :: r) ρ→∃ ρ1 ρ2,tg d ρ=some ρ1∧(body ρ1=some (.nx ρ2)∨body ρ1=some (.ct ρ2))∧I r ρ2) :
  ∀ (ds:List D) (ρ:Sl),I ds ρ→∃ ρ',I [] ρ'∧loopS tg body ds ρ=some (.nx ρ')
 | [],ρ,h=>⟨ρ,h,rfl⟩
 | d :: r,ρ,h=>by
  obtain ⟨ρ1,ρ2,e1,e2,h2⟩:=step d r ρ h
  obtain ⟨ρ',h',e'⟩:=loopS_inv I step r ρ2 h2
  refine ⟨ρ',h',?_⟩
  rw [ev_loopS_cons,e1]
  rcases e2 with e2 | e2
  ·simp [e2,e']
  ·simp [e2,e']
theorem loopC_inv {vs:List Nat} {tg:D→Sl→Option Sl} {ft:Ef Bool} {fe:DE} (I:List D→List D→Sl→Prop)
  (step:∀ d r acc ρ,I (d :: r) acc ρ→∃ ρ1 ρ2,tg d ρ=some ρ1∧((ft ρ1=some (.ok true ρ2)∧∃ e ρ3,fe ρ2=some (.ok (.dat e) ρ3)∧acc.length < 10000∧I r (acc++[e]) (wipeR ρ3 vs))∨(ft ρ1=some (.ok false ρ2)∧I r acc (wipeR ρ2 vs)))) :
  ∀ (ds acc:List D) (ρ:Sl),I ds acc ρ→∃ acc' ρ',I [] acc' ρ'∧loopC vs tg ft fe ds acc ρ=some (.ok (.own (.lst acc')) ρ')
 | [],acc,ρ,h=>⟨acc,ρ,h,rfl⟩
 | d :: r,acc,ρ,h=>by
  obtain ⟨ρ1,ρ2,e1,h2⟩:=step d r acc ρ h
  rcases h2 with ⟨e2,e,ρ3,e3,l,h3⟩ | ⟨e2,h3⟩
  ·obtain ⟨acc',ρ',h',e'⟩:=loopC_inv I step r _ _ h3
   refine ⟨acc',ρ',h',?_⟩
   rw [ev_loopC_cons,e1]
   simp only [e2,e3,if_pos l]
   exact e'
  ·obtain ⟨acc',ρ',h',e'⟩:=loopC_inv I step r _ _ h3
   refine ⟨acc',ρ',h',?_⟩
   rw [ev_loopC_cons,e1]
   simp only [e2]
   exact e'
theorem loopC_map {i:Nat} {fe:DE} (h:D→D) {ρ:Sl} (hρ:∀ x,(ρ.set i x).set i none=ρ):∀ (ds acc:List D),(∀ d∈ds,fe (ρ.set i (some (.dat d)))=some (.ok (.dat (h d)) (ρ.set i (some (.dat d)))))→acc.length+ds.length≤10000 →
  loopC [i] (tgN i) yesT fe ds acc ρ=some (.ok (.own (.lst (acc++ds.map h))) ρ)
 | [],acc,_,_=>by simp
 | d :: r,acc,hd,l=>by
  rw [ev_loopC_cons]
  simp only [ev_tgN,ev_yes]
  rw [hd d List.mem_cons_self]
  simp only [List.length_cons] at l
  have l':acc.length < 10000:=by omega
  simp only [if_pos l',wipeR_cons,wipeR_nil]
  rw [hρ,loopC_map h hρ r (acc++[h d]) (fun x hx=>hd x (List.mem_cons_of_mem _ hx)) (by rw [List.length_append,List.length_singleton]; omega)]
  simp
theorem rangeL_length (lo:Int) (n:Nat):(rangeL lo n).length=n:=by simp [rangeL]
theorem rangeL_at {lo:Int} {n i:Nat} (h:i < n):(rangeL lo n)[i]?=some (.int (lo+i)):=by simp [rangeL,h]
def red (r:Rat):D:=.tup [.int r.num,.int (r.den:Int)]
theorem gcd_pos_right {t:Int} {b:Int} (h:0 < b):0 < Nat.gcd t.natAbs b.natAbs:=Nat.gcd_pos_of_pos_right _ (by omega)
theorem num_div {t b:Int} (h:0 < b):(Rat.divInt t b).num=t / ((Nat.gcd t.natAbs b.natAbs:Nat):Int):=by
 rw [Rat.num_divInt,Int.sign_eq_one_of_pos h,Int.one_mul]
 show t / ((Nat.gcd b.natAbs t.natAbs:Nat):Int)=_
 rw [Nat.gcd_comm]
theorem den_div {t b:Int} (h:0 < b):(((Rat.divInt t b).den:Nat):Int)=b / ((Nat.gcd t.natAbs b.natAbs:Nat):Int):=by
 rw [Rat.den_divInt,if_neg (by omega)]
 show ((b.natAbs / Nat.gcd b.natAbs t.natAbs:Nat):Int)=_
 rw [Nat.gcd_comm,Int.natCast_ediv,Int.natAbs_of_nonneg (by omega)]
theorem red_div {t b:Int} (h:0 < b):red (Rat.divInt t b)=.tup [.int (t / ((Nat.gcd t.natAbs b.natAbs:Nat):Int)),.int (b / ((Nat.gcd t.natAbs b.natAbs:Nat):Int))]:=by
 unfold red
 rw [num_div h,den_div h]
theorem den_pos (r:Rat):(0:Int) < (r.den:Int):=by
 have:=r.den_pos
 omega
theorem cDiv_gcd {t b x:Int} (h:0 < b) (h9:b < 2 ^ 200):cDiv x ((Nat.gcd t.natAbs b.natAbs:Nat):Int)=true:=by
 refine cDiv_ok (by have:=gcd_pos_right (t:=t) h; omega) ?_
 have:Nat.gcd t.natAbs b.natAbs≤b.natAbs:=Nat.gcd_le_right _ (by omega)
 omega
mutual
def D.pure:D→Bool
 | .int _=>true
 | .str _=>true
 | .non=>true
 | .lst l=>D.pures l
 | .tup l=>D.pures l
 | _=>false
def D.pures:List D→Bool
 | []=>true
 | d :: r=>d.pure && D.pures r
end
mutual
theorem eqv_pure:∀ (a b:D),a.pure=true→b.pure=true→(PyData.eqv a.py b.py=true↔a=b)
 | .int i,b,_,hb=>by cases b <;> simp [D.pure,D.py,PyData.eqv] at hb ⊢
 | .str x,b,_,hb=>by cases b <;> simp [D.pure,D.py,PyData.eqv] at hb ⊢
 | .non,b,_,hb=>by cases b <;> simp [D.pure,D.py,PyData.eqv] at hb ⊢
 | .lst l,b,ha,hb=>by
  cases b with
  | lst l'=>simp only [D.py,PyData.eqv,D.lst.injEq]; exact eqvs_pure l l' ha hb
  | _=>simp [D.pure,D.py,PyData.eqv] at hb ⊢
 | .tup l,b,ha,hb=>by
  cases b with
  | tup l'=>simp only [D.py,PyData.eqv,D.tup.injEq]; exact eqvs_pure l l' ha hb
  | _=>simp [D.pure,D.py,PyData.eqv] at hb ⊢
 | .bl _,_,ha,_=>by cases ha
 | .wri _,_,ha,_=>by cases ha
 | .obj _ _,_,ha,_=>by cases ha
 | .ty _,_,ha,_=>by cases ha
 | .cls _,_,ha,_=>by cases ha
theorem eqvs_pure:∀ (a b:List D),D.pures a=true→D.pures b=true→(PyData.eqvAll (D.pys a) (D.pys b)=true↔a=b)
 | [],[],_,_=>by simp [D.pys,PyData.eqvAll]
 | [],_ :: _,_,_=>by simp [D.pys,PyData.eqvAll]
 | _ :: _,[],_,_=>by simp [D.pys,PyData.eqvAll]
 | x :: xs,y :: ys,ha,hb=>by
  rw [D.pures,Bool.and_eq_true] at ha hb
  simp only [D.pys,PyData.eqvAll,Bool.and_eq_true,List.cons.injEq]
  rw [eqv_pure x y ha.1 hb.1,eqvs_pure xs ys ha.2 hb.2]
end
mutual
def D.deep:D→Nat
 | .lst l=>D.deeps l+1
 | .tup l=>D.deeps l+1
 | _=>0
def D.deeps:List D→Nat
 | []=>0
 | d :: r=>max d.deep (D.deeps r)
end
mutual
def D.num:D→Bool
 | .int _=>true
 | .non=>true
 | .bl _=>true
 | .lst l=>D.nums_ l
 | .tup l=>D.nums_ l
 | _=>false
def D.nums_:List D→Bool
 | []=>true
 | d :: r=>d.num && D.nums_ r
end
mutual
theorem num_plain:∀ d:D,d.num=true→d.isPy=true∧d.py.canLay0=true∧d.py.depth=d.deep
 | .int i,_=>⟨rfl,rfl,rfl⟩
 | .bl i,_=>⟨rfl,rfl,rfl⟩
 | .non,_=>⟨rfl,rfl,rfl⟩
 | .lst l,h=>by
  obtain ⟨a,b,c⟩:=nums_plain l h
  exact ⟨a,by simpa [D.py,PyData.canLay0] using b,by simp [D.py,PyData.depth,D.deep,c]⟩
 | .tup l,h=>by
  obtain ⟨a,b,c⟩:=nums_plain l h
  exact ⟨a,by simpa [D.py,PyData.canLay0] using b,by simp [D.py,PyData.depth,D.deep,c]⟩
 | .str _,h=>by cases h
 | .wri _,h=>by cases h
 | .obj _ _,h=>by cases h
 | .ty _,h=>by cases h
 | .cls _,h=>by cases h
theorem nums_plain:∀ l:List D,D.nums_ l=true→D.arePy l=true∧PyData.canLayAll0 (D.pys l)=true∧PyData.depthAll (D.pys l)=D.deeps l
 | [],_=>⟨rfl,rfl,rfl⟩
 | d :: r,h=>by
  rw [D.nums_,Bool.and_eq_true] at h
  obtain ⟨a,b,c⟩:=num_plain d h.1
  obtain ⟨a',b',c'⟩:=nums_plain r h.2
  exact ⟨by simp [D.arePy,a,a'],by simp [D.pys,PyData.canLayAll0,b,b'],by simp [D.pys,PyData.depthAll,D.deeps,c,c']⟩
end
theorem plain_num {d:D} (h:d.num=true) (hd:d.deep≤64):d.plain=true:=by
 obtain ⟨a,b,c⟩:=num_plain d h
 unfold D.plain SeqAt.shaped
 rw [a,b,c]
 simp [hd]
theorem dEq_num {a b:D} (ha:a.num=true) (hb:b.num=true) (pa:a.pure=true) (pb:b.pure=true) (da:a.deep≤64) (db:b.deep≤64) (n:sEq a b=none) {c:Bool} (h:c=true↔a=b):dEq a b=some c:=by
 unfold dEq
 rw [n,plain_num ha da,plain_num hb db]
 show some _=some c
 congr 1
 rw [Bool.eq_iff_iff,eqv_pure a b pa pb,h]
end Pl
namespace Pl
open PySem PySem.Spec PyProof.Rows L2 Tk
def SqOf (t:Bool) (h:Heap) (l:Addr) (xs:Array Value):Prop:=if t=true then h.IsTuple l xs else h.IsList l xs
def ItOf (t:Bool) (h:Heap) (it l:Addr) (i:Nat):Prop:=if t=true then h.IsTupleIter it l i else h.IsListIter it l i
theorem ItOf.ext {t:Bool} {h h':Heap} {a b l:Addr} {i:Nat} (q:ItOf t h a l i) (e:Heap.ExtBut b h h') (n:a≠b):ItOf t h' a l i:=by
 cases t with
 | true=>exact Heap.IsTupleIter.extBut (show h.IsTupleIter a l i from q) e n
 | false=>exact Heap.IsListIter.extBut (show h.IsListIter a l i from q) e n
theorem SqOf.ext {t:Bool} {h h':Heap} {a b:Addr} {xs:Array Value} (q:SqOf t h a xs) (e:Heap.ExtBut b h h') (n:a≠b):SqOf t h' a xs:=by
 cases t with
 | true=>exact Heap.IsTuple.extBut (show h.IsTuple a xs from q) e n
 | false=>exact Heap.IsList.extBut (show h.IsList a xs from q) e n
section
variable {prog:Program} {w:World} {A:Around} {E:Value→Shared→Prop} {s:Shared} {t t1 t2:Bool}
theorem next_item {it l:Addr} {i:Nat} {items:Array Value} {x:Value} {Q:Value→Shared→Prop} (h1:ItOf t s.heap it l i) (h2:SqOf t s.heap l items) (hx:items[i]?=some x)
  (q:∀ h':Heap,ItOf t h' it l (i+1)→Heap.SameBut it s.heap h'→Q x ⟨h',s.gens,s.drawn,s.toks,s.os⟩):wpAny (model prog w) A (Builtin.SmallTypes.nextOf (Value.ref it)) Q E s:=by
 cases t with
 | true=>exact RZ.nextOf_tuple_item (show s.heap.IsTupleIter it l i from h1) (show s.heap.IsTuple l items from h2) hx q
 | false=>exact wpAny_nextOf_list_item (show s.heap.IsListIter it l i from h1) (show s.heap.IsList l items from h2) hx q
theorem next_end {it l:Addr} {i:Nat} {items:Array Value} {Q:Value→Shared→Prop} (hA:A.handled=none) (h1:ItOf t s.heap it l i) (h2:SqOf t s.heap l items) (hx:items[i]?=none)
  (q:∀ (h':Heap) (e:Addr),Heap.ExtBut it s.heap h'→(∃ o,h'.get? e=some o∧o.cls=Value.type "StopIteration")→E (Value.ref e) ⟨h',s.gens,s.drawn,s.toks,s.os⟩):wpAny (model prog w) A (Builtin.SmallTypes.nextOf (Value.ref it)) Q E s:=by
 cases t with
 | true=>exact RZ.nextOf_tuple_end hA (show s.heap.IsTupleIter it l i from h1) (show s.heap.IsTuple l items from h2) hx q
 | false=>exact wpAny_nextOf_list_end hA (show s.heap.IsListIter it l i from h1) (show s.heap.IsList l items from h2) hx q
theorem zip_item {z TI TO i1 i2 l1 l2:Addr} {k1 k2:Nat} {xs ys:Array Value} {x y a b:Value} {Q:Value→Shared→Prop} (D:ZipApart z TI TO i1 i2 l1 l2) (hz:IsZip s.heap z TI TO Value.none) (hTI:IsPair s.heap TI (Value.ref i1) (Value.ref i2)) (hTO:IsPair s.heap TO a b)
  (h1:ItOf t1 s.heap i1 l1 k1) (h2:ItOf t2 s.heap i2 l2 k2) (hl1:SqOf t1 s.heap l1 xs) (hl2:SqOf t2 s.heap l2 ys) (hx:xs[k1]?=some x) (hy:ys[k2]?=some y)
  (hQ:∀ h':Heap,IsZip h' z TI TO (rawInt s.heap.objs.size)→IsPair h' TO x y→ItOf t1 h' i1 l1 (k1+1)→ItOf t2 h' i2 l2 (k2+1)→IsPair h' s.heap.objs.size x y→h'.objs.size=s.heap.objs.size+1 →
   (∀ (c:Addr) (o:Obj),c≠z→c≠TO→c≠i1→c≠i2→s.heap.get? c=some o→h'.get? c=some o)→Q (Value.ref s.heap.objs.size) ⟨h',s.gens,s.drawn,s.toks,s.os⟩) :
  wpAny (model prog w) A (Builtin.«zip.__next__» { pos:=[Value.ref z] }) (fun fin s'=>∃ v,fin=Fin.done (Flow.ret v)∧Q v s') E s:=by
 unfold Builtin.«zip.__next__»
 refine wpAny_bind (wpAny_of_eq (a:=(Value.ref z,[])) rfl ?_)
 refine wpAny_bind (wpAny_field hz rfl rfl ?_)
 refine wpAny_bind (wpAny_field hz rfl rfl ?_)
 refine wpAny_bind (wpAny_seqItems hTI rfl ?_)
 refine wpAny_bind (wpAny_bind (wpAny_field hz rfl rfl (wpAny_pure ?_)))
 simp only [↓reduceIte]
 refine wpAny_bind (wpAny_rule ?_)
 refine wpAny_bind (wpAny_field hz rfl rfl ?_)
 refine wpAny_bind (wpAny_setField_rec hz (by show 0 < 5; decide) fun h₁ hz₁ hs₁=>?_)
 simp only [List.zipIdx_cons,List.zipIdx_nil,List.forIn_cons,List.forIn_nil]
 refine wpAny_bind ?_
 refine wpAny_bind ?_
 refine wpAny_bind (wpAny_onRaise (wpAny_bind (next_item (h1.ext hs₁.extBut D.i1z) (hl1.ext hs₁.extBut D.l1z) hx fun h₂ hi1 hs₂=>wpAny_pure ?_)))
 have hTO₂:IsPair h₂ TO a b:=(hs₂.2 TO D.TOi1).trans ((hs₁.2 TO D.TOz).trans hTO)
 dsimp only
 refine wpAny_bind (wpAny_seqItems hTO₂ rfl ?_)
 dsimp only
 refine wpAny_bind (wpAny_updateSeq_pair hTO₂ fun h₃ hTO₃ hs₃=>?_)
 refine wpAny_bind (wpAny_letGo (wpAny_pure ?_))
 dsimp only
 refine wpAny_bind ?_
 refine wpAny_bind (wpAny_onRaise (wpAny_bind (next_item (((h2.ext hs₁.extBut D.i2z).ext hs₂.extBut D.i12.symm).ext hs₃.extBut D.TOi2.symm) (((hl2.ext hs₁.extBut D.l2z).ext hs₂.extBut D.l2i1).ext hs₃.extBut D.l2TO) hy fun h₄ hi2 hs₄=>wpAny_pure ?_)))
 have hTO₄:IsPair h₄ TO x b:=(hs₄.2 TO D.TOi2).trans hTO₃
 dsimp only
 refine wpAny_bind (wpAny_seqItems hTO₄ rfl ?_)
 dsimp only
 refine wpAny_bind (wpAny_updateSeq_pair hTO₄ fun h₅ hTO₅ hs₅=>?_)
 refine wpAny_bind (wpAny_letGo (wpAny_pure ?_))
 dsimp only
 have hTO₅':IsPair h₅ TO x y:=hTO₅
 have hz₅:IsZip h₅ z TI TO Value.ellipsis:=(hs₅.2 z D.TOz.symm).trans ((hs₄.2 z D.i2z.symm).trans ((hs₃.2 z D.TOz.symm).trans ((hs₂.2 z D.i1z.symm).trans hz₁)))
 have sz:h₅.objs.size=s.heap.objs.size:=hs₅.1.trans (hs₄.1.trans (hs₃.1.trans (hs₂.1.trans hs₁.1)))
 have keep5:∀ (c:Addr),c≠z→c≠TO→c≠i1→c≠i2→h₅.get? c=s.heap.get? c:=fun c n1 n2 n3 n4=>(hs₅.2 c n2).trans ((hs₄.2 c n4).trans ((hs₃.2 c n2).trans ((hs₂.2 c n3).trans (hs₁.2 c n1))))
 have i1':ItOf t1 h₅ i1 l1 (k1+1):=((hi1.ext hs₃.extBut D.TOi1.symm).ext hs₄.extBut D.i12).ext hs₅.extBut D.TOi1.symm
 have i2':ItOf t2 h₅ i2 l2 (k2+1):=hi2.ext hs₅.extBut D.TOi2.symm
 refine wpAny_pure ?_
 dsimp only
 refine wpAny_bind (wpAny_seqItems hTO₅' rfl ?_)
 dsimp only
 refine wpAny_bind (wpAny_newTuple ?_)
 have hz₆:IsZip (h₅.push { cls:=Value.type "tuple",data:=Data.seq [x,y].toArray }) z TI TO Value.ellipsis:=Heap.get?_push_of_some _ hz₅
 unfold Builtin.SmallTypes.ownedTupleHandOut
 dsimp only
 refine wpAny_bind (wpAny_bind (wpAny_setField_rec hz₆ (by show 0 < 5; decide) fun h₇ hz₇ hs₇=>?_))
 refine wpAny_setField_rec hz₇ (by show 1 < 5; decide) fun h₈ hz₈ hs₈=>?_
 refine wpAny_of_eq (a:=Fin.done (Flow.ret (Value.ref h₅.objs.size))) rfl ⟨_,rfl,?_⟩
 have sz6:(h₅.push { cls:=Value.type "tuple",data:=Data.seq [x,y].toArray }).objs.size=s.heap.objs.size+1:=by rw [Heap.size_push,sz]
 have sz8:h₈.objs.size=s.heap.objs.size+1:=hs₈.1.trans (hs₇.1.trans sz6)
 have nz:h₅.objs.size≠z:=fun e=>by
  have:h₅.get? h₅.objs.size=none:=by unfold Heap.get?; simp
  rw [e,hz₅] at this
  cases this
 have nTO:h₅.objs.size≠TO:=fun e=>by
  have:h₅.get? h₅.objs.size=none:=by unfold Heap.get?; simp
  rw [e,hTO₅'] at this
  cases this
 have up:∀ c o,c≠z→h₅.get? c=some o→h₈.get? c=some o:=fun c o n e=>(hs₈.2 c n).trans ((hs₇.2 c n).trans (Heap.get?_push_of_some _ e))
 have new:IsPair h₈ h₅.objs.size x y:=(hs₈.2 _ nz).trans ((hs₇.2 _ nz).trans (Heap.get?_push_size _ rfl))
 rw [sz] at new ⊢
 refine hQ h₈ ?_ (up TO _ D.TOz hTO₅') ?_ ?_ new sz8 fun c o n1 n2 n3 n4 e=>up c o n1 ((keep5 c n1 n2 n3 n4).trans e)
 ·rw [sz] at hz₈
  exact hz₈
 ·exact i1'.ext (b:=z) (fun c o n e=>up c o n e) D.i1z
 ·exact i2'.ext (b:=z) (fun c o n e=>up c o n e) D.i2z
theorem zip_end {z TI TO i1 i2 l1 l2:Addr} {k1 k2:Nat} {xs ys:Array Value} {a b:Value} {Q:PySem.Fin→Shared→Prop} (hA:A.handled=none) (D:ZipApart z TI TO i1 i2 l1 l2) (hz:IsZip s.heap z TI TO Value.none) (hTI:IsPair s.heap TI (Value.ref i1) (Value.ref i2)) (hTO:IsPair s.heap TO a b)
  (h1:ItOf t1 s.heap i1 l1 k1) (h2:ItOf t2 s.heap i2 l2 k2) (hl1:SqOf t1 s.heap l1 xs) (hl2:SqOf t2 s.heap l2 ys) (he:xs[k1]?=none∨ys[k2]?=none)
  (hE:∀ (h':Heap) (e:Addr),(∀ (c:Addr) (o:Obj),c≠z→c≠TO→c≠i1→c≠i2→s.heap.get? c=some o→h'.get? c=some o)→(∃ o,h'.get? e=some o∧o.cls=Value.type "StopIteration")→E (Value.ref e) ⟨h',s.gens,s.drawn,s.toks,s.os⟩) :
  wpAny (model prog w) A (Builtin.«zip.__next__» { pos:=[Value.ref z] }) Q E s:=by
 unfold Builtin.«zip.__next__»
 refine wpAny_bind (wpAny_of_eq (a:=(Value.ref z,[])) rfl ?_)
 refine wpAny_bind (wpAny_field hz rfl rfl ?_)
 refine wpAny_bind (wpAny_field hz rfl rfl ?_)
 refine wpAny_bind (wpAny_seqItems hTI rfl ?_)
 refine wpAny_bind (wpAny_bind (wpAny_field hz rfl rfl (wpAny_pure ?_)))
 simp only [↓reduceIte]
 refine wpAny_bind (wpAny_rule ?_)
 refine wpAny_bind (wpAny_field hz rfl rfl ?_)
 refine wpAny_bind (wpAny_setField_rec hz (by show 0 < 5; decide) fun h₁ hz₁ hs₁=>?_)
 simp only [List.zipIdx_cons,List.zipIdx_nil,List.forIn_cons,List.forIn_nil]
 refine wpAny_bind ?_
 refine wpAny_bind ?_
 have fin:∀ (h':Heap) (e it:Addr),it≠z→it=i1∨it=i2→(∀ c o,c≠z→c≠TO→c≠i1→c≠i2→s.heap.get? c=some o→h'.get? c=some o)→(∃ o,h'.get? e=some o∧o.cls=Value.type "StopIteration")→IsZip h' z TI TO Value.ellipsis →
   wpAny (model prog w) A (setField (Value.ref z) 0 Value.none) (fun _ s''=>E (Value.ref e) s'') E ⟨h',s.gens,s.drawn,s.toks,s.os⟩:=by
  intro h' e it n1 n2 k ⟨o,ho,hc⟩ hz'
  refine wpAny_setField_rec hz' (by show 0 < 5; decide) fun h₂ hz₂ hs₂=>?_
  refine hE h₂ e (fun c o n1 n2 n3 n4 e=>(hs₂.2 c n1).trans (k c o n1 n2 n3 n4 e)) ⟨o,(hs₂.2 e fun y=>?_).trans ho,hc⟩
  rw [y,hz'] at ho
  cases ho
  exact absurd hc (by intro y; injection y with y; exact absurd y (by decide))
 cases hx:xs[k1]? with
 | none =>
  refine wpAny_bind (wpAny_onRaise (wpAny_bind (next_end hA (h1.ext hs₁.extBut D.i1z) (hl1.ext hs₁.extBut D.l1z) hx fun h₂ e x₂ he=>?_)))
  exact fin h₂ e i1 D.i1z (.inl rfl) (fun c o n1 n2 n3 n4 q=>x₂ c o n3 ((hs₁.2 c n1).trans q)) he (x₂ z _ D.i1z.symm hz₁)
 | some x =>
  have hy:ys[k2]?=none:=he.resolve_left (by rw [hx]; exact fun y=>by cases y)
  refine wpAny_bind (wpAny_onRaise (wpAny_bind (next_item (h1.ext hs₁.extBut D.i1z) (hl1.ext hs₁.extBut D.l1z) hx fun h₂ hi1 hs₂=>wpAny_pure ?_)))
  have hTO₂:IsPair h₂ TO a b:=(hs₂.2 TO D.TOi1).trans ((hs₁.2 TO D.TOz).trans hTO)
  dsimp only
  refine wpAny_bind (wpAny_seqItems hTO₂ rfl ?_)
  dsimp only
  refine wpAny_bind (wpAny_updateSeq_pair hTO₂ fun h₃ hTO₃ hs₃=>?_)
  refine wpAny_bind (wpAny_letGo (wpAny_pure ?_))
  dsimp only
  refine wpAny_bind ?_
  refine wpAny_bind (wpAny_onRaise (wpAny_bind (next_end hA (((h2.ext hs₁.extBut D.i2z).ext hs₂.extBut D.i12.symm).ext hs₃.extBut D.TOi2.symm) (((hl2.ext hs₁.extBut D.l2z).ext hs₂.extBut D.l2i1).ext hs₃.extBut D.l2TO) hy fun h₄ e x₄ he=>?_)))
  refine fin h₄ e i2 D.i2z (.inr rfl) (fun c o n1 n2 n3 n4 q=>x₄ c o n4 ((hs₃.2 c n2).trans ((hs₂.2 c n3).trans ((hs₁.2 c n1).trans q)))) he (x₄ z _ D.i2z.symm ?_)
  exact (hs₃.2 z D.TOz.symm).trans ((hs₂.2 z D.i1z.symm).trans hz₁)
theorem next_zip_item {z TI TO i1 i2 l1 l2:Addr} {k1 k2:Nat} {xs ys:Array Value} {x y a b:Value} {Q:Option Value→Shared→Prop} (D:ZipApart z TI TO i1 i2 l1 l2) (hz:IsZip s.heap z TI TO Value.none) (hTI:IsPair s.heap TI (Value.ref i1) (Value.ref i2)) (hTO:IsPair s.heap TO a b)
  (h1:ItOf t1 s.heap i1 l1 k1) (h2:ItOf t2 s.heap i2 l2 k2) (hl1:SqOf t1 s.heap l1 xs) (hl2:SqOf t2 s.heap l2 ys) (hx:xs[k1]?=some x) (hy:ys[k2]?=some y)
  (hQ:∀ h':Heap,IsZip h' z TI TO (rawInt s.heap.objs.size)→IsPair h' TO x y→ItOf t1 h' i1 l1 (k1+1)→ItOf t2 h' i2 l2 (k2+1)→IsPair h' s.heap.objs.size x y→h'.objs.size=s.heap.objs.size+1 →
   (∀ (c:Addr) (o:Obj),c≠z→c≠TO→c≠i1→c≠i2→s.heap.get? c=some o→h'.get? c=some o)→Q (some (Value.ref s.heap.objs.size)) ⟨h',s.gens,s.drawn,s.toks,s.os⟩) :
  wpAny (model prog w) A (pyNext (Value.ref z)) Q E s:=by
 have hT:s.TypeIs (Value.ref z) "zip" := ⟨_,hz,rfl⟩
 unfold pyNext
 exact wpAny_bind (wpAny_attempt (wpAny_callSpecial?_slot hT F.slot_zip_next (wpAny_call_entry F.slot_zip_next hT F.entry_zip_next
  (zip_item D hz hTI hTO h1 h2 hl1 hl2 hx hy fun h' a1 a2 a3 a4 a5 a6 a7=>wpAny_pure (hQ h' a1 a2 a3 a4 a5 a6 a7)) (F.args_zip_next_1 (Value.ref z)))))
theorem next_zip_end {z TI TO i1 i2 l1 l2:Addr} {k1 k2:Nat} {xs ys:Array Value} {a b:Value} {Q:Option Value→Shared→Prop} (hA:A.handled=none) (D:ZipApart z TI TO i1 i2 l1 l2) (hz:IsZip s.heap z TI TO Value.none) (hTI:IsPair s.heap TI (Value.ref i1) (Value.ref i2)) (hTO:IsPair s.heap TO a b)
  (h1:ItOf t1 s.heap i1 l1 k1) (h2:ItOf t2 s.heap i2 l2 k2) (hl1:SqOf t1 s.heap l1 xs) (hl2:SqOf t2 s.heap l2 ys) (he:xs[k1]?=none∨ys[k2]?=none)
  (hQ:∀ h':Heap,(∀ (c:Addr) (o:Obj),c≠z→c≠TO→c≠i1→c≠i2→s.heap.get? c=some o→h'.get? c=some o)→Q none ⟨h',s.gens,s.drawn,s.toks,s.os⟩) :
  wpAny (model prog w) A (pyNext (Value.ref z)) Q E s:=by
 have hT:s.TypeIs (Value.ref z) "zip" := ⟨_,hz,rfl⟩
 unfold pyNext
 exact wpAny_bind (wpAny_attempt (wpAny_callSpecial?_slot hT F.slot_zip_next (wpAny_call_entry F.slot_zip_next hT F.entry_zip_next
  (zip_end hA D hz hTI hTO h1 h2 hl1 hl2 he fun h' e hk ⟨o,ho,hc⟩=>wpAny_bind (wpAny_isInstance ⟨o,ho,hc⟩ isSubtype_stop (wpAny_pure (hQ h' hk)))) (F.args_zip_next_1 (Value.ref z)))))
def itO (t:Bool) (l:Addr):Obj:=if t=true then { cls:=Value.type "tuple_iterator",data:=Data.fields #[Value.ref l,Value.int 0 0] } else { cls:=Value.type "list_iterator",data:=Data.fields #[Value.ref l,Value.int 0 0] }
theorem iter_of {l:Addr} {xs:Array Value} {Q:Value→Shared→Prop} (h:SqOf t s.heap l xs) (q:Q (Value.ref s.heap.objs.size) ⟨s.heap.push (itO t l),s.gens,s.drawn,s.toks,s.os⟩):wpAny (model prog w) A (pyIter (Value.ref l)) Q E s:=by
 cases t with
 | true=>exact wpAny_pyIter_tuple (show s.heap.IsTuple l xs from h) q
 | false=>exact wpAny_pyIter_list (show s.heap.IsList l xs from h) q
theorem SqOf.push {h:Heap} {l:Addr} {xs:Array Value} (q:SqOf t h l xs) (o:Obj):SqOf t (h.push o) l xs:=by
 cases t with
 | true=>exact Heap.IsTuple.extBut (b:=l+1) (show h.IsTuple l xs from q) (fun b o' _ e=>Heap.get?_push_of_some _ e) (Nat.ne_of_lt (Nat.lt_succ_self l))
 | false=>exact Heap.IsList.extBut (b:=l+1) (show h.IsList l xs from q) (fun b o' _ e=>Heap.get?_push_of_some _ e) (Nat.ne_of_lt (Nat.lt_succ_self l))
def zH1 (t1:Bool) (h:Heap) (l1:Addr):Heap:=h.push (itO t1 l1)
def zH2 (t1 t2:Bool) (h:Heap) (l1 l2:Addr):Heap:=(zH1 t1 h l1).push (itO t2 l2)
def zH3 (t1 t2:Bool) (h:Heap) (l1 l2:Addr):Heap:=(zH2 t1 t2 h l1 l2).push { cls:=Value.type "tuple",data:=Data.seq #[Value.ref h.objs.size,Value.ref (zH1 t1 h l1).objs.size] }
def zH4 (t1 t2:Bool) (h:Heap) (l1 l2:Addr):Heap:=(zH3 t1 t2 h l1 l2).push { cls:=Value.type "tuple",data:=Data.seq #[Value.none,Value.none] }
def zH5 (t1 t2:Bool) (h:Heap) (l1 l2:Addr):Heap:=(zH4 t1 t2 h l1 l2).push { cls:=Value.type "zip",data:=Data.fields #[Value.none,Value.bool false,Value.bool false,Value.ref (zH2 t1 t2 h l1 l2).objs.size,Value.ref (zH3 t1 t2 h l1 l2).objs.size] }
end
theorem meets_zip (t1 t2:Bool) (l1 l2:Addr) (xs ys:Array Value):Meets (Builtin.«zip.__new__» { pos:=[Value.type "zip",Value.ref l1,Value.ref l2] }) fun x R s=>SqOf t1 s.heap l1 xs∧SqOf t2 s.heap l2 ys ∧
  R (Except.ok (Flow.ret (Value.ref (zH4 t1 t2 s.heap l1 l2).objs.size))) ⟨zH5 t1 t2 s.heap l1 l2,s.gens,s.drawn,s.toks,s.os⟩:=by
 refine Meets.of_wp fun prog w A R s h=>?_
 obtain ⟨hp,g,d,tk,os⟩:=s
 obtain ⟨h1,h2,q⟩:=h
 unfold Builtin.«zip.__new__» Builtin.SmallTypes.newClass
 refine wpAny_bind (wpAny_bind (wpAny_pure (wpAny_ite_false rfl (wpAny_bind (wpAny_of_eq sub_zip (wpAny_ite_false rfl (wpAny_pure (wpAny_ite_false rfl ?_))))))))
 refine wpAny_bind ?_
 unfold Builtin.SmallTypes.iterAll
 simp only [List.forIn_cons,List.forIn_nil]
 refine wpAny_bind (wpAny_bind ?_)
 refine wpAny_bind (wpAny_holding (iter_of h1 (wpAny_pure ?_)))
 refine wpAny_bind ?_
 refine wpAny_bind (wpAny_holding (iter_of (h2.push _) (wpAny_pure ?_)))
 refine wpAny_pure (wpAny_pure ?_)
 refine wpAny_bind (wpAny_newTuple ?_ (by show 2≤sizeLine; decide))
 refine wpAny_bind (wpAny_newTuple ?_ (by show 2≤sizeLine; decide))
 unfold Builtin.SmallTypes.newRecord newObj
 dsimp only
 refine wpAny_bind (wpAny_ite_false rfl (wpAny_bind (wpAny_alloc' (wpAny_pure ?_))))
 exact wpAny_pure ⟨_,rfl,q⟩
theorem call_zipX {prog:Program} {w:World} {A:Around} {E:Value→Shared→Prop} {s:Shared} (t1 t2:Bool) {l1 l2:Addr} {xs ys:Array Value} {Q:Value→Shared→Prop} (hl1:SqOf t1 s.heap l1 xs) (hl2:SqOf t2 s.heap l2 ys)
  (h:∀ h':Heap,IsZip h' (s.heap.objs.size+4) (s.heap.objs.size+2) (s.heap.objs.size+3) Value.none→IsPair h' (s.heap.objs.size+2) (Value.ref s.heap.objs.size) (Value.ref (s.heap.objs.size+1))→IsPair h' (s.heap.objs.size+3) Value.none Value.none →
   ItOf t1 h' s.heap.objs.size l1 0→ItOf t2 h' (s.heap.objs.size+1) l2 0→h'.objs.size=s.heap.objs.size+5→(∀ (c:Addr) (o:Obj),s.heap.get? c=some o→h'.get? c=some o)→Q (Value.ref (s.heap.objs.size+4)) ⟨h',s.gens,s.drawn,s.toks,s.os⟩) :
  wpAny (model prog w) A (call (Value.type "zip") [Value.ref l1,Value.ref l2]) Q E s:=by
 refine callType_new F.called_zip (by decide) (F.typeCall_zip_2 _ _) (F.newCall_zip_2 _ _) (fun obj=>F.args_object_init_3 obj _ _) F.entry_zip_new (meets_zip t1 t2 l1 l2 xs ys) ⟨hl1,hl2,?_⟩
 have z1:(zH1 t1 s.heap l1).objs.size=s.heap.objs.size+1:=Heap.size_push _ _
 have z2:(zH2 t1 t2 s.heap l1 l2).objs.size=s.heap.objs.size+2:=(Heap.size_push _ _).trans (congrArg (·+1) z1)
 have z3:(zH3 t1 t2 s.heap l1 l2).objs.size=s.heap.objs.size+3:=(Heap.size_push _ _).trans (congrArg (·+1) z2)
 have z4:(zH4 t1 t2 s.heap l1 l2).objs.size=s.heap.objs.size+4:=(Heap.size_push _ _).trans (congrArg (·+1) z3)
 have z5:(zH5 t1 t2 s.heap l1 l2).objs.size=s.heap.objs.size+5:=(Heap.size_push _ _).trans (congrArg (·+1) z4)
 have g5:(zH5 t1 t2 s.heap l1 l2).get? (s.heap.objs.size+4)=some { cls:=Value.type "zip",data:=Data.fields #[Value.none,Value.bool false,Value.bool false,Value.ref (s.heap.objs.size+2),Value.ref (s.heap.objs.size+3)] }:=by
  have:=Heap.get?_push_size (zH4 t1 t2 s.heap l1 l2) (o:={ cls:=Value.type "zip",data:=Data.fields #[Value.none,Value.bool false,Value.bool false,Value.ref (zH2 t1 t2 s.heap l1 l2).objs.size,Value.ref (zH3 t1 t2 s.heap l1 l2).objs.size] }) rfl
  rw [z2,z3,z4] at this
  unfold zH5
  rw [z2,z3]
  exact this
 have g4:(zH5 t1 t2 s.heap l1 l2).get? (s.heap.objs.size+3)=some { cls:=Value.type "tuple",data:=Data.seq #[Value.none,Value.none] }:=by
  have:=Heap.get?_push_size (zH3 t1 t2 s.heap l1 l2) (o:={ cls:=Value.type "tuple",data:=Data.seq #[Value.none,Value.none] }) rfl
  rw [z3] at this
  exact Heap.get?_push_of_some _ this
 have g3:(zH5 t1 t2 s.heap l1 l2).get? (s.heap.objs.size+2)=some { cls:=Value.type "tuple",data:=Data.seq #[Value.ref s.heap.objs.size,Value.ref (s.heap.objs.size+1)] }:=by
  have:=Heap.get?_push_size (zH2 t1 t2 s.heap l1 l2) (o:={ cls:=Value.type "tuple",data:=Data.seq #[Value.ref s.heap.objs.size,Value.ref (zH1 t1 s.heap l1).objs.size] }) rfl
  rw [z2,z1] at this
  have h3:(zH3 t1 t2 s.heap l1 l2).get? (s.heap.objs.size+2)=some { cls:=Value.type "tuple",data:=Data.seq #[Value.ref s.heap.objs.size,Value.ref (s.heap.objs.size+1)] }:=by
   unfold zH3
   rw [z1]
   exact this
  exact Heap.get?_push_of_some _ (Heap.get?_push_of_some _ h3)
 have g2:(zH5 t1 t2 s.heap l1 l2).get? (s.heap.objs.size+1)=some (itO t2 l2):=by
  have:=Heap.get?_push_size (zH1 t1 s.heap l1) (o:=itO t2 l2) (by cases t2 <;> rfl)
  rw [z1] at this
  exact Heap.get?_push_of_some _ (Heap.get?_push_of_some _ (Heap.get?_push_of_some _ this))
 have g1:(zH5 t1 t2 s.heap l1 l2).get? s.heap.objs.size=some (itO t1 l1) :=
  Heap.get?_push_of_some _ (Heap.get?_push_of_some _ (Heap.get?_push_of_some _ (Heap.get?_push_of_some _ (Heap.get?_push_size s.heap (o:=itO t1 l1) (by cases t1 <;> rfl)))))
 have it:∀ (t:Bool) (h:Heap) (a l:Addr),h.get? a=some (itO t l)→ItOf t h a l 0:=by
  intro t h a l e
  cases t with
  | true=>exact ⟨_,e,rfl,rfl⟩
  | false=>exact ⟨_,e,rfl,rfl⟩
 show (⟨zH5 t1 t2 s.heap l1 l2,s.gens,s.drawn,s.toks,s.os⟩:Shared).TypeIs (Value.ref (zH4 t1 t2 s.heap l1 l2).objs.size) "zip" ∧ Q (Value.ref (zH4 t1 t2 s.heap l1 l2).objs.size) ⟨zH5 t1 t2 s.heap l1 l2,s.gens,s.drawn,s.toks,s.os⟩
 rw [z4]
 exact ⟨⟨_,g5,rfl⟩,h _ g5 g3 g4 (it t1 _ _ _ g1) (it t2 _ _ _ g2) z5 fun c o e=>Heap.get?_push_of_some _ (Heap.get?_push_of_some _ (Heap.get?_push_of_some _ (Heap.get?_push_of_some _ (Heap.get?_push_of_some _ e))))⟩
def SqB (K:PySem.W.Frag) (t:Bool) (H:Hp) (a:Addr) (xs:List V):Prop:=if t=true then SqT K H a xs else SqL K H a xs
def ItzX (K:PySem.W.Frag) (t1 t2:Bool) (a b:Addr) (xs ys:List V):It where
 go i H:=SqB K t1 H a xs∧SqB K t2 H b ys∧∃ x y,xs[i]?=some x∧ys[i]?=some y
 yld i H v H':=∃ T x y,v=V.ref T∧H T=none∧H'=upd H T (.tup [x,y])∧xs[i]?=some x∧ys[i]?=some y
 stop i H:=SqB K t1 H a xs∧SqB K t2 H b ys∧(xs.length≤i∨ys.length≤i)
theorem inv_sq {X:Cx} {pins:List (Addr×Obj)} {σ:L2.St} {H:Hp} {s:Shared} (I:L2.Inv X pins σ H s) {t:Bool} {a:Addr} {xs:List V} (h:SqB X.K t H a xs):∃ its,Vals xs its∧SqOf t s.heap a its.toArray:=by
 cases t with
 | true =>
  obtain ⟨its,rv,p,q⟩:=I.tuple (show SqT X.K H a xs from h)
  exact ⟨its,rv,p⟩
 | false =>
  obtain ⟨its,rv,p,q⟩:=I.list (show SqL X.K H a xs from h)
  exact ⟨its,rv,p.isList⟩
theorem SqOf.lt {t:Bool} {h:Heap} {a:Addr} {xs:Array Value} (q:SqOf t h a xs):a < h.objs.size:=by
 cases t with
 | true=>obtain ⟨o,e,_⟩:=(show h.IsTuple a xs from q); exact Heap.lt_size e
 | false=>obtain ⟨o,e,_⟩:=(show h.IsList a xs from q); exact Heap.lt_size e
theorem ItOf.obj {t:Bool} {h:Heap} {a l:Addr} {i:Nat} (q:ItOf t h a l i):∃ o,h.get? a=some o∧∀ v,o.data≠Data.cell v:=by
 cases t with
 | true=>obtain ⟨o,e,_,d⟩:=(show h.IsTupleIter a l i from q); exact ⟨o,e,fun v y=>by rw [d] at y; cases y⟩
 | false=>obtain ⟨o,e,_,d⟩:=(show h.IsListIter a l i from q); exact ⟨o,e,fun v y=>by rw [d] at y; cases y⟩
theorem ItOf.keep {t:Bool} {h h':Heap} {a l:Addr} {i:Nat} (q:ItOf t h a l i) (k:∀ o,h.get? a=some o→h'.get? a=some o):ItOf t h' a l i:=by
 cases t with
 | true=>exact Heap.IsTupleIter.at (show h.IsTupleIter a l i from q) k
 | false=>exact Heap.IsListIter.at (show h.IsListIter a l i from q) k
theorem turn_zipX {P:Program} {w:World} {K:PySem.W.Frag} {elts:List Expr} {kk:Nat} {tpos:Pos} {t1 t2:Bool} {a b z TI TO i1 i2:Addr} {xs ys:List V} (D:ZipApart z TI TO i1 i2 a b) :
  Turn P w K (.Tuple elts kk tpos) (ItzX K t1 t2 a b xs ys) [z,TI,TO,i1,i2] z fun i h=>IsZip h z TI TO Value.none∧IsPair h TI (Value.ref i1) (Value.ref i2)∧(∃ x y,IsPair h TO x y)∧ItOf t1 h i1 a i∧ItOf t2 h i2 b i where
 mem:=by simp
 obj:=by
  rintro i h ⟨hz,hTI,⟨x,y,hTO⟩,h1,h2⟩ c hc
  simp only [List.mem_cons,List.not_mem_nil,or_false] at hc
  rcases hc with rfl | rfl | rfl | rfl | rfl
  ·exact ⟨_,hz,fun v y=>by cases y⟩
  ·exact ⟨_,hTI,fun v y=>by cases y⟩
  ·exact ⟨_,hTO,fun v y=>by cases y⟩
  ·exact h1.obj
  ·exact h2.obj
 keep:=by
  rintro i h h' ⟨hz,hTI,⟨x,y,hTO⟩,h1,h2⟩ k
  exact ⟨k _ (by simp) _ hz,k _ (by simp) _ hTI,⟨x,y,k _ (by simp) _ hTO⟩,h1.keep (k _ (by simp)),h2.keep (k _ (by simp))⟩
 item:=by
  rintro X rfl rfl rfl hc i pins s σ H E I hf ⟨hz,hTI,⟨x0,y0,hTO⟩,h1,h2⟩ ⟨hx,hy,x,y,ex,ey⟩
  obtain ⟨its,rv,p⟩:=inv_sq I hx
  obtain ⟨its2,rv2,p2⟩:=inv_sq I hy
  obtain ⟨u,hu,ru⟩:=rv.get ex
  obtain ⟨u2,hu2,ru2⟩:=rv2.get ey
  have hzl:=Heap.lt_size hz
  refine next_zip_item D hz hTI hTO h1 h2 p p2 (x:=u) (y:=u2) (by simpa using hu) (by simpa using hu2) fun h' z' TO' h1' h2' hT hsz hk=>⟨_,rfl,wpAny_letOwnedTupleGo_zip z' fun h'' z'' sb=>?_⟩
  have hT2:IsPair h'' s.heap.objs.size u u2:=(sb.2 s.heap.objs.size (Nat.ne_of_gt hzl)).trans hT
  have I1:L2.Inv X pins σ (upd H s.heap.objs.size (.tup [x,y])) ⟨h'',s.gens,s.drawn,s.toks,s.os⟩:=I.turnedNew (ch:=[z,TI,TO,i1,i2]) (fun c o hb q=>by
   simp only [List.mem_cons,List.not_mem_nil,or_false,not_or] at hb
   exact (sb.2 c hb.1).trans (hk c o hb.1 hb.2.2.1 hb.2.2.2.1 hb.2.2.2.2 q)) hf (Nat.le_refl _) ⟨by show 2≤sizeLine; decide,[u,u2],.cons ru (.cons ru2 .nil),_,hT2,rfl,0,rfl⟩
  have nb:∀ c∈[z,TI,TO,i1,i2],upd H s.heap.objs.size (.tup [x,y]) c=none:=fun c hc'=>(upd_ne (by
   refine Nat.ne_of_lt ?_
   simp only [List.mem_cons,List.not_mem_nil,or_false] at hc'
   rcases hc' with rfl | rfl | rfl | rfl | rfl
   ·exact hzl
   ·exact Heap.lt_size hTI
   ·exact Heap.lt_size hTO
   ·obtain ⟨o,e,_⟩:=h1.obj; exact Heap.lt_size e
   ·obtain ⟨o,e,_⟩:=h2.obj; exact Heap.lt_size e)).trans (hf c hc').1
  refine ⟨.ref s.heap.objs.size,_,I1,rfl,⟨_,x,y,rfl,I.hok.fresh (Nat.le_refl _),rfl,ex,ey⟩,⟨z'',?_,⟨u,u2,?_⟩,?_,?_⟩,nb⟩
  ·exact (sb.2 TI D.TIz).trans (hk TI _ D.TIz D.TITO D.TIi1 D.TIi2 hTI)
  ·exact (sb.2 TO D.TOz).trans TO'
  ·exact h1'.keep fun o q=>(sb.2 i1 D.i1z).trans q
  ·exact h2'.keep fun o q=>(sb.2 i2 D.i2z).trans q
 done:=by
  rintro X rfl rfl rfl hc i pins s σ H E I hf ⟨hz,hTI,⟨x0,y0,hTO⟩,h1,h2⟩ ⟨hx,hy,he⟩
  obtain ⟨its,rv,p⟩:=inv_sq I hx
  obtain ⟨its2,rv2,p2⟩:=inv_sq I hy
  have l1:=rv.length
  have l2:=rv2.length
  refine next_zip_end (I.ok.hd hc) D hz hTI hTO h1 h2 p p2 ?_ fun h' hk=>⟨rfl,I.turnedL (ch:=[z,TI,TO,i1,i2]) (fun c o hb q=>by
   simp only [List.mem_cons,List.not_mem_nil,or_false,not_or] at hb
   exact hk c o hb.1 hb.2.2.1 hb.2.2.2.1 hb.2.2.2.2 q) hf⟩
  rcases he with he | he
  ·exact .inl (by simp; omega)
  ·exact .inr (by simp; omega)
 self:=fun A i s Q E st h=>wpAny_pyIter_zip st.1 h
def iZipX (K:PySem.W.Frag) (ta:TA):TI:=fun σ H R=>ta σ H fun vs H1=>∃ a b xs ys,vs=[.ref a,.ref b]∧SqE K H1 a xs∧SqE K H1 b ys ∧
 ((∀ o,K.lookup a=some o→H1 a=none)→(∀ o,K.lookup b=some o→H1 b=none)→∀ J,Walk J (min xs.length ys.length) (fun H'=>At H1 a H'∧At H1 b H') (YPair (fun i=>xs[i]?) (fun i=>ys[i]?))→R J H1)
theorem SqE.b {K:PySem.W.Frag} {H:Hp} {a:Addr} {xs:List V} (h:SqE K H a xs):∃ t,SqB K t H a xs:=by
 rcases h with h | h
 ·exact ⟨false,h⟩
 ·exact ⟨true,h⟩
theorem At.sqB {K:PySem.W.Frag} {H H':Hp} {a:Addr} {xs:List V} {t:Bool} (h:SqB K t H a xs) (k:At H a H'):SqB K t H' a xs:=by
 cases t with
 | true=>exact At.tup (show SqT K H a xs from h) k
 | false=>exact At.list (show SqL K H a xs from h) k
theorem walk_zipX {K:PySem.W.Frag} {H1:Hp} {t1 t2:Bool} {a b:Addr} {xs ys:List V} (ha:SqB K t1 H1 a xs) (hb:SqB K t2 H1 b ys):Walk (ItzX K t1 t2 a b xs ys) (min xs.length ys.length) (fun H'=>At H1 a H'∧At H1 b H') (YPair (fun i=>xs[i]?) (fun i=>ys[i]?)):=by
 refine ⟨fun i H' hi ⟨k1,k2⟩=>⟨At.sqB ha k1,At.sqB hb k2,?_⟩,fun H' ⟨k1,k2⟩=>⟨At.sqB ha k1,At.sqB hb k2,by omega⟩,fun i H' v H2 hi _ y=>y⟩
 have l1:i < xs.length:=by omega
 have l2:i < ys.length:=by omega
 exact ⟨_,_,List.getElem?_eq_getElem l1,List.getElem?_eq_getElem l2⟩
theorem pi_zipX {X:Cx} {e e2:Expr} {ta:TA} {p pos tpos:Pos} {elts:List Expr} {kk:Nat} (hg:Gl X "zip") (hm:X.mg "zip" = none) (ha:PA X [e,e2] ta) (hs:starEach [e,e2] X.env=(false,eval e X.env) :: starEach [e2] X.env:=by rfl) (hpl:(backTo pos (starEach [e2] X.env)).any (·.1)=false:=by rfl) :
  PI X (.Tuple elts kk tpos) (.Call (.Name "zip" p) [e,e2] [] pos) (iZipX X.K ta):=by
 constructor
 intro pins s σ H R I h
 refine Call_ (ld_blt I hg hm boot_zip (PyProof.Rows.callWith_type1 (thn (ha.run pos pins s σ H _ I h) ?_) hs hpl))
 rintro us s1 ⟨vs,H1,I1,r1,a,b,xs,ys,rfl,sa,sb,q⟩
 obtain ⟨u,u2,rfl,ru,ru2⟩:=vals2 r1
 cases ru
 cases ru2
 obtain ⟨t1,sa⟩:=SqE.b sa
 obtain ⟨t2,sb⟩:=SqE.b sb
 obtain ⟨its,rv,p1⟩:=inv_sq I1 sa
 obtain ⟨its2,rv2,p2⟩:=inv_sq I1 sb
 have q:=q (fun o h=>inv_kfree I1 h) (fun o h=>inv_kfree I1 h)
 refine call_zipX t1 t2 p1 p2 fun h' hz hTI hTO h1 h2 sz k=>wpAny_pyIter_zip hz ?_
 have D:=zipApart_new p1.lt p2.lt
 have free:∀ b∈[s1.heap.objs.size+4,s1.heap.objs.size+2,s1.heap.objs.size+3,s1.heap.objs.size,s1.heap.objs.size+1],FpOk X pins H1 b:=fun b hb=>by
  have le:s1.heap.objs.size≤b:=by
   simp only [List.mem_cons,List.not_mem_nil,or_false] at hb
   omega
  exact I1.fpOk le (I1.hok.fresh le)
 exact ⟨_,_,_,_,H1,rfl,I1.kept (t':=s1.toks) k,turn_zipX (t1:=t1) (t2:=t2) (xs:=xs) (ys:=ys) D,⟨hz,hTI,⟨_,_,hTO⟩,h1,h2⟩,free,q _ (walk_zipX sa sb)⟩
def dZipX (f f':DE):Ef Wk:=bindE f fun r=>bindE f' fun r' ρ=>match walked r ρ,walked r' ρ with
 | some w,some w'=>some (.ok (zipL w.1 w'.1,w.2++w'.2) ρ)
 | _,_=>none
theorem lock1_own {i j:Nat} {ρ:Sl} {m:MO} (h:(lock1 i ρ)[j]?=some (some (.own m))):ρ[j]?=some (some (.own m))∧(j=i→∀ l,m≠.lst l):=by
 unfold lock1 at h
 split at h
 ·rename_i l e
  rcases set_cases h with ⟨_,y,_⟩ | ⟨n,y⟩
  ·cases y
  ·exact ⟨y,fun e'=>(n e').elim⟩
 ·rename_i no
  refine ⟨h,fun e l em=>?_⟩
  subst e
  subst em
  exact no l h
theorem lock1_own' {i j:Nat} {ρ:Sl} {m:MO} (h:ρ[j]?=some (some (.own m))) (n:j=i→∀ l,m≠.lst l):(lock1 i ρ)[j]?=some (some (.own m)):=by
 unfold lock1
 split
 ·rename_i l e
  have ne:i≠j:=fun y=>by
   subst y
   rw [h] at e
   cases e
   exact n rfl l rfl
  rw [List.getElem?_set_ne ne]
  exact h
 ·exact h
theorem locks_own {j:Nat} {m:MO}:∀ {is:List Nat} {ρ:Sl},(locks is ρ)[j]?=some (some (.own m))→ρ[j]?=some (some (.own m))∧(j∈is→∀ l,m≠.lst l)
 | [],_,h=>⟨h,fun y=>by cases y⟩
 | i :: is,ρ,h=>by
  obtain ⟨h1,h2⟩:=locks_own (is:=is) (ρ:=lock1 i ρ) h
  obtain ⟨h3,h4⟩:=lock1_own h1
  refine ⟨h3,fun y=>?_⟩
  rcases List.mem_cons.mp y with y | y
  ·exact h4 y
  ·exact h2 y
theorem locks_own' {j:Nat} {m:MO}:∀ {is:List Nat} {ρ:Sl},ρ[j]?=some (some (.own m))→(j∈is→∀ l,m≠.lst l)→(locks is ρ)[j]?=some (some (.own m))
 | [],_,h,_=>h
 | i :: is,ρ,h,n=>locks_own' (is:=is) (lock1_own' h fun e=>n (by rw [e]; exact List.mem_cons_self)) fun y=>n (List.mem_cons_of_mem _ y)
theorem ownA_more {is js:List Nat} {ρ:Sl} {σ:L2.St} {H:Hp} {x:Addr} (s:∀ j∈js,j∈is) (h:OwnA (locks is ρ) σ H x):OwnA (locks js ρ) σ H x:=by
 obtain ⟨i,m,a,e,q,f⟩:=h
 obtain ⟨e1,e2⟩:=locks_own e
 exact ⟨i,m,a,locks_own' e1 fun y=>e2 (s i y),q,f⟩
section
variable {X:Cx} {C:Cl} {B:Bw} {W:WX} {tg e e':Expr} {f f':DE} {p pos tpos:Pos}
theorem zip_walk {K:PySem.W.Frag} {z:At0} {ρ:Sl} {F1 H1:Hp} {σ:L2.St} {a b:Addr} {xs ys:List V} {w w':Wk} (na:∀ o,H1 a=some o→¬ OwnA (locks w.2 ρ) σ H1 a∧¬ Foreign z a) (nb:∀ o,H1 b=some o→¬ OwnA (locks w'.2 ρ) σ H1 b∧¬ Foreign z b)
  (ra:Reps K C F1 xs w.1) (rb:Reps K C F1 ys w'.1) (J:It) (wk:Walk J (min xs.length ys.length) (fun H'=>At H1 a H'∧At H1 b H') (YPair (fun i=>xs[i]?) (fun i=>ys[i]?))):WalkD K C z ρ F1 σ H1 J (zipL w.1 w'.1,w.2++w'.2):=by
 have len:(zipL w.1 w'.1).length=min w.1.length w'.1.length:=by unfold zipL; simp
 refine ⟨fun H'=>At H1 a H'∧At H1 b H',_,by show Walk J (zipL w.1 w'.1).length _ _; rw [len,← ra.length,← rb.length]; exact wk,fun Fa Ha s1 s2 kp=>⟨fun u hu=>kp a u hu (fun y=>(na u hu).1 (ownA_more (fun j hj=>List.mem_append_left _ hj) y)) (na u hu).2,fun u hu=>kp b u hu (fun y=>(nb u hu).1 (ownA_more (fun j hj=>List.mem_append_right _ hj) y)) (nb u hu).2⟩,fun i Fa Ha v Hb s1 s2 kp y=>?_⟩
 obtain ⟨T,x,y',rfl,nT,rfl,hx,hy⟩:=y
 obtain ⟨d,hd,rd⟩:=ra.get hx
 obtain ⟨d',hd',rd'⟩:=rb.get hy
 obtain ⟨Fb,rb,g⟩:=Grow.pair s2 nT (rd.to s1) (rd'.to s1)
 refine ⟨Fb,_,?_,rb,g⟩
 show (zipL w.1 w'.1)[i]?=_
 unfold zipL
 rw [List.getElem?_zipWith,hd,hd']
theorem pdi_zip {elts:List Expr} {kk:Nat} (hg:Gl X "zip") (hm:X.mg "zip" = none) (h:PD X C B W e f) (h':PD X C B W e' f') (hs:starEach [e,e'] X.env=(false,eval e X.env) :: starEach [e'] X.env:=by rfl) (hs':starEach [e'] X.env=(false,eval e' X.env) :: starEach [] X.env:=by rfl) (hpl:(backTo pos (starEach [e'] X.env)).any (·.1)=false:=by rfl) :
  PDI X C B W (.Tuple elts kk tpos) (.Call (.Name "zip" p) [e,e'] [] pos) (dZipX f f') :=
 PI.conv (pi_zipX hg hm (pa_cons h (pa_cons h' pa_nil hs') hs) hs hpl) fun σ H R ⟨ρ,F,st,g⟩=>tG_bind (k1:=kR X.K C) (Post.start st) g fun r1 ρ1 v F1 H1 g1 p1 _ q1=>tG_bind (k1:=kR X.K C) p1 g1 fun r2 ρ2 v2 F2 H2 g2 p2 s2 q2=>by
  show ∃ a b xs ys,[v,v2]=[V.ref a,V.ref b]∧_
  try dsimp only at g2
  split at g2
  ·rename_i w w' ew ew'
   obtain ⟨a,vs,rfl,sq,rs,no⟩:=walked_at p2 (RepRV.carry q1 s2) ew
   obtain ⟨b,vs',rfl,sq',rs',no'⟩:=walked_at p2 q2 ew'
   exact ⟨a,b,vs,vs',rfl,sq,sq',fun k k' J wk=>g2 J F2 H2 p2 (zip_walk (no k) (no' k') rs rs' J wk)⟩
  ·exact False.elim g2
end
def seqD:D→Option (List D)
 | .lst l=>some l
 | .wri l=>some l
 | .tup l=>some l
 | _=>none
def dIn (a b:D):Option Bool:=match a,b with
 | .str x,.str y=>some (!(Builtin.Str.occurrences y x 0 y.length 1).isEmpty)
 | a,b=>match seqD b with
  | some l=>if a.plain && b.plain then some (l.any fun d=>PyData.eqv d.py a.py) else none
  | none=>none
def hIn (a b:D):Option D:=(dIn a b).map fun c=>.bl c
def hNotIn (a b:D):Option D:=(dIn a b).map fun c=>.bl !c
abbrev gIn:=lift2 hIn
abbrev gNotIn:=lift2 hNotIn
section
variable {K:PySem.W.Frag} {C:Cl} {X:Cx}
end
def dChain (h h':D→D→Option D) (fa fb fc:DE):DE:=bindE fa fun r1=>bindE fb fun r2 ρ=>match r1.see ρ,r2.see ρ with
 | some a,some b=>match h a b with
  | some (.bl true)=>bindE fc (fun r3 ρ=>match r2.see ρ,r3.see ρ with
   | some b',some c=>match h' b' c with
    | some d=>some (.ok (.dat d) ρ)
    | none=>none
   | _,_=>none) ρ
  | some (.bl false)=>some (.ok (.dat (.bl false)) ρ)
  | _=>none
 | _,_=>none
abbrev hLe:=hI fun i j=>some (.bl (decide (i≤j)))
section
variable {X:Cx} {C:Cl} {B:Bw} {W:WX} {a b c:Expr} {fa fb fc:DE} {pos:Pos} {r r':R2} {h h':D→D→Option D}
end
def cutD (l:List D) (lo hi:Option Int):List D:=(l.drop (HT.sIx l.length 0 lo)).take (HT.sIx l.length l.length hi - HT.sIx l.length 0 lo)
def dNoPart:Ef (Option Int):=retE none
def dPart (f:DE):Ef (Option Int):=bindE f fun r ρ=>match r.see ρ with
 | some (.int i)=>some (.ok (some i) ρ)
 | _=>none
def dSlc (f:DE) (fl fh:Ef (Option Int)):DE:=bindE f fun r=>bindE fl fun lo=>bindE fh fun hi ρ=>match r.see ρ with
 | some (.lst l)=>some (.ok (.own (.lst (cutD l lo hi))) ρ)
 | some (.wri l)=>some (.ok (.own (.lst (cutD l lo hi))) ρ)
 | some (.tup l)=>some (.ok (.dat (.tup (cutD l lo hi))) ρ)
 | some (.str x)=>if x.length≤10000 then some (.ok (.dat (.str (cutS x lo hi))) ρ) else none
 | _=>none
def kO (K:PySem.W.Frag) (C:Cl):Kd K C (Option Int) (Option Int):=⟨fun _ _ _ _ _ v a=>v=a,fun _ h=>h⟩
abbrev PDO (X:Cx) (C:Cl) (B:Bw) (W:WX) (e:Option Expr) (f:Ef (Option Int)):Prop:=PO X e (tG (kO X.K C) B W f)
theorem PO.conv {X:Cx} {e:Option Expr} {t t':TO} (h:PO X e t) (c:∀ σ H Q,t' σ H Q→t σ H Q):PO X e t':=⟨fun pins s σ H Q I q=>h.run pins s σ H Q I (c σ H Q q)⟩
section
variable {X:Cx} {C:Cl} {B:Bw} {W:WX} {e:Expr} {f:DE} {pos p2:Pos} {lo hi:Option Expr} {fl fh:Ef (Option Int)}
theorem pdo_none:PDO X C B W none dNoPart:=PO.conv po_none fun σ H Q ⟨ρ,F,st,g⟩=>g none F H (Post.start st) rfl
theorem pdo_some (h:PD X C B W e f):PDO X C B W (some e) (dPart f):=PO.conv (po_some h) fun σ H Q ⟨ρ,F,st,g⟩=>tG_bind (k1:=kR X.K C) (Post.start st) g fun r1 ρ1 v F1 H1 g1 p1 _ q1=>by
 try dsimp only at g1
 split at g1
 ·rename_i i e
  exact ⟨i,(RepRV.see q1 p1.st e).int_inv,g1 _ F1 H1 p1 rfl⟩
 ·exact False.elim g1
theorem Reps.cut {K:PySem.W.Frag} {F:Hp} {vs:List V} {ds:List D} (r:Reps K C F vs ds) (lo hi:Option Int):Reps K C F (cutV vs lo hi) (cutD ds lo hi):=by
 unfold cutV cutD
 rw [r.length]
 exact (r.drop _).take _
theorem pd_slice (he:PD X C B W e f) (hl:PDO X C B W lo fl) (hh:PDO X C B W hi fh):PD X C B W (.Subscript e (.Slice lo hi none p2) pos) (dSlc f fl fh) :=
 PE.conv (pe_slice (SlR.or sl_list (SlR.or sl_tupA sl_str)) he hl hh) fun σ H Q ⟨ρ,F,st,g⟩=>tG_bind (k1:=kR X.K C) (Post.start st) g fun r1 ρ1 v F1 H1 g1 p1 _ q1 =>
  tG_bind (k1:=kO X.K C) p1 g1 fun l ρ2 vl F2 H2 g2 p2 s2 ql=>tG_bind (k1:=kO X.K C) p2 g2 fun u ρ3 vu F3 H3 g3 p3 s3 qu=>by
  have q1:=RepRV.carry (RepRV.carry q1 s2) s3
  obtain rfl:vl=l:=ql
  obtain rfl:vu=u:=qu
  try dsimp only at g3
  split at g3
  ·rename_i xs ex
   obtain ⟨a,vs,rfl,sq,rs⟩:=RepRV.parts q1 p3.st ex
   exact .inl ⟨a,vs,rfl,SqL.of sq,fun p n=>Goal.newL g3 p3 n (Reps.cut rs _ _)⟩
  ·rename_i xs ex
   obtain ⟨a,vs,rfl,sq,rs⟩:=RepRV.parts q1 p3.st ex
   exact .inl ⟨a,vs,rfl,sq,fun p n=>Goal.newL g3 p3 n (Reps.cut rs _ _)⟩
  ·rename_i xs ex
   have keep:=RepRV.keep q1 p3.st ex fun _ z=>by cases z
   obtain ⟨a,vs,rfl,sq,rs⟩:=RepRV.parts q1 p3.st ex
   refine .inr (.inl ⟨a,vs,rfl,sq,fun ⟨h1,h2⟩=>?_,fun _ p n=>Goal.newT g3 p3 n (Reps.cut rs _ _)⟩)
   have e:cutD xs vl vu=xs:=by
    unfold cutD
    rw [← rs.length,h1,h2,List.drop_zero,Nat.sub_zero,rs.length,List.take_length]
   rw [e] at g3
   exact g3 _ F3 H3 p3 keep
  ·rename_i x ex
   split at g3
   ·rename_i hx
    exact .inr (.inr ⟨x,(RepRV.see q1 p3.st ex).str_inv,line10000 hx,g3 _ F3 H3 p3 (.str _)⟩)
   ·exact False.elim g3
  ·exact False.elim g3
end
def insD {α:Type} (le:α→α→Bool) (x:α):List α→List α
 | []=>[x]
 | y :: l=>if le x y=true then x :: y :: l else y :: insD le x l
def isort {α:Type} (le:α→α→Bool):List α→List α
 | []=>[]
 | x :: l=>insD le x (isort le l)
def ltD (a b:D):Bool:=PySem.W.dataLt a.py b.py
abbrev leD (a b:D):Bool:=!ltD b a
def sortD (l:List D):List D:=isort leD l
def cmpAll (l:List D):Bool:=l.all fun a=>a.isPy && decide (a.py.depth≤50) && l.all fun b=>PySem.W.alike a.py b.py
def tup1:D→Bool
 | .tup (_ :: _)=>true
 | _=>false
def oth1:D→Bool
 | .tup _=>false
 | .non=>false
 | _=>true
def emp1:List D→Bool
 | .tup [] :: _=>true
 | _=>false
def isTup:D→Bool
 | .tup _=>true
 | _=>false
def sortable (l:List D):Bool:=cmpAll l && (l.all tup1 || l.all oth1 || (emp1 l && l.all isTup))
namespace SE
open PySem.W
section
variable {prog:Program} {w:World} {A:Around} {E:Value→Shared→Prop} {s:Shared}
end
end SE
section
variable {prog:Program} {w:World} {A:Around} {E:Value→Shared→Prop} {s:Shared}
open PySem.W (alike alikeAll) in
mutual
theorem reads_lt {h:Heap}:∀ (d:PyData) (v:Value) (as:List Addr),alike d d=true→Reads h v d as→∀ a∈as,a < h.objs.size
 | .none,_,_,_,r,a,ha=>by cases r; cases ha
 | .bool _,_,_,_,r,a,ha=>by cases r; cases ha
 | .int _,_,_,_,r,a,ha=>by cases r; cases ha
 | .str _,_,_,_,r,a,ha=>by cases r; cases ha
 | .list xs,_,_,hal,r,a,ha=>by
  cases r with
  | list h1 h2 h3 h4 =>
   rcases List.mem_cons.mp ha with rfl | ha
   ·exact Heap.lt_size h1
   ·exact readsAll_lt xs _ _ (by simpa [alike] using hal) h4 a ha
 | .tuple xs,_,_,hal,r,a,ha=>by
  cases r with
  | tuple h1 h2 h3 h4=>exact readsAll_lt xs _ _ (by simpa [alike] using hal) h4 a ha
 | .dict _,_,_,hal,_,_,_=>absurd hal (by simp [alike])
theorem readsAll_lt {h:Heap}:∀ (ds:List PyData) (vs:List Value) (as:List Addr),alikeAll ds ds=true→ReadsAll h vs ds as→∀ a∈as,a < h.objs.size
 | [],_,_,_,r,a,ha=>by cases r; cases ha
 | d :: ds,_,_,hal,r,a,ha=>by
  cases r with
  | cons h1 h2 =>
   rcases List.mem_append.mp ha with ha | ha
   ·exact reads_lt d _ _ (PySem.W.alike_all_cons hal).1 h1 a ha
   ·exact readsAll_lt ds _ _ (PySem.W.alike_all_cons hal).2 h2 a ha
end
end
section
variable {X:Cx} {C:Cl}
def gSortD:List RV→DE:=fun rs ρ=>match rs with
 | [r]=>match r.items ρ with
  | some l=>if sortable l=true then some (.ok (.own (.lst (sortD l))) ρ) else none
  | none=>none
 | _=>none
end
end Pl
namespace Pl
open PySem PySem.Spec PyProof.Rows L2 Tk
def sAug (i:Nat) (f:DE):DS:=fun ρ=>match ρ[i]? with
 | some (some (.dat (.int n)))=>bindS f (fun r ρ'=>match r.see ρ' with
  | some (.int m)=>some (.nx (ρ'.set i (some (.dat (.int (n+m))))))
  | _=>none) ρ
 | _=>none
def dListRg (f:DE):DE:=bindE f (fun r ρ=>match r.see ρ with
 | some (.int n)=>if n.natAbs≤1000 then some (.ok (.own (.lst (rangeL 0 n.toNat))) ρ) else none
 | _=>none)
def dTupRg (f:DE):DE:=bindE f (fun r ρ=>match r.see ρ with
 | some (.int n)=>if n.natAbs≤1000 then some (.ok (.dat (.tup (rangeL 0 n.toNat))) ρ) else none
 | _=>none)
def intsD:List D→Option (List Int)
 | []=>some []
 | .int i :: r=>(intsD r).map fun l=>i :: l
 | _=>none
def hLtD:D→D→Option D
 | .int i,.int j=>some (.bl (decide (i < j)))
 | .str i,.str j=>some (.bl (decide (i.cps.toList < j.cps.toList)))
 | .tup xs,.tup ys=>match intsD xs,intsD ys with
  | some ns,some ms=>some (.bl (HT.lexLt ns ms))
  | _,_=>none
 | _,_=>none
section
variable {X:Cx} {C:Cl} {B:Bw} {W:WX} {e:Expr} {f:DE} {pos pos' p p':Pos}
end
end Pl
namespace Ns
open PySem PySem.Spec PyProof.Rows L2
abbrev Mem:=Addr×NestedKey
def TK (h:Heap) (k:NestedKey) (x:Addr):Prop:=NestedIs h k (.ref x)∧k.depth≤8
section
variable {P:Program} {w:World} {A:Around} {E:Value→Shared→Prop} {s:Shared}
theorem TK.tup {h:Heap} {k:NestedKey} {x:Addr} (q:TK h k x):∃ o vs n ks,k=.tup ks∧h.get? x=some o∧o.cls=.type "tuple" ∧ o.data=.seq vs n∧NestedAll h ks vs.toList:=by
 obtain ⟨q,_⟩:=q
 cases q with
 | tup h1 h2 h3 h4=>exact ⟨_,_,_,_,rfl,h1,h2,h3,h4⟩
mutual
theorem plain_run:∀ (k:NestedKey) (v:Value) (n:Nat) (s:Shared),NestedIs s.heap k v→k.depth≤n→∀ (A:Around) (E:Value→Shared→Prop) (Q:Bool→Shared→Prop),Q false s→wpAny (model P w) A (ofAClassStatement n v) Q E s
 | .none,_,n,s,q,_,A,E,Q,z=>by cases q; cases n <;> exact wpAny_pure z
 | .num _,_,n,s,q,_,A,E,Q,z=>by cases q <;> cases n <;> exact wpAny_pure z
 | .text _,_,n,s,q,_,A,E,Q,z=>by cases q; cases n <;> exact wpAny_pure z
 | .tup ks,_,n,s,q,hn,A,E,Q,z=>by
  cases q with
  | @tup x o vs m _ h1 h2 h3 h4 =>
   cases n with
   | zero=>simp only [NestedKey.depth] at hn; omega
   | succ n =>
    simp only [NestedKey.depth] at hn
    unfold ofAClassStatement
    refine wpAny_bind (wpAny_typeOf ⟨o,h1,h2⟩ ?_)
    have et:(("tuple" : String) == "tuple")=true:=by decide
    simp only [et,if_true]
    refine wpAny_bind (wpAny_pure ?_)
    simp only [Bool.not_true,Bool.false_eq_true,if_false]
    try refine wpAny_bind (wpAny_pure ?_)
    show wpAny _ _ (seqItems? (.ref x) >>= _) Q E s
    refine wpAny_bind (wpAny_seqItems h1 h3 ?_)
    dsimp only
    refine wpAny_bind ?_
    show wpAny _ _ (forIn vs _ _) _ E s
    rw [← Array.forIn_toList]
    refine wpAny_forIn_list _ (fun rest r s'=>r.1=none∧s'=s∧∀ u∈rest,∀ (A':Around) (E':Value→Shared→Prop) (Q':Bool→Shared→Prop),Q' false s→wpAny (model P w) A' (ofAClassStatement n u) Q' E' s) _ ?_ ?_ _ _ ⟨rfl,rfl,plain_all ks vs.toList n s h4 (by omega)⟩
    ·intro u rest r s' ⟨h1,e,all⟩
     subst e
     refine wpAny_bind (all u List.mem_cons_self _ _ _ ?_)
     rw [if_neg Bool.false_ne_true]
     exact wpAny_pure ⟨rfl,rfl,fun y hy=>all y (List.mem_cons_of_mem _ hy)⟩
    ·intro ⟨r1,r2⟩ s' ⟨g1,e,_⟩
     subst e
     have g1:r1=none:=g1
     subst g1
     exact wpAny_pure z
theorem plain_all:∀ (ks:List NestedKey) (vs:List Value) (n:Nat) (s:Shared),NestedAll s.heap ks vs→NestedKey.depthAll ks≤n→∀ u∈vs,∀ (A:Around) (E:Value→Shared→Prop) (Q:Bool→Shared→Prop),Q false s→wpAny (model P w) A (ofAClassStatement n u) Q E s
 | [],_,n,s,q,_,u,hu=>by cases q; cases hu
 | k :: ks,_,n,s,q,hn,u,hu=>by
  cases q with
  | cons q1 q2 =>
   simp only [NestedKey.depthAll] at hn
   rcases List.mem_cons.mp hu with e | hu
   ·rw [e]; exact plain_run k _ n s q1 (by omega)
   ·exact plain_all ks _ n s q2 (by omega) u hu
end
def HashedSo (P:Program) (w:World) (n:Nat) (s:Shared) (v:Value):Prop:=∀ (A:Around) (E:Value→Shared→Prop) (Q:Bool→Shared→Prop),(∀ b,Q b s)→wpAny (model P w) A (hashByValue n v) Q E s
mutual
theorem byval_run:∀ (k:NestedKey) (v:Value) (n:Nat) (s:Shared),NestedIs s.heap k v→HashedSo P w n s v
 | .none,_,n,s,q=>fun A E Q z=>by cases q; cases n <;> exact wpAny_pure (z _)
 | .num _,_,n,s,q=>fun A E Q z=>by cases q <;> cases n <;> exact wpAny_pure (z _)
 | .text _,_,n,s,q=>fun A E Q z=>by cases q; cases n <;> exact wpAny_pure (z _)
 | .tup ks,_,n,s,q=>fun A E Q z=>by
  cases q with
  | @tup x o vs m _ h1 h2 h3 h4 =>
   cases n with
   | zero=>exact wpAny_pure (z _)
   | succ n =>
    have hT:s.TypeIs (.ref x) "tuple" := ⟨o,h1,h2⟩
    unfold hashByValue
    refine wpAny_bind (wpAny_specialOf hT F.slot_tuple_hash.lookup ?_)
    show wpAny _ _ (seqItems? (.ref x) >>= _) Q E s
    refine wpAny_bind (wpAny_seqItems h1 h3 ?_)
    refine wpAny_bind ?_
    show wpAny _ _ (forIn vs _ _) _ E s
    rw [← Array.forIn_toList]
    refine wpAny_forIn_list _ (fun rest r s'=>s'=s∧∀ u∈rest,HashedSo P w n s u) _ ?_ ?_ _ _ ⟨rfl,byval_all ks vs.toList n s h4⟩
    ·intro u rest r s' ⟨e,all⟩
     subst e
     refine wpAny_bind (all u List.mem_cons_self _ _ _ fun b=>?_)
     cases b with
     | true =>
      rw [if_neg (by decide)]
      exact wpAny_pure ⟨rfl,fun y hy=>all y (List.mem_cons_of_mem _ hy)⟩
     | false =>
      rw [if_pos (by decide)]
      refine wpAny_pure ?_
      exact wpAny_pure (z false)
    ·intro ⟨r1,r2⟩ s' ⟨e,_⟩
     subst e
     cases r1 with
     | none=>exact wpAny_pure (z true)
     | some b=>exact wpAny_pure (z b)
theorem byval_all:∀ (ks:List NestedKey) (vs:List Value) (n:Nat) (s:Shared),NestedAll s.heap ks vs→∀ u∈vs,HashedSo P w n s u
 | [],_,n,s,q,u,hu=>by cases q; cases hu
 | k :: ks,_,n,s,q,u,hu=>by
  cases q with
  | cons q1 q2 =>
   rcases List.mem_cons.mp hu with e | hu
   ·rw [e]; exact byval_run k _ n s q1
   ·exact byval_all ks _ n s q2 u hu
end
def cellOf (w:World) (p:Mem):Int×Value:=(p.2.hash w,Value.ref p.1)
abbrev hsh (w:World) (p:Mem):Int:=p.2.hash w
structure NSet (w:World) (h:Heap) (a:Addr) (L:List Mem) (es:Array (Int×Value)) (ep:Nat) (t:SetTable):Prop where
 obj:∃ o,h.get? a=some o∧o.ExactSet∧o.data=.set es ep t
 cells:es.toList=L.map (cellOf w)
 tab:TabOk t (L.map (hsh w))
 nd:(L.map (·.2)).Nodup
 keys:∀ p∈L,TK h p.2 p.1
 led:w.params.followText "set-order" = true∨t.led=true
 room:L.length * 5 < t.mask * 3
 few:L.length < 64
variable {a:Addr} {L:List Mem} {es:Array (Int×Value)} {ep:Nat} {t:SetTable}
end
end Ns
namespace Ns
open PySem PySem.Spec PyProof.Rows L2
section
variable {P:Program} {w:World} {A:Around} {E:Value→Shared→Prop} {s:Shared} {a:Addr} {L:List Mem} {es:Array (Int×Value)} {ep:Nat} {t:SetTable}
end
section
variable {P:Program} {w:World} {A:Around} {E:Value→Shared→Prop} {s:Shared} {a:Addr} {L:List Mem} {es:Array (Int×Value)} {ep:Nat} {t:SetTable}
end
section
variable {P:Program} {w:World} {A:Around} {E:Value→Shared→Prop} {s:Shared}
abbrev noSet (w:World):Obj:={ cls:=.type "set",dict:=none,data:=.set #[] 0 (.fresh 0 0 (!w.params.followText "set-order")) }
end
end Ns
namespace Ns
open PySem PySem.Spec PyProof.Rows L2 Tk Pl
instance memKey (k:Key) (l:List Key):Decidable (k∈l):=@List.instDecidableMemOfLawfulBEq Key instBEqOfDecidableEq inferInstance k l
def once {α:Type} [DecidableEq α]:List α→List α
 | []=>[]
 | x :: l=>if x∈l then once l else x :: once l
section
variable {P:Program} {w:World} {A:Around} {E:Value→Shared→Prop} {s:Shared}
end
section
variable {h:Heap}
mutual
theorem nest_reads:∀ (k:NestedKey) (v:Value) (as:List Addr),Reads h v k.data as→NestedIs h k v
 | .none,_,_,r=>by cases r; exact .none
 | .num i,_,_,r=>by cases r; exact .int _ _
 | .text x,_,_,r=>by cases r; exact .text _ _
 | .tup ks,_,_,r=>by
  have r:Reads h _ (.tuple (NestedKey.datas ks)) _:=r
  cases r with
  | tuple h1 h2 h3 h4=>exact .tup h1 h2 h3 (nest_readsAll ks _ _ h4)
theorem nest_readsAll:∀ (ks:List NestedKey) (vs:List Value) (as:List Addr),ReadsAll h vs (NestedKey.datas ks) as→NestedAll h ks vs
 | [],_,_,r=>by cases r; exact .nil
 | k :: ks,_,_,r=>by
  have r:ReadsAll h _ (k.data :: NestedKey.datas ks) _:=r
  cases r with
  | cons h1 h2=>exact .cons (nest_reads k _ _ h1) (nest_readsAll ks _ _ h2)
end
end
def tupKey (k:NestedKey):Bool:=match k with | .tup _=>decide (k.depth≤8) | _=>false
section
variable {X:Cx} {a:Expr} {ta:TE} {p p2 q pos:Pos}
end
end Ns
namespace Pl
open PySem PySem.Spec PyProof.Rows L2 Tk Ns
def lenSet (ds:List D):Option Nat:=match keysD ds with
 | some ks=>if ks.length≤1000 then some (once ks).length else none
 | none=>match nestsD ds with
  | some ks=>if ks.all tupKey=true∧ks.length < 64 then some (once ks).length else none
  | none=>none
def dLenSet (f:DE):DE:=bindE f fun r ρ=>match r.items ρ with
 | some ds=>match lenSet ds with
  | some n=>some (.ok (.dat (.int (n:Nat))) ρ)
  | none=>none
 | none=>none
section
variable {K:PySem.W.Frag} {C:Cl} {F H:Hp}
mutual
theorem nest_py:∀ (d:D) (k:NestedKey),nestD d=some k→d.isPy=true∧d.py=k.data
 | .int i,_,e=>by cases e; exact ⟨rfl,rfl⟩
 | .str x,_,e=>by cases e; exact ⟨rfl,rfl⟩
 | .tup l,_,e=>by
  unfold nestD at e
  cases el:nestsD l with
  | none=>rw [el] at e; cases e
  | some ks =>
   rw [el] at e
   cases e
   obtain ⟨h1,h2⟩:=nests_py l ks el
   exact ⟨h1,by rw [D.py,h2]; rfl⟩
 | .non,_,e=>by cases e
 | .bl _,_,e=>by cases e
 | .lst _,_,e=>by cases e
 | .wri _,_,e=>by cases e
 | .obj _ _,_,e=>by cases e
 | .ty _,_,e=>by cases e
 | .cls _,_,e=>by cases e
 | .dic _ _ _,_,e=>by cases e
theorem nests_py:∀ (ds:List D) (ks:List NestedKey),nestsD ds=some ks→D.arePy ds=true∧D.pys ds=NestedKey.datas ks
 | [],_,e=>by cases e; exact ⟨rfl,rfl⟩
 | d :: ds,_,e=>by
  unfold nestsD at e
  cases e1:nestD d with
  | none=>rw [e1] at e; cases e
  | some k =>
   cases e2:nestsD ds with
   | none=>rw [e1,e2] at e; cases e
   | some ks =>
    rw [e1,e2] at e
    cases e
    obtain ⟨a1,a2⟩:=nest_py d k e1
    obtain ⟨b1,b2⟩:=nests_py ds ks e2
    exact ⟨by rw [D.arePy,a1,b1]; rfl,by rw [D.pys,a2,b2]; rfl⟩
end
variable {X:Cx} {B:Bw} {W:WX} {a:Expr} {f:DE} {p p2 q pos:Pos}
end
end Pl
namespace Ns
open PySem PySem.Spec PyProof.Rows L2 Tk Pl PpSet
section
variable {X:Cx} {α:Type}
structure Fam (X:Cx) (α:Type) where
 O:Addr→α→HO
 nil:α
 put:V→α→α→Hp→Prop
 new:∀ {H:Hp} {h:Heap} {a:Addr},h.get? a=some (noSet X.w)→ObjOk X.prog X.w H h a (O a nil)
 add:∀ {Y:Cx},Y.prog=X.prog→Y.w=X.w→Y.K=X.K→Y.A=X.A→Y.calm=true→∀ {pins:List (Addr×Obj)} {σ:L2.St} {H:Hp} {s:Shared} {E:Value→Shared→Prop} {D:Addr} {x x':α} {y:V} {u:Value} {Q:Value→Shared→Prop},L2.Inv Y pins σ H s→H D=some (O D x)→RelV y u→put y x x' H →
  (∀ s',L2.Inv Y pins σ (upd H D (O D x')) s'→Q .none s')→wpAny (model Y.prog Y.w) Y.A (call (.builtin "set.add") [.ref D,u]) Q E s
end
end Ns
namespace Pl
open PySem PySem.Spec PyProof.Rows L2 Tk Ns
def famK (X:Cx):Fam X (List Key) where
 O:=fun a l=>SetK X.prog X.w a (fun k=>decide (k∈l)) l.length
 nil:=[]
 put:=fun y l l' H=>∃ k,y=kV k∧l.length+1 < scanBound∧l'=if k∈l then l else k :: l
 new:=fun {H h a} e=>setK_new ⟨_,#[],0,_,e,⟨rfl,rfl,rfl⟩,rfl,(fun e he=>(by simp at he)),(fun k=>(by simp)),(by decide),rfl,rfl⟩
 add:=by
  intro Y e1 e2 e3 e4 hc pins σ H s E D x x' y u Q I hD r ⟨k,ey,room,ex⟩ h
  subst ey
  rw [← e1,← e2] at hD
  refine call_set_add (kV_is r) (key_scan r) (setK_get I hD) room fun h' sb new=>?_
  have he:∃ u,h'.get? D=some u:=new.elim fun o z=>z.elim fun _ z=>z.elim fun _ z=>z.elim fun _ z=>⟨o,z.1⟩
  have I':=I.write (e:=D) (t':=s.toks+1) (by rw [hD]; trivial) (.inl rfl) (fun b u hb hu=>(sb.2 b hb).trans hu) he (setK_new new)
  refine h _ ?_
  have eS:(fun j=>decide (j∈x) || decide (j=k))=fun j=>decide (j∈x'):=funext fun j=>by
   rw [ex,Bool.eq_iff_iff]
   split
   ·rename_i c
    simp only [Bool.or_eq_true,decide_eq_true_eq]
    exact ⟨fun z=>z.elim id fun z=>z ▸ c,.inl⟩
   ·simp [List.mem_cons,Or.comm]
  have eN:(if decide (k∈x)=true then x.length else x.length+1)=x'.length:=by
   rw [ex]
   by_cases c:k∈x
   ·rw [if_pos c,if_pos (decide_eq_true c)]
   ·rw [if_neg c,if_neg (by simp [c])]; rfl
  rw [eS,eN,e1,e2] at I'
  exact I'
def kSet (r:RV):DE:=fun ρ=>match r with
 | .own (.lst ds)=>match keysD ds with
  | some ks=>if ks.length≤1000 then some (.ok (.dat (.int ((once ks).length:Nat))) ρ) else none
  | none=>none
 | _=>none
def dLenSc (vs:List Nat) (fi:Ef Wk) (tg:D→Sl→Option Sl) (ft:Ef Bool) (fe:DE):DE:=bindE fi fun w=>lockedE w.2 fun ρ=>bindE (loopC vs tg ft (froze fe) w.1 []) kSet (wipeR ρ vs)
section
variable {K:PySem.W.Frag} {C:Cl} {B:Bw} {W:WX} {z:At0} {F H:Hp} {ρ:Sl} {σ:L2.St}
structure InS (X:Cx) (K:PySem.W.Frag) (C:Cl) (B:Bw) (z:At0) (F1:Hp) (L:Addr) (ρ:Sl) (σ:L2.St) (F H:Hp) (ks:List Key):Prop where
 post:Post K C B z ρ F σ H
 mono:Same F1 F
 free:F L=none
 no:¬ Held ρ σ H L
 at_:∃ l,H L=some ((famK X).O L l)∧l.Nodup∧∀ k,k∈l↔k∈ks
variable {X:Cx} {F1 F2 H2:Hp} {L:Addr} {ρ2:Sl} {σ2:L2.St} {ks:List Key}
end
section
variable {X:Cx} {C:Cl} {B:Bw} {W:WX} {elt tg iter:Expr} {ifs:List Expr} {scope:Scope} {own:List (Str×Nat)} {pos p pos2:Pos} {fi:Ef Wk} {h:D→Sl→Option Sl} {ft:Ef Bool} {fe:DE} {js:List Nat}
end
end Pl
namespace Pl
open PySem PySem.Spec PyProof.Rows L2 Tk
@[simp] theorem clsOf_wri (m:Str) (i:List D) (ρ:Sl):clsOf m (.dat (.wri i)) ρ=none:=rfl
@[simp] theorem isNon_non:Pl.isNon .non=true:=rfl
@[simp] theorem isNon_int (i:Int):Pl.isNon (.int i)=false:=rfl
@[simp] theorem isNon_bl (i:Bool):Pl.isNon (.bl i)=false:=rfl
@[simp] theorem isNon_str (i:Str):Pl.isNon (.str i)=false:=rfl
@[simp] theorem isNon_lst (i:List D):Pl.isNon (.lst i)=false:=rfl
@[simp] theorem isNon_tup (i:List D):Pl.isNon (.tup i)=false:=rfl
@[simp] theorem isNon_obj (c:Nat) (i:List D):Pl.isNon (.obj c i)=false:=rfl
@[simp] theorem putD_nil (f:Str) (d:D):putD f d []=[(f,d)]:=rfl
@[simp] theorem putD_cons (f g:Str) (d w:D) (r:List (Str×D)):putD f d ((g,w) :: r)=if g=f then (g,d) :: r else (g,w) :: putD f d r:=rfl
theorem enumL_at {l:List D} {i:Nat} {d:D} (h:l[i]?=some d):(enumL l)[i]?=some (.tup [.int (i:Int),d]):=by
 unfold enumL
 rw [List.getElem?_zipWith,h]
 have:i < l.length:=(List.getElem?_eq_some_iff.mp h).1
 simp [this]
theorem enumL_length (l:List D):(enumL l).length=l.length:=by simp [enumL]
theorem loopS_at {tg:D→Sl→Option Sl} {body:DS} (ds:List D) (I:Nat→Sl→Prop) (step:∀ i d ρ,ds[i]?=some d→I i ρ→∃ ρ1 ρ2,tg d ρ=some ρ1∧(body ρ1=some (.nx ρ2)∨body ρ1=some (.ct ρ2))∧I (i+1) ρ2) {ρ:Sl} (h:I 0 ρ) :
  ∃ ρ',I ds.length ρ'∧loopS tg body ds ρ=some (.nx ρ'):=by
 obtain ⟨ρ',⟨i,e,hi,h'⟩,q⟩:=loopS_inv (tg:=tg) (body:=body) (fun l ρ=>∃ i,l=ds.drop i∧i≤ds.length∧I i ρ) (by
  rintro d r ρ ⟨i,e,hi,h⟩
  have lt:i < ds.length:=by
   refine Nat.lt_of_le_of_ne hi fun w=>?_
   subst w
   rw [List.drop_length] at e
   cases e
  rw [List.drop_eq_getElem_cons lt] at e
  injection e with e1 e2
  obtain ⟨ρ1,ρ2,h1,h2,h3⟩:=step i d ρ (by rw [List.getElem?_eq_getElem lt,e1]) h
  exact ⟨ρ1,ρ2,h1,h2,i+1,e2,lt,h3⟩) ds ρ ⟨0,rfl,Nat.zero_le _,h⟩
 have:i=ds.length:=by
  have:=congrArg List.length e
  simp at this
  omega
 subst this
 exact ⟨ρ',h',q⟩
theorem loopC_list {i:Nat} {fe:DE} {ρ:Sl} (hρ:∀ x,(ρ.set i x).set i none=ρ):∀ (ds es acc:List D),ds.length=es.length→(∀ (k:Nat) (d e:D),ds[k]?=some d→es[k]?=some e→fe (ρ.set i (some (.dat d)))=some (.ok (.dat e) (ρ.set i (some (.dat d)))))→acc.length+ds.length≤10000 →
  loopC [i] (tgN i) yesT fe ds acc ρ=some (.ok (.own (.lst (acc++es))) ρ)
 | [],[],acc,_,_,_=>by simp
 | [],_ :: _,_,h,_,_=>by cases h
 | _ :: _,[],_,h,_,_=>by cases h
 | d :: r,e :: es,acc,hl,hd,l=>by
  rw [ev_loopC_cons]
  simp only [ev_tgN,ev_yes]
  rw [hd 0 d e rfl rfl]
  simp only [List.length_cons] at l
  have l':acc.length < 10000:=by omega
  simp only [if_pos l',wipeR_cons,wipeR_nil]
  rw [hρ,loopC_list hρ r es (acc++[e]) (by simpa using hl) (fun k d' e' h1 h2=>hd (k+1) d' e' (by simpa using h1) (by simpa using h2)) (by rw [List.length_append,List.length_singleton]; omega)]
  simp
@[simp] theorem ev_in (r1 r2:RV) (ρ:Sl):gIn r1 r2 ρ=lift2 hIn r1 r2 ρ:=rfl
@[simp] theorem hIn_ap (a b:D):hIn a b=(dIn a b).map fun c=>.bl c:=rfl
@[simp] theorem hNotIn_ap (a b:D):hNotIn a b=(dIn a b).map fun c=>.bl !c:=rfl
@[simp] theorem ev_chain (h h':D→D→Option D) (fa fb fc:DE) (ρ:Sl):dChain h h' fa fb fc ρ=bindE fa (fun r1=>bindE fb fun r2 ρ=>match r1.see ρ,r2.see ρ with
 | some a,some b=>match h a b with
  | some (.bl true)=>bindE fc (fun r3 ρ=>match r2.see ρ,r3.see ρ with
   | some b',some c=>match h' b' c with
    | some d=>some (.ok (.dat d) ρ)
    | none=>none
   | _,_=>none) ρ
  | some (.bl false)=>some (.ok (.dat (.bl false)) ρ)
  | _=>none
 | _,_=>none) ρ:=rfl
@[simp] theorem ev_noPart (ρ:Sl):dNoPart ρ=some (.ok none ρ):=rfl
@[simp] theorem ev_part (f:DE) (ρ:Sl):dPart f ρ=bindE f (fun r ρ=>match r.see ρ with
 | some (.int i)=>some (.ok (some i) ρ)
 | _=>none) ρ:=rfl
@[simp] theorem ev_slc (f:DE) (fl fh:Ef (Option Int)) (ρ:Sl):dSlc f fl fh ρ=bindE f (fun r=>bindE fl fun lo=>bindE fh fun hi ρ=>match r.see ρ with
 | some (.lst l)=>some (.ok (.own (.lst (cutD l lo hi))) ρ)
 | some (.wri l)=>some (.ok (.own (.lst (cutD l lo hi))) ρ)
 | some (.tup l)=>some (.ok (.dat (.tup (cutD l lo hi))) ρ)
 | some (.str x)=>if x.length≤10000 then some (.ok (.dat (.str (cutS x lo hi))) ρ) else none
 | _=>none) ρ:=rfl
@[simp] theorem ev_zipX (f f':DE) (ρ:Sl):dZipX f f' ρ=bindE f (fun r=>bindE f' fun r' ρ=>match walked r ρ,walked r' ρ with
 | some w,some w'=>some (.ok (zipL w.1 w'.1,w.2++w'.2) ρ)
 | _,_=>none) ρ:=rfl
@[simp] theorem ev_aug (i:Nat) (f:DE) (ρ:Sl):sAug i f ρ=(match ρ[i]? with
 | some (some (.dat (.int n)))=>bindS f (fun r ρ'=>match r.see ρ' with
  | some (.int m)=>some (.nx (ρ'.set i (some (.dat (.int (n+m))))))
  | _=>none) ρ
 | _=>none):=rfl
@[simp] theorem ev_listRg (f:DE) (ρ:Sl):dListRg f ρ=bindE f (fun r ρ=>match r.see ρ with
 | some (.int n)=>if n.natAbs≤1000 then some (.ok (.own (.lst (rangeL 0 n.toNat))) ρ) else none
 | _=>none) ρ:=rfl
@[simp] theorem ev_tupRg (f:DE) (ρ:Sl):dTupRg f ρ=bindE f (fun r ρ=>match r.see ρ with
 | some (.int n)=>if n.natAbs≤1000 then some (.ok (.dat (.tup (rangeL 0 n.toNat))) ρ) else none
 | _=>none) ρ:=rfl
@[simp] theorem ev_lenSet (f:DE) (ρ:Sl):dLenSet f ρ=bindE f (fun r ρ=>match r.items ρ with
 | some ds=>match lenSet ds with
  | some n=>some (.ok (.dat (.int (n:Nat))) ρ)
  | none=>none
 | none=>none) ρ:=rfl
@[simp] theorem ev_lenSc (vs:List Nat) (fi:Ef Wk) (tg:D→Sl→Option Sl) (ft:Ef Bool) (fe:DE) (ρ:Sl):dLenSc vs fi tg ft fe ρ=bindE fi (fun w=>lockedE w.2 fun ρ=>bindE (loopC vs tg ft (froze fe) w.1 []) kSet (wipeR ρ vs)) ρ:=rfl
@[simp] theorem ev_kSet (ds:List D) (ρ:Sl):kSet (.own (.lst ds)) ρ=(match keysD ds with
 | some ks=>if ks.length≤1000 then some (.ok (.dat (.int ((Ns.once ks).length:Nat))) ρ) else none
 | none=>none):=rfl
@[simp] theorem ev_sortD (r:RV) (ρ:Sl):gSortD [r] ρ=(match r.items ρ with
 | some l=>if sortable l=true then some (.ok (.own (.lst (sortD l))) ρ) else none
 | none=>none):=rfl
@[simp] theorem hLtD_int (i j:Int):hLtD (.int i) (.int j)=some (.bl (decide (i < j))):=rfl
def hIsB (a b:D):Option D:=match a,b with
 | .bl x,.bl y=>some (.bl (decide (x=y)))
 | _,_=>none
def hNotB (a b:D):Option D:=match a,b with
 | .bl x,.bl y=>some (.bl (!decide (x=y)))
 | _,_=>none
@[simp] theorem hIsB_bl (x y:Bool):hIsB (.bl x) (.bl y)=some (.bl (decide (x=y))):=rfl
@[simp] theorem hNotB_bl (x y:Bool):hNotB (.bl x) (.bl y)=some (.bl (!decide (x=y))):=rfl
section
variable {K:PySem.W.Frag} {C:Cl}
end
structure FunT (K:PySem.W.Frag) (x qual:Str) (st:Stmt) (nd:Nat) (f:Addr) (fd:FuncData):Prop where
 ex:∃ (oc:Value) (od:Option Addr) (T:Addr) (o:Obj) (its:List Value) (n:Nat) (kV doc pm:Value) (an:Option Addr) (cdv ct:Value) (osl:Array (Option Value)),
  fd=PySem.W.fnOf x qual (defArgs st) (defBody st) (defScope st) (.ref T) kV doc pm an cdv ct∧K.lookup f=some ⟨oc,od,.func fd,osl⟩∧PySem.W.codeIn K cdv qual=true∧K.lookup T=some o∧o.data=.seq its.toArray n∧its.length=nd
 kp:PySem.W.keepIn K (.ref f)=true
section
variable {P:Program} {w:World} {K:PySem.W.Frag} {mg:Str→Option Value} {base:Heap} {C:Cl}
theorem FunT.binds {nd:Nat} {x qual:Str} {st:Stmt} {f:Addr} {fd:FuncData} {ps:List Str} (F:FunT K x qual st nd f fd)
  (h:∀ (T:Addr) (kV doc pm:Value) (an:Option Addr) (cdv ct:Value) (us its:List Value),us.length=ps.length→its.length=nd →
   ∃ k,bindArgs (PySem.W.fnOf x qual (defArgs st) (defBody st) (defScope st) (.ref T) kV doc pm an cdv ct) ⟨us,[]⟩=seqItems? (.ref T) >>= k∧k (some its.toArray)=pure (ps.zip us)):Binds K fd ps []:=by
 obtain ⟨oc,od,T,o,its,n,kV,doc,pm,an,cdv,ct,osl,rfl,lk,hcd,lT,oT,hl⟩:=F.ex
 intro s us X hlen
 rw [List.append_nil] at hlen ⊢
 obtain ⟨k,e1,e2⟩:=h T kV doc pm an cdv ct us its hlen hl
 refine BindsTo.of_looks fun M=>?_
 rw [e1]
 exact looks_items X lT oT (.of_pure e2)
end
structure HG where
 cs:List Value
 as_:Option Nat
 ts:Addr→Value→Option Addr→TS
def endsG (D:Ends):Option Nat→Ends
 | none=>D
 | some i=>{ nx:=fun σ' H'=>D.nx (σ'.set i none) H',rt:=D.rt,bk:=fun σ' H'=>D.bk (σ'.set i none) H',ct:=fun σ' H'=>D.ct (σ'.set i none) H' }
def intoG (a:Addr) (σ:L2.St):Option Nat→L2.St
 | none=>σ
 | some i=>σ.set i (some (.ref a))
def wG (K:PySem.W.Frag) (Wout:WX) (D:Ends):List HG→WX
 | []=>Wout
 | h :: r=>fun cls d σ H=>match h.cs with
  | [c]=>∃ b,PySem.W.exmOne K cls c=some b∧(b=true→∀ a,H a=none→h.ts a cls d (endsG D h.as_) (intoG a σ h.as_) H)∧(b=false→wG K Wout D r cls d σ H)
  | [c1,c2]=>PySem.W.exmAny K cls [c1,c2]=some true∧∀ a,H a=none→h.ts a cls d (endsG D h.as_) (intoG a σ h.as_) H
  | _=>False
inductive TestG (X:Cx):Expr→List Value→Prop
 | one {x:Str} {c:Value} {p:Pos}:Names X x c→TestG X (.Name x p) [c]
 | two {x y:Str} {c c':Value} {p p' p2:Pos} {k:Nat}:Names X x c→Names X y c'→TestG X (.Tuple [.Name x p,.Name y p'] k p2) [c,c']
inductive AsG (X:Cx):Option Str→Option Nat→Prop
 | no:AsG X none none
 | yes {n:Str} {i:Nat}:X.N.Nodup→X.N[i]?=some n→X.env.kindOf n=some .local→X.env.scope.names.lookup n=some .local→AsG X (some n) (some i)
inductive HdsG (X:Cx):List ExceptHandler→List HG→Prop
 | nil:HdsG X [] []
 | cons {t:Expr} {cs:List Value} {n:Option Str} {i:Option Nat} {ts:Addr→Value→Option Addr→TS} {b₀:Stmt} {suite:List Stmt} {pos:Pos} {hds:List ExceptHandler} {l:List HG}:TestG X t cs→AsG X n i →
   (∀ (a:Addr) (oe:Obj) (cls:Value) (d:Option Addr) (pn:List (Addr×Obj)),Zc cls d oe→(∃ vs,oe.data=.fields vs)→PSs (X.suite a ((a,oe) :: pn)) (b₀ :: suite) (ts a cls d)) →
   HdsG X hds l→HdsG X (.ExceptHandler (some t) n (b₀ :: suite) pos :: hds) (⟨cs,i,ts⟩ :: l)
theorem FunFrames.up {base:Heap} {h h':Heap} (k:∀ b o,h.get? b=some o→h'.get? b=some o):∀ {l:List Env},h.FunFrames base l→h'.FunFrames base l:=by
 intro l
 induction l with
 | nil=>intro q; exact q
 | cons e l ih =>
  rintro ⟨h1,⟨L,o,f1,f2,f3,f4⟩,r⟩
  exact ⟨h1,⟨L,o,f1,f2,k _ _ f3,f4⟩,ih r⟩
theorem Flying.up {base h h':Heap} {l:List Env} {e:Addr} {Z:Obj→Prop} (k:∀ b o,h.get? b=some o→h'.get? b=some o) (q:HandSPX.FlyingZ base l e Z h):HandSPX.FlyingZ base l e Z h':=by
 obtain ⟨h1,h2,h3,oe,vs,T,oT,ts,t1,t2,t3,t4,t5,t6,t7,t8,t9⟩:=q
 exact ⟨fun b o e=>k b o (h1 b o e),h2,FunFrames.up k h3,oe,vs,T,oT,ts,k _ _ t1,t2,t3,t4,t5,t6,k _ _ t7,t8,t9⟩
section
variable {X:Cx}
theorem no_frame {base h:Heap} {l:List Env} {b:Addr} {o:Obj} {vs:Array Value} (ff:h.FunFrames base l) (e:h.get? b=some o) (d:o.data=.fields vs):¬ b∈l.filterMap (fun x=>x.frame):=fun hm=>by
 obtain ⟨_,o',e',hnf⟩:=Heap.FunFrames.mem ff hm
 rw [e] at e'
 cases e'
 exact hnf vs d
theorem name_run {X:Cx} {pins:List (Addr×Obj)} {σ:L2.St} {H:Hp} {s:Shared} {x:Str} {c:Value} {p:Pos} {Q E:Value→Shared→Prop} (I:L2.Inv X pins σ H s) (hc:Names X x c) (q:Q c s):wpAny (model X.prog X.w) X.A (eval (.Name x p) X.env) Q E s:=by
 obtain ⟨hg,hdbg,hm | ⟨hm,hv,hnn⟩⟩:=hc
 ·exact ld_glob I hg hm q hdbg
 ·exact ld_blt I hg hm hv q hnn hdbg
theorem handle_run {Wout:WX} {D:Ends} {pins:List (Addr×Obj)} {a:Addr} {B:Heap} {sI:Shared} {cls:Value} {d:Option Addr} (hs:X.stack=X.env :: X.outer) (hf:X.env.frame=some X.env.locals) (tk:Takes X Wout) (ok:X.Ok) {σ':L2.St} {H':Hp}
  (J:L2.Inv X pins σ' H' sI) (nb:∀ b o,sI.heap.get? b=some o→¬ b∈frs X.stack→B.get? b=some o) (na:H' a=none) :
  ∀ {hds:List ExceptHandler} {l:List HG},HdsG X hds l→∀ {s3:Shared},HandSPX.FlyingZ B (X.env :: X.outer) a (Zc cls d) s3.heap→sI.heap.UpToSlots s3.heap→s3.os=sI.os→AllBare s3.gens→wG X.K Wout D l cls d σ' H' →
   wpAny (model X.prog X.w) X.A (handleBy (.ref a) X.env hds) (SP X pins D) X.xe s3:=by
 intro hds l hh
 induction hh with
 | nil =>
  intro s3 fl up os ag w
  refine wpAny_handleBy_nil ?_
  obtain ⟨oe,vs,T,oT,ts',he,hz,hd,h1,hr⟩:=fl.2.2.2
  refine wpAny_bind (wpAny_field he hd h1 ?_)
  rw [if_neg (by simp)]
  refine wpAny_bind ?_
  rw [hf]
  refine HandSPX.setFlight_upZ fl fun h4 hh4 up4=>wpAny_throw (tk (.ref a) _ ?_)
  exact ⟨a,B,sI,pins,σ',H',cls,d,rfl,J,nb,up.trans up4,.inr (.inr (by rw [hs]; exact hh4)),na,os,ag,w⟩
 | @cons t cs n i ts b₀ suite pos hds l tg as hsu r ih =>
  intro s3 fl up os ag w
  have J3:=J.landed nb fl.1 up os ag
  obtain ⟨oe3,vs3,he3,hz3,hd3⟩:=HandSPX.FlyingZ.there fl
  have nfr:=no_frame fl.2.2.1 he3 hd3
  have nL:a≠X.env.locals:=fun z=>nfr (List.mem_filterMap.mpr ⟨X.env,List.mem_cons_self,by rw [hf,z]⟩)
  have nF:¬ a∈X.fs:=fun hm=>by
   obtain ⟨e,he,q⟩:=List.mem_filterMap.mp hm
   exact nfr (List.mem_filterMap.mpr ⟨e,List.mem_cons_of_mem _ he,q⟩)
  have S3:=J3.suite he3 hd3 na nL nF
  have LT:PySem.W.Looks (model X.prog X.w) s3.heap (typeOf (.ref a)) cls:=fun A Q E s k q=>wpAny_typeOf_ref (k a oe3 he3) (by rw [hz3.1]; exact q)
  have ks:∀ {s4:Shared},HandSPX.FlyingZ B (X.env :: X.outer) a (Zc cls d) s4.heap→sI.heap.UpToSlots s4.heap→s4.os=sI.os→AllBare s4.gens→(∀ a,H' a=none→ts a cls d (endsG D i) (intoG a σ' i) H') →
    codeAny (model X.prog X.w) (X.A.mark (some (.ref a))) (Code.handlers (.ref a) [.ExceptHandler none n (b₀ :: suite) pos] X.env) (fun r s₂=>match r with
     | .ok f=>match (generalizing:=false) n with
      | none=>SP X pins D f s₂
      | some n=>wpAny (model X.prog X.w) X.A (do bindName X.env n Value.none; unbindBehindTheSuite X.env n pos) (fun _ s₃=>SP X pins D f s₃) X.xe s₂
     | .error x=>cameBackBy (model X.prog X.w) X.A X.env X.xe x s₂) s4:=by
   intro s4 fl4 up4 os4 ag4 w4
   cases as with
   | no =>
    refine codeAny_handlers_suite (HandSPX.lands_againZ fl4 fun h5 fl5 up5=>?_)
    obtain ⟨oe5,vs5,he5,hz5,hd5⟩:=HandSPX.FlyingZ.there fl5
    have S5:=(J.landed nb fl5.1 (up4.trans up5) os4 ag4 (s':=⟨h5,s4.gens,s4.drawn,s4.toks,s4.os⟩)).suite he5 hd5 na nL nF
    refine wpAny_mono ((hsu a oe5 cls d (X.pn++pins) hz5 ⟨vs5,hd5⟩).run [] _ σ' H' D S5 (w4 a na)) (fun f s6 hsp=>?_) (fun e s he=>he.elim)
    cases f with
    | next=>obtain ⟨σ2,H2,I2,q⟩:=hsp; exact ⟨σ2,H2,I2.unsuite ok,q⟩
    | brk=>obtain ⟨σ2,H2,I2,q⟩:=hsp; exact ⟨σ2,H2,I2.unsuite ok,q⟩
    | cont=>obtain ⟨σ2,H2,I2,q⟩:=hsp; exact ⟨σ2,H2,I2.unsuite ok,q⟩
    | ret u=>obtain ⟨v,σ2,H2,I2,r,q⟩:=hsp; exact ⟨v,σ2,H2,I2.unsuite ok,r,q⟩
   | @yes n i hN hi hk hl =>
    refine codeAny_handlers_suite_as (HandSPX.lands_againZ fl4 fun h5 fl5 up5=>?_)
    obtain ⟨oe5,vs5,he5,hz5,hd5⟩:=HandSPX.FlyingZ.there fl5
    have S5:=(J.landed nb fl5.1 (up4.trans up5) os4 ag4 (s':=⟨h5,s4.gens,s4.drawn,s4.toks,s4.os⟩)).suite he5 hd5 na nL nF
    refine store_ok (X:=X.suite a ((a,oe5) :: (X.pn++pins))) (v:=.ref a) S5 hN hi (.inl hl) rfl (fun s6 I6=>?_) (.inr hl)
    refine wpAny_mono ((hsu a oe5 cls d (X.pn++pins) hz5 ⟨vs5,hd5⟩).run [] _ (σ'.set i (some (.ref a))) H' (endsG D (some i)) I6 (w4 a na)) (fun f s7 hsp=>?_) (fun e s he=>he.elim)
    cases f with
    | next=>obtain ⟨σ2,H2,I2,q⟩:=hsp; exact gone_ok (I2.unsuite ok) hN hi hk fun s8 I8=>⟨_,H2,I8,q⟩
    | brk=>obtain ⟨σ2,H2,I2,q⟩:=hsp; exact gone_ok (I2.unsuite ok) hN hi hk fun s8 I8=>⟨_,H2,I8,q⟩
    | cont=>obtain ⟨σ2,H2,I2,q⟩:=hsp; exact gone_ok (I2.unsuite ok) hN hi hk fun s8 I8=>⟨_,H2,I8,q⟩
    | ret u=>obtain ⟨v,σ2,H2,I2,r,q⟩:=hsp; exact gone_ok (I2.unsuite ok) hN hi hk fun s8 I8=>⟨v,_,H2,I8,r,q⟩
  refine wpAny_handleBy_cons (codeAny_handlers_test ?_) (by intro y; cases y)
  cases tg with
  | @one x c p hc =>
   obtain ⟨b,hb1,hyes,hno⟩:=w
   have LM:=PySem.W.exm_one J3.kIn LT hb1 (M:=model X.prog X.w)
   refine name_run (X:=X.suite a ((a,oe3) :: (X.pn++pins))) S3 hc (LM.here ?_)
   cases b with
   | true=>exact ks fl up os ag (hyes rfl)
   | false=>exact ih fl up os ag (hno rfl)
  | @two x y c c' p p' p2 k hc hc' =>
   obtain ⟨hb1,w2⟩:=w
   have up3:∀ b o,s3.heap.get? b=some o→(s3.heap.push { cls:=Value.type "tuple",data:=Data.seq #[c,c'] }).get? b=some o:=fun b o e=>Heap.get?_push_of_some _ e
   refine wpAny_Tuple_spliced ?_
   have e1:starEach [Expr.Name x p,Expr.Name y p'] X.env=(false,eval (.Name x p) X.env) :: starEach [Expr.Name y p'] X.env:=rfl
   have e2:starEach [Expr.Name y p'] X.env=[(false,eval (.Name y p') X.env)]:=rfl
   rw [e1,e2]
   refine Calls.spliced_cons (name_run (X:=X.suite a ((a,oe3) :: (X.pn++pins))) S3 hc ?_)
   refine Calls.spliced_cons (name_run (X:=X.suite a ((a,oe3) :: (X.pn++pins))) S3 hc' ?_)
   refine Calls.spliced_nil ⟨by show 2≤sizeLine; decide,?_⟩
   have LT2:PySem.W.Looks (model X.prog X.w) (s3.heap.push { cls:=Value.type "tuple",data:=Data.seq #[c,c'] }) (typeOf (.ref a)) cls:=fun A Q E s k q=>LT A Q E s (fun b o e=>k b o (up3 b o e)) q
   have LM:=PySem.W.exm_tup2 (M:=model X.prog X.w) (K:=X.K) (fun b o e=>up3 b o (J3.kIn b o e)) LT2 (Heap.get?_push_size s3.heap (o:={ cls:=Value.type "tuple",data:=Data.seq #[c,c'] }) rfl) hb1
   refine LM.here (s:=⟨s3.heap.push { cls:=Value.type "tuple",data:=Data.seq #[c,c'] },s3.gens,s3.drawn,s3.toks,s3.os⟩) ?_
   exact ks (Flying.up up3 fl) (fun b o e n=>by
    obtain ⟨sl,q⟩:=up b o e n
    exact ⟨sl,up3 _ _ q⟩) os ag w2
theorem ps_tryG {X:Cx} {body:List Stmt} {h₀:ExceptHandler} {hds:List ExceptHandler} {l:List HG} {pos:Pos} {tb:WX→TS} {Wout:WX} (hs:X.stack=X.env :: X.outer) (hf:X.env.frame=some X.env.locals) (tk:Takes X Wout)
  (hb:∀ (W:WX) (pn:List (Addr×Obj)) (xe:Value→Shared→Prop),Takes (X.tr pn xe) W→PassesOwn (model X.prog X.w) X.A X.env xe→PSs (X.tr pn xe) body (tb W)) (hh:HdsG X (h₀ :: hds) l) :
  PS X (.Try body (h₀ :: hds) [] [] pos) (fun D σ H=>tb (wG X.K Wout D l) D σ H):=by
 constructor
 intro pins s σ H D I h
 have ok:=I.ok
 have hfr:X.A.frames=some (X.env :: X.outer):=by rw [ok.frames,hs]
 refine wpAny_Try_except (wpAny_mono ((hb (wG X.K Wout D l) (X.pn++pins) (fun e s₁=>wpAny (model X.prog X.w) X.A (noteFrame e X.env) (fun _ s₂=>wpAny (model X.prog X.w) X.A (setFlight e none) (fun _ s₃=>wpAny (model X.prog X.w) X.A (handleBy e X.env (h₀ :: hds)) (SP X pins D) X.xe s₃) X.xe s₂) X.xe s₁) ?_ PassesOwn.looking).run [] s σ H D (I.toTry _) h) (fun f s1 hsp=>?_) (fun e s1 he=>he))
 ·rintro u s' ⟨a,B,sI,pins',σ',H',cls,d,rfl,J',nb,up,sky,na,os,ag,w⟩
  have J:=Inv.ofTry J' ok
  have sky':Sky B (X.env :: X.outer) a (Zc cls d) X.env.locals s'.heap:=by rw [← hs]; exact sky
  refine Sky.land Zc.steady hfr hf sky' fun h3 fl3 up3=>?_
  exact handle_run hs hf tk ok J nb na hh (s3:=⟨h3,s'.gens,s'.drawn,s'.toks,s'.os⟩) fl3 (up.trans up3) os ag w
 ·cases f with
  | next=>obtain ⟨σ2,H2,I2,q⟩:=hsp; exact wpAny_execs_nil ⟨σ2,H2,I2.ofTry ok,q⟩
  | brk=>obtain ⟨σ2,H2,I2,q⟩:=hsp; exact ⟨σ2,H2,I2.ofTry ok,q⟩
  | cont=>obtain ⟨σ2,H2,I2,q⟩:=hsp; exact ⟨σ2,H2,I2.ofTry ok,q⟩
  | ret u=>obtain ⟨v,σ2,H2,I2,r,q⟩:=hsp; exact ⟨v,σ2,H2,I2.ofTry ok,r,q⟩
end
structure CmOk (P:Program) (w:World) (K:PySem.W.Frag) (mg:Str→Option Value) (base:Heap) (C:Cl) (k:Nat) (x:Str) (c:Nat) (m:Str) (F:DE):Prop where
 at_:∃ mc p g fd ps,mg x=some (.ref (C.adr c))∧ClX.CRead K (C.adr c) mc∧ClX.CMet K (C.adr c) mc m p g∧FnOk P w K mg base (L2.CX P w) k g fd ps (spF K C F)∧Binds K fd ps []
section
variable {X:Cx} {k:Nat} {C p g:Addr} {fd:FuncData} {ps:List Str} {mc:Value} {sp:Sp} {W:WX} {o e:Expr} {es:List Expr} {m:Str} {pos apos:Pos} {ta:TE} {t:TA} {pl:Sem Bool}
end
section
variable {X:Cx} {C:Cl} {B:Bw} {W:WX} {k:Nat} {x m:Str} {c:Nat} {F:DE} {e:Expr} {es:List Expr} {fl:Ef (List RV)} {pos apos p:Pos} {pl:Sem Bool}
def dCm (c:Nat) (F:DE) (fl:Ef (List RV)):DE:=bindE fl fun rs=>gCallF F (.dat (.cls c) :: rs)
end
section
variable {X:Cx} {K:PySem.W.Frag} {C:Cl}
end
section
variable {X:Cx} {C:Cl} {B:Bw} {W:WX} {body:List Stmt} {g gh:DS} {c1 c2:Nat} {x1 x2:Str} {p1 p2 p3 pos hpos:Pos} {kk:Nat} {b₀:Stmt} {suite:List Stmt}
end
end Pl
namespace Pl
theorem exm_of {K:PySem.W.Frag} {t:PySem.Value} {c:PySem.Addr} {b:Bool} (h:PySem.W.subIn K (.ref c) (.type "BaseException")=some true) (h2:PySem.W.hasDictIn K c=true) (h3:PySem.W.typeIn K (.ref c)=some (.type "type")) (h4:PySem.W.subIn K t (.ref c)=some b):PySem.W.exmOne K t (.ref c)=some b:=by
 obtain ⟨cd,hc,_⟩:=PySem.W.any_some h2
 unfold PySem.W.exmOne
 rw [h,if_pos (by rfl)]
 show (if ((PySem.W.clsIn K c).isSome && PySem.W.typeIn K (.ref c) == some (.type "type"))=true then PySem.W.subIn K t (.ref c) else none)=_
 rw [h3,hc]
 exact (if_pos (by rfl)).trans h4
end Pl
namespace Pl
open PySem PySem.Spec PyProof.Rows L2 Tk
def gIxX (gt:Nat→Option DE) (r1 r2:RV):DE:=fun ρ=>match clsOf "__getitem__" r1 ρ with
 | some c=>match gt c with
  | some F=>gCallQ F [r1,r2] ρ
  | none=>none
 | none=>gIx r1 r2 ρ
section
variable {X:Cx} {C:Cl} {B:Bw} {W:WX} {k:Nat} {a b:Expr} {ta tb:TE} {fa fb:DE} {pos:Pos} {lt:Nat→Option DE}
@[simp] theorem ev_ixX (gt:Nat→Option DE) (r1 r2:RV) (ρ:Sl):gIxX gt r1 r2 ρ=(match clsOf "__getitem__" r1 ρ with
 | some c=>match gt c with
  | some F=>gCallQ F [r1,r2] ρ
  | none=>none
 | none=>gIx r1 r2 ρ):=rfl
end
def tgL (js:List Nat):D→Sl→Option Sl:=fun d ρ=>match d with
 | .lst ds=>setDs js ds ρ
 | _=>none
@[simp] theorem ev_tgL (js:List Nat) (ds:List D) (ρ:Sl):tgL js (.lst ds) ρ=setDs js ds ρ:=rfl
end Pl
namespace MD
open PySem PySem.Spec PyProof.Rows
section
variable {pr:Program} {wo:World} {Ar:Around} {Er:Value→Shared→Prop} {Re:Result→Shared→Prop} {it:Addr} {fps wrs:List Addr} {len:Nat} {Pi:Nat→Value→Prop} {Sta:Nat→Heap→Prop} {kwd:List (Str×Value)}
theorem nm:(toString "min" ++ toString ".loop" : String) = "min.loop" := by decide
theorem turns (Wk:Walks pr wo Ar.in1 it fps wrs len Pi Sta) (less:Nat→Nat→Bool) (cmp:CmpOf pr wo Ar.in1 .Lt Pi less) (cell:Addr) (off:cell∉fps):∀ (left at_:Nat) (st:Shared) (best:Value) (cap:Nat),
  len - (at_+1)=left→at_+1≤len→Sta (at_+1) st.heap→Pi (argBest less at_) best→st.heap.get? cell=some { cls:=.type "list",dict:=none,data:=.seq #[best,best] cap,slots:=#[] } →
  (∀ u g tk,Pi (argBest less (len - 1)) u→(∀ b o,b∉wrs→b≠cell→st.heap.get? b=some o→g.get? b=some o)→Re (.ok (.ret u)) { st with heap:=g,toks:=tk }) →
  codeAny (model pr wo) Ar (.builtin "min.loop" ⟨[.ref it,.none,.ref cell],kwd⟩) Re st:=by
 have offW:cell∉wrs:=fun z=>off (Wk.sub _ z)
 intro left
 induction left with
 | zero =>
  intro at_ st best cap e1 e2 s1 pb sc fin
  have ends:at_+1=len:=by omega
  refine codeAny_builtin (F.entry_min_loop) ?_
  rw [Around.under_plainId (F.plain_min_loop) _]
  show wpAny _ Ar.in1 (seqItems? (.ref cell) >>= _) _ _ st
  refine wpAny_bind (wpAny_seqItems sc rfl ?_)
  show wpAny _ Ar.in1 (tryCatch (pyNext (.ref it)) _ >>= _) _ _ st
  refine wpAny_bind (wpAny_tryCatch (Wk.done st _ _ (ends ▸ s1) fun g tk kp=>?_))
  have sc':=kp cell _ offW sc
  show wpAny _ Ar.in1 (updateSeq cell (fun _=>#[]) >>= _) _ _ _
  refine wpAny_bind (wpAny_updateSeq sc' rfl (wpAny_bind (wpAny_letGo (wpAny_pure ?_))))
  exact fin best _ tk (ends ▸ pb) fun b o n1 n2 e=>(Heap.get?_update_other _ _ (Ne.symm n2)).trans (kp b o n1 e)
 | succ left more =>
  intro at_ st best cap e1 e2 s1 pb sc fin
  have on:at_+1 < len:=by omega
  refine codeAny_builtin (F.entry_min_loop) ?_
  rw [Around.under_plainId (F.plain_min_loop) _]
  show wpAny _ Ar.in1 (seqItems? (.ref cell) >>= _) _ _ st
  refine wpAny_bind (wpAny_seqItems sc rfl ?_)
  show wpAny _ Ar.in1 (tryCatch (pyNext (.ref it)) _ >>= _) _ _ st
  refine wpAny_bind (wpAny_tryCatch (Wk.item (at_+1) st _ _ on s1 fun u g tk pu s2 kp=>?_))
  have sc':=kp cell _ offW sc
  show wpAny _ Ar.in1 (tryCatch (holding [u,u] (richCompare .Lt u best >>= _)) _ >>= _) _ _ _
  refine wpAny_bind (wpAny_tryCatch (wpAny_holding (wpAny_bind (cmp (at_+1) (argBest less at_) u best _ _ _ pu pb ?_))))
  refine wpAny_bind (wpAny_holding (wpAny_truthy_bool (wpAny_bind (wpAny_letGo (wpAny_pure ?_)))))
  cases lt:less (at_+1) (argBest less at_) with
  | true =>
   simp only [if_true]
   refine wpAny_bind (wpAny_updateSeq sc' rfl (wpAny_bind (wpAny_letGo ?_)))
   rw [nm]
   have same:Pi (argBest less (at_+1)) u:=by simp only [argBest,lt,if_true]; exact pu
   refine wpAny_pure ⟨plainId_quiet (F.plain_min_loop) _,more (at_+1) _ u _ (by omega) on (Wk.frame _ _ _ s2 fun b hb o e=>?_) same (Heap.get?_update_self _ sc' rfl) fun u' g' tk' pu' kp'=>?_⟩
   ·have ne:cell≠b:=fun z=>off (z ▸ hb)
    exact (Heap.get?_update_other _ _ ne).trans e
   ·exact fin u' g' tk' pu' fun b o n1 n2 e=>kp' b o n1 n2 ((Heap.get?_update_other _ _ (Ne.symm n2)).trans (kp b o n1 e))
  | false =>
   simp only [Bool.false_eq_true,if_false]
   refine wpAny_bind (wpAny_letGo ?_)
   rw [nm]
   have same:Pi (argBest less (at_+1)) best:=by simp only [argBest,lt,Bool.false_eq_true,if_false]; exact pb
   exact wpAny_pure ⟨plainId_quiet (F.plain_min_loop) _,more (at_+1) _ best cap (by omega) on s2 same sc' fun u' g' tk' pu' kp'=>fin u' g' tk' pu' fun b o n1 n2 e=>kp' b o n1 n2 (kp b o n1 e)⟩
theorem first (Wk:Walks pr wo Ar.in1 it fps wrs len Pi Sta) (less:Nat→Nat→Bool) (cmp:CmpOf pr wo Ar.in1 .Lt Pi less) (cell:Addr) (off:cell∉fps) (some_:0 < len) {st:Shared} {cap:Nat} (s0:Sta 0 st.heap)
  (sc:st.heap.get? cell=some { cls:=.type "list",dict:=none,data:=.seq #[] cap,slots:=#[] })
  (fin:∀ u g tk,Pi (argBest less (len - 1)) u→(∀ b o,b∉wrs→b≠cell→st.heap.get? b=some o→g.get? b=some o)→Re (.ok (.ret u)) { st with heap:=g,toks:=tk }) :
  codeAny (model pr wo) Ar (.builtin "min.loop" ⟨[.ref it,.none,.ref cell],kwd⟩) Re st:=by
 have offW:cell∉wrs:=fun z=>off (Wk.sub _ z)
 refine codeAny_builtin (F.entry_min_loop) ?_
 rw [Around.under_plainId (F.plain_min_loop) _]
 show wpAny _ Ar.in1 (seqItems? (.ref cell) >>= _) _ _ st
 refine wpAny_bind (wpAny_seqItems sc rfl ?_)
 show wpAny _ Ar.in1 (tryCatch (pyNext (.ref it)) _ >>= _) _ _ st
 refine wpAny_bind (wpAny_tryCatch (Wk.item 0 st _ _ some_ s0 fun u g tk pu s1 kp=>?_))
 have sc':=kp cell _ offW sc
 show wpAny _ Ar.in1 (updateSeq cell (fun _=>#[u,u]) >>= _) _ _ _
 refine wpAny_bind (wpAny_updateSeq sc' rfl ?_)
 rw [nm]
 refine wpAny_pure ⟨plainId_quiet (F.plain_min_loop) _,turns Wk less cmp cell off _ 0 _ u _ rfl some_ (Wk.frame _ _ _ s1 fun b hb o e=>?_) pu (Heap.get?_update_self _ sc' rfl) fun u' g' tk' pu' kp'=>?_⟩
 ·have ne:cell≠b:=fun z=>off (z ▸ hb)
  exact (Heap.get?_update_other _ _ ne).trans e
 ·exact fin u' g' tk' pu' fun b o n1 n2 e=>kp' b o n1 n2 ((Heap.get?_update_other _ _ (Ne.symm n2)).trans (kp b o n1 e))
end
section
variable {pr:Program} {wo:World} {Ar:Around} {Er:Value→Shared→Prop} {st:Shared}
end
end MD
namespace Pl
open PySem PySem.Spec PyProof.Rows L2 Tk
def minD (d:Int) (ns:List Int):Int:=if ns.length=0 then d else minI ns
def dMinD (f f':DE):DE:=bindE f (fun r=>bindE f' fun r' ρ=>match r.see ρ,r'.see ρ with
 | some (.lst l),some (.int d)=>(match wholes l with
  | some ns=>some (.ok (.dat (.int (minD d ns))) ρ)
  | none=>none)
 | _,_=>none)
@[simp] theorem ev_minD (f f':DE) (ρ:Sl):dMinD f f' ρ=bindE f (fun r=>bindE f' fun r' ρ=>match r.see ρ,r'.see ρ with
 | some (.lst l),some (.int d)=>(match wholes l with
  | some ns=>some (.ok (.dat (.int (minD d ns))) ρ)
  | none=>none)
 | _,_=>none) ρ:=rfl
section
variable {X:Cx} {C:Cl} {B:Bw} {W:WX} {e e':Expr} {f f':DE} {p pos kpos:Pos}
end
def deepF (S:DE→DE):Nat→DE
 | 0=>fun _=>none
 | n+1=>S (deepF S n)
theorem defOk_none {P:Program} {w:World} {K:PySem.W.Frag} {mg:Str→Option Value} {base:Heap} {C:Cl} {k:Nat} {x qual:Str} {st:Stmt} {f:Addr} {fd:FuncData} {ps:List Str} (F0:Fun K x qual st f fd) (hb:Binds K fd ps []) (mf:mg x=some (.ref f)):DefOk P w K mg base C k x ps (fun _=>none) :=
 ⟨f,fd,⟨fun vs H Q E ⟨_,_,_,q⟩=>q.elim,fun A outer s H args us vs Q E hr he hb hv ⟨_,_,_,q⟩=>q.elim⟩,hb,F0.kp,mf⟩
theorem deep_ok {P:Program} {w:World} {K:PySem.W.Frag} {mg:Str→Option Value} {base:Heap} {C:Cl} {x:Str} {ps:List Str} {S:DE→DE} {L0:Nat} (zero:DefOk P w K mg base C L0 x ps (fun _=>none))
  (step:∀ (j:Nat) (R:DE),DefOk P w K mg base C (L0+j) x ps R→DefOk P w K mg base C (L0+j+1) x ps (S R)):∀ n,DefOk P w K mg base C (L0+n) x ps (deepF S n)
 | 0=>zero
 | n+1=>step n _ (deep_ok zero step n)
end Pl
namespace L2
open PySem PySem.Spec PyProof.Rows
section
variable {X:Cx}
end
end L2
namespace Pl
open PySem PySem.Spec PyProof.Rows L2 Tk
def gMulT (r1 r2:RV):DE:=fun ρ=>match r1.see ρ,r2.see ρ with
 | some (.tup a),some (.int b)=>if decide (0 < a.length) && decide (0≤b) && decide (b≤1000) && decide (a.length≤10) then some (.ok (.dat (.tup (List.replicate b.toNat a).flatten)) ρ) else none
 | _,_=>none
@[simp] theorem ev_mulT (r1 r2:RV) (ρ:Sl):gMulT r1 r2 ρ=(match r1.see ρ,r2.see ρ with
 | some (.tup a),some (.int b)=>if decide (0 < a.length) && decide (0≤b) && decide (b≤1000) && decide (a.length≤10) then some (.ok (.dat (.tup (List.replicate b.toNat a).flatten)) ρ) else none
 | _,_=>none):=rfl
section
variable {X:Cx} {K:PySem.W.Frag} {C:Cl}
end
def keyOf:D→Option Key
 | .int i=>some (.inl i)
 | .str x=>some (.inr x)
 | _=>none
def pairsD:List D→Option (List (Key×D))
 | []=>some []
 | .tup [k,d] :: r=>match keyOf k,pairsD r with
  | some k,some ps=>some ((k,d) :: ps)
  | _,_=>none
 | _ :: _=>none
def dctL (ps:List (Key×D)):List (D×D):=ps.map fun p=>(KD p.1,p.2)
section
variable {K:PySem.W.Frag} {C:Cl} {B:Bw} {W:WX} {z:At0} {F H:Hp} {ρ:Sl} {σ:L2.St} {Q:VK}
theorem keyOf_rep {v:V} {d:D} {k:Key} (r:Rep K C F v d) (e:keyOf d=some k):v=kV k:=by
 cases d with
 | int i=>cases e; cases r; rfl
 | str x=>cases e; cases r; rfl
 | _=>cases e
theorem reps_KD {F:Hp}:∀ kvs:List (Key×V),Reps K C F (kvs.map fun p=>kV p.1) (kvs.map fun p=>KD p.1)
 | []=>.nil
 | (.inl i,v) :: r=>.cons (.int i) (reps_KD r)
 | (.inr x,v) :: r=>.cons (.str x) (reps_KD r)
def gDictOf:List RV→DE:=fun rs ρ=>match rs with
 | [r]=>match r.see ρ with
  | some (.lst l)=>match pairsD l with
   | some ps=>if (ps.map (·.1)).Nodup then some (.ok (.own (.dct .K (dctL ps))) ρ) else none
   | none=>none
  | _=>none
 | _=>none
def valD:List (D×D)→D→Option D
 | [],_=>none
 | p :: r,k=>match p.1,k with
  | .int i,.int j=>if i=j then some p.2 else valD r k
  | .str x,.str y=>if x=y then some p.2 else valD r k
  | .int _,.str _=>valD r k
  | .str _,.int _=>valD r k
  | _,_=>none
def dctOf:RV→Option (List (D×D))
 | .own (.dct .K l)=>some l
 | _=>none
def gDGet (r1 r2:RV):DE:=fun ρ=>match dctOf r1,r2.see ρ with
 | some l,some k=>match valD l k with
  | some d=>some (.ok (.dat d) ρ)
  | none=>none
 | _,_=>none
end
section
variable {X:Cx} {C:Cl} {B:Bw} {W:WX} {a b:Expr} {fa fb:DE} {pos:Pos}
end
@[simp] theorem ev_dget (r1 r2:RV) (ρ:Sl):gDGet r1 r2 ρ=(match dctOf r1,r2.see ρ with
 | some l,some k=>(match valD l k with
  | some d=>some (.ok (.dat d) ρ)
  | none=>none)
 | _,_=>none):=rfl
@[simp] theorem dctOf_own (l:List (D×D)):dctOf (.own (.dct .K l))=some l:=rfl
@[simp] theorem ev_dictOf (r:RV) (ρ:Sl):gDictOf [r] ρ=(match r.see ρ with
 | some (.lst l)=>(match pairsD l with
  | some ps=>if (ps.map (·.1)).Nodup then some (.ok (.own (.dct .K (dctL ps))) ρ) else none
  | none=>none)
 | _=>none):=rfl
def loopL (vs:List Nat) (tg:D→Sl→Option Sl) (ft:Ef Bool) (fe:DE):List D→List (List D)→DE
 | [],acc,ρ=>some (.ok (.own (.lls acc)) ρ)
 | d :: r,acc,ρ=>match tg d ρ with
  | none=>none
  | some ρ1=>match ft ρ1 with
   | some (.ok true ρ2)=>match fe ρ2 with
    | some (.ok (.own (.lst e)) ρ3)=>if acc.length < 10000 then loopL vs tg ft fe r (acc++[e]) (wipeR ρ3 vs) else none
    | _=>none
   | some (.ok false ρ2)=>loopL vs tg ft fe r acc (wipeR ρ2 vs)
   | _=>none
section
variable {K:PySem.W.Frag} {C:Cl} {B:Bw} {W:WX} {z:At0} {F H:Hp} {ρ:Sl} {σ:L2.St}
structure InL (K:PySem.W.Frag) (C:Cl) (B:Bw) (z:At0) (F1:Hp) (L:Addr) (ρ:Sl) (σ:L2.St) (F H:Hp) (acc:List (List D)):Prop where
 post:Post K C B z ρ F σ H
 mono:Same F1 F
 free:F L=none
 no:¬ Held ρ σ H L
 at_:∃ as:List Addr,H L=some (.lst (as.map .ref))∧(L :: as).Nodup∧Lists K C F H as acc∧∀ x∈as,¬ Held ρ σ H x∧(z.S x∨z.H x=none)
variable {F1 F2 H2:Hp} {L:Addr} {ρ2:Sl} {σ2:L2.St} {acc:List (List D)}
end
section
variable {X:Cx} {C:Cl} {B:Bw} {W:WX} {elt tg iter:Expr} {ifs:List Expr} {scope:Scope} {own:List (Str×Nat)} {pos spos py:Pos} {fi:Ef Wk} {h:D→Sl→Option Sl} {ft:Ef Bool} {fe:DE} {js:List Nat} {y:Str} {i np:Nat}
end
def PJ (X:Cx) (C:Cl) (B:Bw) (e:Expr) (g:Sl→Option Int):Prop:=∃ t:TE,PE X e t∧∀ {ρ:Sl} {F:Hp} {σ:L2.St} {H:Hp} {n:Int} {Q:VK},RepSt X.K C B ρ F σ H→g ρ=some n→Q (.int n) H→t σ H Q
section
variable {X:Cx} {C:Cl} {B:Bw} {W:WX}
theorem Lists.set {K:PySem.W.Frag} {F H:Hp} {b:Addr} {vs:List V} {l:List D}:∀ {as:List Addr} {ls:List (List D)} {i:Nat},Lists K C F H as ls→as.Nodup→as[i]?=some b→Reps K C F vs l→Lists K C F (upd H b (.lst vs)) as (ls.set i l)
 | _,_,_,.nil,_,e,_=>by simp at e
 | a :: as,_,0,.cons n e' r' t,nd,e,r=>by
  simp at e
  subst e
  rw [List.nodup_cons] at nd
  refine .cons n upd_same r (t.to (Same.refl _) fun x hx=>⟨upd_ne fun w=>nd.1 (w ▸ hx),(t.at hx).1⟩)
 | a :: as,_,i+1,.cons n e' r' t,nd,e,r=>by
  rw [List.nodup_cons] at nd
  have e:as[i]?=some b:=by simpa using e
  have ne:a≠b:=fun w=>nd.1 (w ▸ List.mem_of_getElem? e)
  exact .cons n ((upd_ne ne).trans e') r' (t.set nd.2 e r)
variable {e ei ej:Expr} {f:DE} {gi gj:Sl→Option Int} {x:Str} {s:Nat} {px p1 pos pos':Pos}
end
def hStrS:D→Option D
 | .str x=>some (.str x)
 | d=>hStr d
@[simp] theorem hStrS_str (x:Str):hStrS (.str x)=some (.str x):=rfl
def sAug2 (s:Nat) (gi gj ge:Sl→Option Int):DS:=fun ρ=>match ρ[s]?,gi ρ,gj ρ,ge ρ with
 | some (some (.own (.lls l))),some a,some b,some m=>(match ixN l.length a with
  | some i=>(match l[i]? with
   | some row=>(match ixN row.length b with
    | some j=>(match row[j]? with
     | some (.int n)=>some (.nx (ρ.set s (some (.own (.lls (l.set i (row.set j (.int (n+m)))))))))
     | _=>none)
    | none=>none)
   | none=>none)
  | none=>none)
 | _,_,_,_=>none
section
variable {X:Cx} {C:Cl} {B:Bw} {W:WX} {e ei ej:Expr} {gi gj ge:Sl→Option Int} {x:Str} {s:Nat} {px p1 pos pos':Pos}
end
structure FmtK (K:PySem.W.Frag) (Cc:Addr):Prop where
 fm:PySem.W.findIn K (.ref Cc) "__format__" = some (some (.builtin "object.__format__"))
 mro:PySem.W.mroIn K Cc (.type "object")=some true
section
variable {X:Cx} {C:Cl} {B:Bw} {W:WX} {k:Nat}
def gFmt (lt:Nat→Option DE) (r:RV):DE:=fun ρ=>match clsOf "__str__" r ρ with
 | some c=>match lt c with
  | some F=>match gCallQ F [r] ρ with
   | some (.ok (.dat (.str x)) ρ')=>some (.ok (.dat (.str x)) ρ')
   | _=>none
  | none=>none
 | none=>match r.see ρ with
  | some (.str x)=>if x.length≤sizeLine then some (.ok (.dat (.str x)) ρ) else none
  | some (.int i)=>if i.natAbs.log2 < 1920 then some (.ok (.dat (.str (toString i))) ρ) else none
  | _=>none
def dFmt (lt:Nat→Option DE) (f:DE):DE:=bindE f (gFmt lt)
def dJs:List DE→Str→DE
 | [],acc=>retE (.dat (.str acc))
 | f :: fs,acc=>bindE f fun r ρ=>match r with
  | .dat (.str y)=>if (acc++y).length≤sizeLine then dJs fs (acc++y) ρ else none
  | _=>none
inductive PDJ (X:Cx) (C:Cl) (B:Bw) (W:WX):List Expr→List DE→Prop where
 | nil:PDJ X C B W [] []
 | cons {e:Expr} {f:DE} {es:List Expr} {fs:List DE} (h:PD X C B W e f) (r:PDJ X C B W es fs):PDJ X C B W (e :: es) (f :: fs)
theorem PDJ.to:∀ {es:List Expr} {fs:List DE},PDJ X C B W es fs→L2.PJ X es (fs.map (tD X.K C B W))
 | _,_,.nil=>.nil
 | _,_,.cons h r=>.cons h r.to
end
def dStar (f:DE) (fl:Ef (List RV)):Ef (List RV):=bindE f fun r ρ=>match r.items ρ with
 | some ds=>bindE fl (fun rs=>retE (ds.map RV.dat++rs)) ρ
 | none=>none
@[simp] theorem ev_star (f:DE) (fl:Ef (List RV)) (ρ:Sl):dStar f fl ρ=bindE f (fun r ρ=>match r.items ρ with
 | some ds=>bindE fl (fun rs=>retE (ds.map RV.dat++rs)) ρ
 | none=>none) ρ:=rfl
@[simp] theorem ev_fmt (lt:Nat→Option DE) (f:DE) (ρ:Sl):dFmt lt f ρ=bindE f (gFmt lt) ρ:=rfl
@[simp] theorem ev_gFmt (lt:Nat→Option DE) (r:RV) (ρ:Sl):gFmt lt r ρ=(match clsOf "__str__" r ρ with
 | some c=>match lt c with
  | some F=>match gCallQ F [r] ρ with
   | some (.ok (.dat (.str x)) ρ')=>some (.ok (.dat (.str x)) ρ')
   | _=>none
  | none=>none
 | none=>match r.see ρ with
  | some (.str x)=>if x.length≤sizeLine then some (.ok (.dat (.str x)) ρ) else none
  | some (.int i)=>if i.natAbs.log2 < 1920 then some (.ok (.dat (.str (toString i))) ρ) else none
  | _=>none):=rfl
@[simp] theorem ev_js_nil (acc:Str) (ρ:Sl):dJs [] acc ρ=some (.ok (.dat (.str acc)) ρ):=rfl
@[simp] theorem ev_js_cons (f:DE) (fs:List DE) (acc:Str) (ρ:Sl):dJs (f :: fs) acc ρ=bindE f (fun r ρ=>match r with
  | .dat (.str y)=>if (acc++y).length≤sizeLine then dJs fs (acc++y) ρ else none
  | _=>none) ρ:=rfl
@[simp] theorem ev_aug2 (s:Nat) (gi gj ge:Sl→Option Int) (ρ:Sl):sAug2 s gi gj ge ρ=(match ρ[s]?,gi ρ,gj ρ,ge ρ with
 | some (some (.own (.lls l))),some a,some b,some m=>(match ixN l.length a with
  | some i=>(match l[i]? with
   | some row=>(match ixN row.length b with
    | some j=>(match row[j]? with
     | some (.int n)=>some (.nx (ρ.set s (some (.own (.lls (l.set i (row.set j (.int (n+m)))))))))
     | _=>none)
    | none=>none)
   | none=>none)
  | none=>none)
 | _,_,_,_=>none):=rfl
structure NoIadd (K:PySem.W.Frag) (C:Addr):Prop where
 two:∃ cd,PySem.W.clsIn K C=some cd∧cd.mro=[.ref C,.type "object"]
 no:PySem.W.findIn K (.ref C) "__iadd__" = some none
section
open PySem.W PySem.Calls
end
section
variable {X:Cx} {C:Cl} {B:Bw} {W:WX} {k:Nat} {e:Expr} {f:DE} {pos pos':Pos}
def sAugX (i:Nat) (lt:Nat→Option DE) (f:DE):DS:=fun ρ=>match ρ[i]? with
 | some (some (.dat (.obj _ _)))=>bindS f (fun r ρ'=>match clsOf "__add__" (.bor i) ρ' with
  | some c=>match lt c with
   | some F=>if clsOf "__add__" r ρ'=some c then match gCallQ F [.bor i,r] ρ' with
     | some (.ok (.dat (.obj c' l)) ρ'')=>some (.nx (ρ''.set i (some (.dat (.obj c' l)))))
     | _=>none
    else none
   | none=>none
  | none=>none) ρ
 | _=>none
@[simp] theorem ev_augX (i:Nat) (lt:Nat→Option DE) (f:DE) (ρ:Sl):sAugX i lt f ρ=(match ρ[i]? with
 | some (some (.dat (.obj _ _)))=>bindS f (fun r ρ'=>match clsOf "__add__" (.bor i) ρ' with
  | some c=>match lt c with
   | some F=>if clsOf "__add__" r ρ'=some c then match gCallQ F [.bor i,r] ρ' with
     | some (.ok (.dat (.obj c' l)) ρ'')=>some (.nx (ρ''.set i (some (.dat (.obj c' l)))))
     | _=>none
    else none
   | none=>none
  | none=>none) ρ
 | _=>none):=rfl
end
def dIx2 (s:Nat) (gi gj:Sl→Option Int):DE:=fun ρ=>match ρ[s]?,gi ρ,gj ρ with
 | some (some (.own (.lls l))),some a,some b=>(match ixN l.length a with
  | some i=>(match l[i]? with
   | some row=>(match ixN row.length b with
    | some j=>(match row[j]? with
     | some d=>some (.ok (.dat d) ρ)
     | none=>none)
    | none=>none)
   | none=>none)
  | none=>none)
 | _,_,_=>none
@[simp] theorem ev_ix2 (s:Nat) (gi gj:Sl→Option Int) (ρ:Sl):dIx2 s gi gj ρ=(match ρ[s]?,gi ρ,gj ρ with
 | some (some (.own (.lls l))),some a,some b=>(match ixN l.length a with
  | some i=>(match l[i]? with
   | some row=>(match ixN row.length b with
    | some j=>(match row[j]? with
     | some d=>some (.ok (.dat d) ρ)
     | none=>none)
    | none=>none)
   | none=>none)
  | none=>none)
 | _,_,_=>none):=rfl
section
variable {K:PySem.W.Frag} {C:Cl} {B:Bw} {z:At0} {F H H':Hp} {ρ:Sl} {σ:L2.St}
end
def isTrue2:Option (Res RV)→Bool
 | some (.ok (.dat (.bl true)) _)=>true
 | _=>false
def flatQ:D→D→Bool
 | .str x,.str y=>decide (x=y)
 | .int x,.int y=>decide (x=y)
 | .bl x,.bl y=>decide (x=y)
 | .non,.non=>true
 | _,_=>false
def eqO (lt:Nat→Option DE):Nat→D→D→Bool
 | n+1,.tup l,.tup l'=>decide (l.length=l'.length) && (l.zip l').all fun p=>eqO lt n p.1 p.2
 | _+1,.obj c l,.obj c' l'=>decide (c=c') && match lt c with
  | some F=>isTrue2 (F [some (.dat (.obj c l)),some (.dat (.obj c' l'))])
  | none=>false
 | _,a,b=>flatQ a b
section
variable {X:Cx} {C:Cl} {k:Nat} {lt:Nat→Option DE}
def gEqQ (lt:Nat→Option DE) (n:Nat) (g0:RV→RV→DE) (r1 r2:RV):DE:=fun ρ=>match g0 r1 r2 ρ with
 | some x=>some x
 | none=>match r1.see ρ,r2.see ρ with
  | some (.tup l),some (.tup l')=>if eqO lt (n+1) (.tup l) (.tup l')=true then some (.ok (.dat (.bl true)) ρ) else none
  | _,_=>none
@[simp] theorem ev_eqQ (lt:Nat→Option DE) (n:Nat) (g0:RV→RV→DE) (r1 r2:RV) (ρ:Sl):gEqQ lt n g0 r1 r2 ρ=(match g0 r1 r2 ρ with
 | some x=>some x
 | none=>match r1.see ρ,r2.see ρ with
  | some (.tup l),some (.tup l')=>if eqO lt (n+1) (.tup l) (.tup l')=true then some (.ok (.dat (.bl true)) ρ) else none
  | _,_=>none):=rfl
end
end Pl
namespace Ns
open PySem PySem.Spec PyProof.Rows L2 Pl
abbrev EN:=NestedKey×Addr×V
abbrev EM:=NestedKey×Addr×Value
def valN (L:List EN) (k:NestedKey):Option V:=(L.find? fun x=>decide (x.1=k)).map (·.2.2)
def putN (L:List EN) (k:NestedKey) (q:Addr) (v:V):List EN:=if (valN L k).isSome then L.map (fun x=>if x.1=k then (x.1,x.2.1,v) else x) else L++[(k,q,v)]
def KeyAt (K:PySem.W.Frag) (H:Hp) (k:NestedKey) (q:Addr):Prop:=Dp K H (.ref q) k.data∧tupKey k=true
theorem tupKey_depth {k:NestedKey} (h:tupKey k=true):k.depth≤8:=by
 cases k with
 | tup l=>exact of_decide_eq_true h
 | _=>cases h
section
variable {L:List EN} {xs:List EM}
end
section
variable {X:Cx} {pins:List (Addr×Obj)} {σ:L2.St} {H:Hp} {s:Shared} {a:Addr} {u r:Value} {y v:V} {A:Around} {E:Value→Shared→Prop} {L:List EN} {o:Option V}
def NGet (K:PySem.W.Frag) (w:World) (H:Hp) (a:Addr) (y:V) (o:Option V):Prop:=∃ L k q,Rd H a (DN w a L)∧(∀ x∈L,KeyAt K H x.1 x.2.1)∧y=.ref q∧KeyAt K H k q∧o=valN L k
def NPut (K:PySem.W.Frag) (w:World) (H:Hp) (a:Addr) (y v:V) (H':Hp):Prop:=∃ L k q,H a=some (DN w a L)∧(∀ x∈L,KeyAt K H x.1 x.2.1)∧y=.ref q∧KeyAt K H k q∧L.length < sizeLine∧H'=upd H a (DN w a (putN L k q v))
def XGet (K:PySem.W.Frag) (w:World) (H:Hp) (a:Addr) (y:V) (o:Option V):Prop:=DGet H a y o∨NGet K w H a y o
def XPut (K:PySem.W.Frag) (w:World) (H:Hp) (a:Addr) (y v:V) (H':Hp):Prop:=DPut H a y v H'∨NPut K w H a y v H'
end
section
variable {X:Cx} {o i e value:Expr} {pos pos' tpos:Pos} {td ty tv:TE}
end
end Ns
namespace Pl
open PySem PySem.Spec PyProof.Rows L2 Tk Ns
mutual
def kEq:D→D→Bool
 | .int i,.int j=>decide (i=j)
 | .str x,.str y=>decide (x=y)
 | .tup a,.tup b=>ksEq a b
 | _,_=>false
def ksEq:List D→List D→Bool
 | [],[]=>true
 | a :: as,b :: bs=>kEq a b && ksEq as bs
 | _,_=>false
end
mutual
theorem kEq_nest:∀ (a b:D) (k k':NestedKey),nestD a=some k→nestD b=some k'→kEq a b=decide (k=k')
 | .int i,b,k,k',h,h'=>by
  cases b with
  | int j=>cases h; cases h'; simp [kEq]
  | str y=>cases h; cases h'; simp [kEq]
  | tup l =>
   cases h
   unfold nestD at h'
   cases e:nestsD l with
   | none=>rw [e] at h'; cases h'
   | some ks=>rw [e] at h'; cases h'; simp [kEq]
  | _=>cases h'
 | .str x,b,k,k',h,h'=>by
  cases b with
  | int j=>cases h; cases h'; simp [kEq]
  | str y=>cases h; cases h'; simp [kEq]
  | tup l =>
   cases h
   unfold nestD at h'
   cases e:nestsD l with
   | none=>rw [e] at h'; cases h'
   | some ks=>rw [e] at h'; cases h'; simp [kEq]
  | _=>cases h'
 | .tup a,b,k,k',h,h'=>by
  unfold nestD at h
  cases ea:nestsD a with
  | none=>rw [ea] at h; cases h
  | some ks =>
   rw [ea] at h
   cases h
   cases b with
   | int j=>cases h'; simp [kEq]
   | str y=>cases h'; simp [kEq]
   | tup l =>
    unfold nestD at h'
    cases e:nestsD l with
    | none=>rw [e] at h'; cases h'
    | some ks' =>
     rw [e] at h'
     cases h'
     rw [kEq,ksEq_nest a l ks ks' ea e]
     simp
   | _=>cases h'
 | .non,_,_,_,h,_=>by cases h
 | .bl _,_,_,_,h,_=>by cases h
 | .lst _,_,_,_,h,_=>by cases h
 | .wri _,_,_,_,h,_=>by cases h
 | .obj _ _,_,_,_,h,_=>by cases h
 | .ty _,_,_,_,h,_=>by cases h
 | .cls _,_,_,_,h,_=>by cases h
 | .dic _ _ _,_,_,_,h,_=>by cases h
theorem ksEq_nest:∀ (a b:List D) (k k':List NestedKey),nestsD a=some k→nestsD b=some k'→ksEq a b=decide (k=k')
 | [],[],_,_,h,h'=>by cases h; cases h'; simp [ksEq]
 | [],b :: bs,_,_,h,h'=>by
  cases h
  unfold nestsD at h'
  split at h'
  ·cases h'; simp [ksEq]
  ·cases h'
 | a :: as,[],_,_,h,h'=>by
  cases h'
  unfold nestsD at h
  split at h
  ·cases h; simp [ksEq]
  ·cases h
 | a :: as,b :: bs,_,_,h,h'=>by
  unfold nestsD at h h'
  split at h
  ·rename_i k1 ks1 e1 e2
   split at h'
   ·rename_i k2 ks2 e3 e4
    cases h
    cases h'
    rw [ksEq,kEq_nest a b k1 k2 e1 e3,ksEq_nest as bs ks1 ks2 e2 e4]
    by_cases c:k1=k2 <;> simp [c]
   ·cases h'
  ·cases h
end
theorem kEq_key {a b:D} {k k':Key} (h:keyOf a=some k) (h':keyOf b=some k'):kEq a b=decide (k=k'):=by
 cases a <;> cases b <;> first
  | (cases h; done)
  | (cases h'; done)
  | (cases h; cases h'; simp [kEq])
theorem keyOf_KD (k:Key):keyOf (KD k)=some k:=by cases k <;> rfl
theorem KD_keyOf {d:D} {k:Key} (h:keyOf d=some k):d=KD k:=by cases d <;> first | (cases h; done) | (cases h; rfl)
def keyOk (k:KK) (d:D):Bool:=match k with
 | .K=>(keyOf d).isSome
 | .T=>match nestD d with
  | some n=>tupKey n
  | none=>false
def dGet (l:List (D×D)) (y:D):Option D:=(l.find? fun p=>kEq p.1 y).map (·.2)
def dPut (l:List (D×D)) (y v:D):List (D×D):=if (dGet l y).isSome then l.map (fun p=>if kEq p.1 y then (p.1,v) else p) else l++[(y,v)]
def dicOf (r:RV) (ρ:Sl):Option (KK×List (D×D)):=match r with
 | .dat (.dic k ks vs)=>some (k,ks.zip vs)
 | .own (.dct k l)=>some (k,l)
 | .bor i=>match ρ[i]? with
  | some (some (.dat (.dic k ks vs)))=>some (k,ks.zip vs)
  | some (some (.own (.dct k l)))=>some (k,l)
  | some (some (.lck (.dct k l)))=>some (k,l)
  | _=>none
 | .shr i=>match ρ[i]? with
  | some (some (.dat (.dic k ks vs)))=>some (k,ks.zip vs)
  | some (some (.own (.dct k l)))=>some (k,l)
  | some (some (.lck (.dct k l)))=>some (k,l)
  | _=>none
 | _=>none
def OptRep (K:PySem.W.Frag) (C:Cl) (F:Hp):Option V→Option D→Prop
 | some v,some d=>Rep K C F v d
 | none,none=>True
 | _,_=>False
def DicHere (K:PySem.W.Frag) (C:Cl) (F H:Hp) (k:KK) (l:List (D×D)) (a:Addr):Prop:=∃ u ps,Rd H a u∧DictIs C.w k u a ps∧ps.map (·.1)=l.map (·.1)∧Reps K C F (ps.map (·.2.1)) (l.map (·.1))∧Reps K C F (ps.map (·.2.2)) (l.map (·.2))
section
variable {K:PySem.W.Frag} {C:Cl} {B:Bw} {W:WX} {z:At0} {F H:Hp} {ρ:Sl} {σ:L2.St} {Q:VK}
theorem zipD_fst:∀ {ks vs:List D},ks.length=vs.length→(ks.zip vs).map (·.1)=ks
 | [],[],_=>rfl
 | [],_ :: _,h=>by cases h
 | _ :: _,[],h=>by cases h
 | k :: ks,v :: vs,h=>by rw [List.zip_cons_cons,List.map_cons,zipD_fst (by simpa using h)]
theorem zipD_snd:∀ {ks vs:List D},ks.length=vs.length→(ks.zip vs).map (·.2)=vs
 | [],[],_=>rfl
 | [],_ :: _,h=>by cases h
 | _ :: _,[],h=>by cases h
 | k :: ks,v :: vs,h=>by rw [List.zip_cons_cons,List.map_cons,zipD_snd (by simpa using h)]
theorem Rep.dicHere {v:V} {k:KK} {ks vs:List D} (h:Rep K C F v (.dic k ks vs)) (s:Same F H):∃ a,v=.ref a∧DicHere K C F H k (ks.zip vs) a∧ks.length=vs.length:=by
 cases h with
 | dic e i n r q =>
  rename_i p od u ps
  have le:ks.length=vs.length:=by
   have a:=r.length
   have b:=q.length
   rw [List.length_map] at a b
   omega
  exact ⟨p,rfl,⟨u,ps,.inr ⟨od,s _ _ e⟩,i,by rw [zipD_fst le]; exact n,by rw [zipD_fst le]; exact r,by rw [zipD_snd le]; exact q⟩,le⟩
theorem RepM.dicHere {a:Addr} {k:KK} {l:List (D×D)} (h:RepM K C F H a (.dct k l)):DicHere K C F H k l a:=by
 obtain ⟨n,ps,⟨u,e,_,i⟩,q,r1,r2⟩:=h
 exact ⟨u,ps,.inl e,i,q,r1,r2⟩
theorem nest_ref {v:V} {d:D} {k:NestedKey} (r:Rep K C F v d) (e:nestD d=some k) {q:Addr} (ev:v=.ref q):∃ ks,k=.tup ks:=by
 subst ev
 cases d with
 | int i=>cases r
 | str x=>cases r
 | tup l =>
  unfold nestD at e
  obtain ⟨ks,_,rfl⟩:=Option.map_eq_some_iff.mp e
  exact ⟨ks,rfl⟩
 | _=>cases e
theorem keyAt_of {v:V} {d:D} {k:NestedKey} (r:Rep K C H v d) (e:nestD d=some k) (t:tupKey k=true):∃ q,v=.ref q∧KeyAt K H k q:=by
 obtain ⟨p1,p2⟩:=nest_py d k e
 have dp:=Rep.dp d v r p1
 rw [p2] at dp
 cases d with
 | int i=>cases e; cases t
 | str x=>cases e; cases t
 | tup l =>
  cases r with
  | tup q rs=>exact ⟨_,rfl,dp,t⟩
 | _=>cases e
theorem getK {y:D} {kk:Key} (hy:keyOf y=some kk):∀ {kvs:List (Key×V)} {l:List (D×D)},kvs.map (fun p=>KD p.1)=l.map (·.1)→Reps K C F (kvs.map (·.2)) (l.map (·.2))→OptRep K C F (valV kvs kk) (dGet l y)
 | [],[],_,_=>True.intro
 | [],_ :: _,h,_=>by cases h
 | _ :: _,[],h,_=>by cases h
 | p :: kvs,q :: l,h,r=>by
  rw [List.map_cons,List.map_cons] at h r
  injection h with h1 h2
  cases r with
  | cons rv rt =>
   have ih:=getK hy h2 rt
   unfold dGet at ih ⊢
   rw [List.find?_cons,← h1,kEq_key (keyOf_KD p.1) hy]
   by_cases c:p.1=kk
   ·rw [decide_eq_true c,valV_pos c]
    exact rv
   ·rw [decide_eq_false c,valV_neg c]
    exact ih
theorem getN {y:D} {nk:NestedKey} (hy:nestD y=some nk):∀ {L:List EN} {ps:List (D×V×V)} {l:List (D×D)},ps.map (fun p=>(nestD p.1,p.2.1,p.2.2))=L.map (fun x=>(some x.1,V.ref x.2.1,x.2.2))→ps.map (·.1)=l.map (·.1)→Reps K C F (ps.map (·.2.2)) (l.map (·.2))→OptRep K C F (valN L nk) (dGet l y)
 | [],[],[],_,_,_=>True.intro
 | _ :: _,[],_,h,_,_=>by cases h
 | [],_ :: _,_,h,_,_=>by cases h
 | _,[],_ :: _,_,h,_=>by cases h
 | _,_ :: _,[],_,h,_=>by cases h
 | x :: L,p :: ps,q :: l,h,g,r=>by
  rw [List.map_cons,List.map_cons] at h g r
  injection h with h1 h2
  injection g with g1 g2
  injection h1 with e1 h1
  injection h1 with e2 e3
  cases r with
  | cons rv rt =>
   have ih:=getN hy h2 g2 rt
   unfold dGet at ih ⊢
   unfold valN at ih ⊢
   rw [List.find?_cons,List.find?_cons,← g1,kEq_nest p.1 y x.1 nk e1 hy]
   by_cases c:x.1=nk
   ·rw [decide_eq_true c]
    show OptRep K C F (some x.2.2) (some q.2)
    rw [← e3]
    exact rv
   ·rw [decide_eq_false c]
    exact ih
theorem keysAt {w:World} {L:List EN} {ps:List (D×V×V)} {ks:List D} (hd:∀ x∈L,x.1.depth≤8) (h:ps.map (fun p=>(nestD p.1,p.2.1,p.2.2))=L.map (fun x=>(some x.1,V.ref x.2.1,x.2.2))) (g:ps.map (·.1)=ks) (r:Reps K C H (ps.map (·.2.1)) ks):∀ x∈L,KeyAt K H x.1 x.2.1:=by
 subst g
 induction L generalizing ps with
 | nil=>intro x hx; cases hx
 | cons y L ih =>
  cases ps with
  | nil=>cases h
  | cons p ps =>
   rw [List.map_cons,List.map_cons] at h r
   injection h with h1 h2
   injection h1 with e1 h1
   injection h1 with e2 e3
   cases r with
   | cons rv rt =>
    intro x hx
    rcases List.mem_cons.mp hx with rfl | hx
    ·obtain ⟨js,ej⟩:=nest_ref rv e1 e2
     obtain ⟨q,eq,ka⟩:=keyAt_of rv e1 (by rw [ej]; exact decide_eq_true (by have:=hd x List.mem_cons_self; rw [ej] at this; exact this))
     rw [e2] at eq
     cases eq
     exact ka
    ·exact ih (fun x hx=>hd x (List.mem_cons_of_mem _ hx)) h2 rt x hx
theorem DicHere.get {k:KK} {l:List (D×D)} {a:Addr} (h:DicHere K C F H k l a) (s:Same F H) {y:D} {v:V} (rv:Rep K C H v y) (ok:keyOk k y=true):∃ o,XGet K C.w H a v o∧OptRep K C F o (dGet l y):=by
 obtain ⟨u,ps,rd,di,e1,r1,r2⟩:=h
 cases k with
 | K =>
  obtain ⟨kvs,rfl,rfl⟩:=di
  rw [List.map_map] at e1 r1 r2
  obtain ⟨kk,hk⟩:=Option.isSome_iff_exists.mp ok
  have:=keyOf_rep rv hk
  subst this
  exact ⟨_,.inl (.inl ⟨kvs,kk,rd,rfl,rfl⟩),getK hk e1 r2⟩
 | T =>
  obtain ⟨L,rfl,hd,hm⟩:=di
  cases hn:nestD y with
  | none=>unfold keyOk at ok; rw [hn] at ok; cases ok
  | some nk =>
   have ok:tupKey nk=true:=by unfold keyOk at ok; rw [hn] at ok; exact ok
   obtain ⟨q,rfl,ka⟩:=keyAt_of rv hn ok
   exact ⟨_,.inr ⟨L,nk,q,rd,keysAt (w:=C.w) hd hm e1 (r1.to s),rfl,ka,rfl⟩,getN hn hm e1 r2⟩
end
def gLook (r1 r2:RV):DE:=fun ρ=>match dicOf r1 ρ,r2.see ρ with
 | some (k,l),some y=>if keyOk k y then match dGet l y with
   | some d=>some (.ok (.dat d) ρ)
   | none=>none
  else none
 | _,_=>none
def gDIn (r1 r2:RV):DE:=fun ρ=>match r1.see ρ,dicOf r2 ρ with
 | some y,some (k,l)=>if keyOk k y then some (.ok (.dat (.bl (dGet l y).isSome)) ρ) else none
 | _,_=>none
def gDNotIn (r1 r2:RV):DE:=fun ρ=>match r1.see ρ,dicOf r2 ρ with
 | some y,some (k,l)=>if keyOk k y then some (.ok (.dat (.bl !(dGet l y).isSome)) ρ) else none
 | _,_=>none
section
variable {K:PySem.W.Frag} {C:Cl} {B:Bw} {W:WX} {z:At0} {F H:Hp} {ρ:Sl} {σ:L2.St} {Q:VK}
theorem OptRep.isSome {o:Option V} {d:Option D} (h:OptRep K C F o d):o.isSome=d.isSome:=by
 cases o <;> cases d <;> first | rfl | exact h.elim
end
section
variable {X:Cx} {C:Cl} {B:Bw} {W:WX} {a b:Expr} {fa fb:DE} {pos:Pos}
end
end Pl
namespace Ns
open PySem PySem.Spec PyProof.Rows L2 Pl
section
variable {X:Cx} {pins:List (Addr×Obj)} {σ:L2.St} {H:Hp} {s:Shared} {d:Addr} {od:Obj} {u:HO} {k:KK} {ps:List (D×V×V)}
end
section
variable {P:Program} {w:World} {K:PySem.W.Frag} {tg:Expr} {d:Addr} {od:Obj} {u:HO} {es:Array DictEntry} {ep:Nat} {k:KK} {ps:List (D×V×V)}
end
section
variable {X:Cx} {tg e:Expr} {td:TE} {apos cpos:Pos}
end
end Ns
namespace Pl
open PySem PySem.Spec PyProof.Rows L2 Tk Ns
section
variable {K:PySem.W.Frag} {C:Cl} {B:Bw} {W:WX} {z:At0} {F H:Hp} {ρ:Sl} {σ:L2.St} {Q:VK}
end
def lockR (r:RV):DE:=fun ρ=>match r with
 | .own (.dct k l)=>some (.ok (.dat (.dic k (l.map (·.1)) (l.map (·.2)))) ρ)
 | .own (.dls k l)=>some (.ok (.dat (.dic k (l.map (·.1)) (l.map fun p=>.lst p.2))) ρ)
 | .bor i=>match ρ[i]? with
  | some (some (.own (.dct k l)))=>some (.ok (.dat (.dic k (l.map (·.1)) (l.map (·.2)))) (ρ.set i (some (.dat (.dic k (l.map (·.1)) (l.map (·.2)))))))
  | some (some (.own (.dls k l)))=>some (.ok (.dat (.dic k (l.map (·.1)) (l.map fun p=>.lst p.2))) (ρ.set i (some (.dat (.dic k (l.map (·.1)) (l.map fun p=>.lst p.2))))))
  | _=>some (.ok r ρ)
 | _=>some (.ok r ρ)
def lockE (f:DE):DE:=bindE f lockR
section
variable {X:Cx} {C:Cl} {B:Bw} {W:WX} {e:Expr} {f:DE}
end
section
variable {K:PySem.W.Frag} {C:Cl} {F:Hp} {y:D}
abbrev repD (y d:D) (p:D×D):D×D:=if kEq p.1 y then (p.1,d) else p
theorem repD_fst (y d:D):∀ l:List (D×D),(l.map (repD y d)).map (·.1)=l.map (·.1)
 | []=>rfl
 | p :: l=>by
  rw [List.map_cons,List.map_cons,List.map_cons,repD_fst y d l]
  congr 1
  unfold repD
  split <;> rfl
theorem repK_fst (kk:Key) (v:V):∀ l:List (Key×V),(l.map fun kv=>if kv.1=kk then (kv.1,v) else kv).map (fun p=>KD p.1)=l.map (fun p=>KD p.1)
 | []=>rfl
 | p :: l=>by
  rw [List.map_cons,List.map_cons,List.map_cons,repK_fst kk v l]
  congr 1
  split <;> rfl
theorem repK_snd {kk:Key} {v:V} {d:D} (hy:keyOf y=some kk) (rv:Rep K C F v d):∀ {kvs:List (Key×V)} {l:List (D×D)},kvs.map (fun p=>KD p.1)=l.map (·.1)→Reps K C F (kvs.map (·.2)) (l.map (·.2)) →
  Reps K C F ((kvs.map fun kv=>if kv.1=kk then (kv.1,v) else kv).map (·.2)) ((l.map (repD y d)).map (·.2))
 | [],[],_,_=>.nil
 | [],_ :: _,h,_=>by cases h
 | _ :: _,[],h,_=>by cases h
 | p :: kvs,q :: l,h,r=>by
  rw [List.map_cons,List.map_cons] at h r
  injection h with h1 h2
  cases r with
  | cons rw_ rt =>
   have ih:=repK_snd hy rv h2 rt
   have ke:=kEq_key (keyOf_KD p.1) hy
   rw [h1] at ke
   refine .cons ?_ ih
   unfold repD
   dsimp only
   by_cases c:p.1=kk
   ·rw [if_pos c,if_pos (by rw [ke]; exact decide_eq_true c)]
    exact rv
   ·rw [if_neg c,if_neg (by rw [ke,decide_eq_false c]; exact Bool.false_ne_true)]
    exact rw_
abbrev repN (nk:NestedKey) (v:V) (x:EN):EN:=if x.1=nk then (x.1,x.2.1,v) else x
abbrev repP (y:D) (v:V) (p:D×V×V):D×V×V:=if kEq p.1 y then (p.1,p.2.1,v) else p
theorem repN_all {nk:NestedKey} {v:V} {d:D} (hy:nestD y=some nk) (rv:Rep K C F v d):∀ {L:List EN} {ps:List (D×V×V)} {l:List (D×D)},ps.map (fun p=>(nestD p.1,p.2.1,p.2.2))=L.map (fun x=>(some x.1,V.ref x.2.1,x.2.2))→ps.map (·.1)=l.map (·.1)→Reps K C F (ps.map (·.2.2)) (l.map (·.2)) →
  (ps.map (repP y v)).map (fun p=>(nestD p.1,p.2.1,p.2.2))=(L.map (repN nk v)).map (fun x=>(some x.1,V.ref x.2.1,x.2.2))∧(ps.map (repP y v)).map (·.1)=ps.map (·.1)∧(ps.map (repP y v)).map (·.2.1)=ps.map (·.2.1)∧Reps K C F ((ps.map (repP y v)).map (·.2.2)) ((l.map (repD y d)).map (·.2))
 | [],[],[],_,_,_=>⟨rfl,rfl,rfl,.nil⟩
 | _ :: _,[],_,h,_,_=>by cases h
 | [],_ :: _,_,h,_,_=>by cases h
 | _,[],_ :: _,_,h,_=>by cases h
 | _,_ :: _,[],_,h,_=>by cases h
 | x :: L,p :: ps,q :: l,h,g,r=>by
  rw [List.map_cons,List.map_cons] at h g r
  injection h with h1 h2
  injection g with g1 g2
  injection h1 with e1 h1
  injection h1 with e2 e3
  cases r with
  | cons rw_ rt =>
   obtain ⟨i1,i2,i3,i4⟩:=repN_all hy rv h2 g2 rt
   have ke:=kEq_nest p.1 y x.1 nk e1 hy
   have ke':=ke
   rw [g1] at ke'
   by_cases c:x.1=nk
   ·rw [decide_eq_true c] at ke ke'
    have a:repP y v p=(p.1,p.2.1,v):=if_pos ke
    have b:repN nk v x=(x.1,x.2.1,v):=if_pos c
    have c':repD y d q=(q.1,d):=if_pos ke'
    refine ⟨?_,?_,?_,?_⟩
    ·rw [List.map_cons,List.map_cons,List.map_cons,List.map_cons,i1,a,b,e1,e2]
    ·rw [List.map_cons,List.map_cons,i2,a]; rfl
    ·rw [List.map_cons,List.map_cons,i3,a]; rfl
    ·rw [List.map_cons,List.map_cons,List.map_cons,List.map_cons,a,c']
     exact .cons rv i4
   ·rw [decide_eq_false c] at ke ke'
    have a:repP y v p=p:=if_neg (by rw [ke]; exact Bool.false_ne_true)
    have b:repN nk v x=x:=if_neg c
    have c':repD y d q=q:=if_neg (by rw [ke']; exact Bool.false_ne_true)
    refine ⟨?_,?_,?_,?_⟩
    ·rw [List.map_cons,List.map_cons,List.map_cons,List.map_cons,i1,a,b,e1,e2,e3]
    ·rw [List.map_cons,List.map_cons,i2,a]; rfl
    ·rw [List.map_cons,List.map_cons,i3,a]; rfl
    ·rw [List.map_cons,List.map_cons,List.map_cons,List.map_cons,a,c']
     exact .cons rw_ i4
variable {H:Hp}
theorem RepM.put {a:Addr} {k:KK} {l:List (D×D)} (h:RepM K C F H a (.dct k l)) (s:Same F H) {d:D} {vy v:V} (ry:Rep K C F vy y) (rv:Rep K C F v d) (ok:keyOk k y=true) (few:l.length < 100000) :
  ∃ o,XPut K C.w H a vy v (upd H a o)∧RepM K C F (upd H a o) a (.dct k (dPut l y d)):=by
 have dh:=h.dicHere
 obtain ⟨o,xg,og⟩:=dh.get s (ry.to s) ok
 have si:=og.isSome
 obtain ⟨n,ps,⟨u,e,mu,di⟩,e1,r1,r2⟩:=h
 have sz:sizeLine=16777216:=sizeLine_eq
 have lp:ps.length=l.length:=by
  have:=congrArg List.length e1
  rw [List.length_map,List.length_map] at this
  exact this
 cases k with
 | K =>
  obtain ⟨kvs,rfl,rfl⟩:=di
  rw [List.map_map] at e1 r1 r2
  rw [List.length_map] at lp
  obtain ⟨kk,hk⟩:=Option.isSome_iff_exists.mp ok
  have:=keyOf_rep ry hk
  subst this
  have og:=getK hk e1 r2
  have si:=og.isSome
  refine ⟨.dK (putK kvs kk v),.inl (.inl ⟨kvs,kk,e,rfl,by omega,rfl⟩),n,(putK kvs kk v).map fun p=>(KD p.1,kV p.1,p.2),⟨_,upd_same,True.intro,_,rfl,rfl⟩,?_⟩
  rw [List.map_map,List.map_map,List.map_map]
  show (putK kvs kk v).map (fun p=>KD p.1)=_∧Reps K C F ((putK kvs kk v).map fun p=>kV p.1) _∧Reps K C F ((putK kvs kk v).map (·.2)) _
  have keys:(putK kvs kk v).map (fun p=>KD p.1)=(dPut l y d).map (·.1)∧Reps K C F ((putK kvs kk v).map (·.2)) ((dPut l y d).map (·.2)):=by
   unfold putK dPut
   rw [valV_any,si]
   split
   ·exact ⟨(repK_fst kk v kvs).trans (e1.trans (repD_fst y d l).symm),repK_snd hk rv e1 r2⟩
   ·rw [List.map_append,List.map_append,List.map_append,List.map_append]
    refine ⟨?_,r2.append (.cons rv .nil)⟩
    show kvs.map (fun p=>KD p.1)++[KD kk]=_
    rw [← KD_keyOf hk]
    congr 1
  refine ⟨keys.1,?_,keys.2⟩
  rw [← keys.1]
  exact reps_KD _
 | T =>
  obtain ⟨L,rfl,hd,hm⟩:=di
  cases hn:nestD y with
  | none=>unfold keyOk at ok; rw [hn] at ok; cases ok
  | some nk =>
   have ok:tupKey nk=true:=by unfold keyOk at ok; rw [hn] at ok; exact ok
   obtain ⟨q,rfl,ka⟩:=keyAt_of (ry.to s) hn ok
   have og:=getN hn hm e1 r2
   have si:=og.isSome
   have lL:ps.length=L.length:=by
    have:=congrArg List.length hm
    rw [List.length_map,List.length_map] at this
    exact this
   refine ⟨DN C.w a (putN L nk q v),.inr ⟨L,nk,q,e,keysAt (w:=C.w) hd hm e1 (r1.to s),rfl,ka,by omega,rfl⟩,n,if (dGet l y).isSome then ps.map (repP y v) else ps++[(y,.ref q,v)],?_⟩
   obtain ⟨i1,i2,i3,i4⟩:=repN_all hn rv hm e1 r2
   unfold dPut
   have ee:putN L nk q v=if (dGet l y).isSome then L.map (repN nk v) else L++[(nk,q,v)]:=by unfold putN; rw [si]
   rw [ee]
   split
   ·refine ⟨⟨_,upd_same,True.intro,_,rfl,fun x hx=>?_,i1⟩,?_,?_,i4⟩
    ·obtain ⟨x',hx',rfl⟩:=List.mem_map.mp hx
     have:=hd x' hx'
     unfold repN
     split
     ·exact this
     ·exact this
    ·rw [i2,e1]; exact (repD_fst y d l).symm
    ·rw [i3]
     have:=repD_fst y d l
     rw [show (l.map fun p=>if kEq p.1 y=true then (p.1,d) else p).map (·.1)=l.map (·.1) from this]
     exact r1
   ·refine ⟨⟨_,upd_same,True.intro,_,rfl,fun x hx=>?_,?_⟩,?_,?_,?_⟩
    ·rcases List.mem_append.mp hx with hx | hx
     ·exact hd x hx
     ·rw [List.mem_singleton.mp hx]
      exact tupKey_depth ok
    ·rw [List.map_append,List.map_append,hm]
     show _++[(nestD y,V.ref q,v)]=_
     rw [hn]
     rfl
    ·rw [List.map_append,List.map_append,e1]; rfl
    ·rw [List.map_append,List.map_append]
     exact r1.append (.cons ry .nil)
    ·rw [List.map_append,List.map_append]
     exact r2.append (.cons rv .nil)
end
section
variable {X:Cx} {C:Cl} {B:Bw} {W:WX} {o i e:Expr} {f fo fi:DE} {pos pos':Pos}
end
def dicD (r:RV) (ρ:Sl):Option (List D×List D):=match r with
 | .dat (.dic _ ks vs)=>some (ks,vs)
 | .bor i=>match ρ[i]? with
  | some (some (.dat (.dic _ ks vs)))=>some (ks,vs)
  | _=>none
 | _=>none
def dKeys (f:DE):Ef Wk:=bindE f fun r ρ=>match dicD r ρ with
 | some (ks,_)=>some (.ok (ks,[]) ρ)
 | none=>none
def dItms (f:DE):Ef Wk:=bindE f fun r ρ=>match dicD r ρ with
 | some (ks,vs)=>some (.ok (zipL ks vs,[]) ρ)
 | none=>none
section
variable {K:PySem.W.Frag} {C:Cl} {B:Bw} {W:WX} {z:At0} {F H:Hp} {ρ:Sl} {σ:L2.St} {Q:VK}
end
section
variable {X:Cx} {C:Cl} {B:Bw} {W:WX} {tg e:Expr} {f:DE} {apos cpos tpos:Pos}
end
end Pl
namespace Ns
open PySem PySem.Spec PyProof.Rows L2 Pl
section
variable {X:Cx}
end
end Ns
namespace Pl
open PySem PySem.Spec PyProof.Rows L2 Tk Ns
def loopD (k:KK) (vs:List Nat) (tg:D→Sl→Option Sl) (ft:Ef Bool) (fk fe:DE):List D→List (D×D)→DE
 | [],acc,ρ=>some (.ok (.own (.dct k acc)) ρ)
 | d :: r,acc,ρ=>match tg d ρ with
  | none=>none
  | some ρ1=>match ft ρ1 with
   | some (.ok true ρ2)=>match fk ρ2 with
    | some (.ok (.dat y) ρ3)=>match fe ρ3 with
     | some (.ok (.dat e) ρ4)=>if keyOk k y=true∧acc.length < 10000 then loopD k vs tg ft fk fe r (dPut acc y e) (wipeR ρ4 vs) else none
     | _=>none
    | _=>none
   | some (.ok false ρ2)=>loopD k vs tg ft fk fe r acc (wipeR ρ2 vs)
   | _=>none
def dDc (k:KK) (vs:List Nat) (fi:Ef Wk) (tg:D→Sl→Option Sl) (ft:Ef Bool) (fk fe:DE):DE:=bindE fi fun w=>lockedE w.2 fun ρ=>loopD k vs tg ft (froze fk) (froze fe) w.1 [] (wipeR ρ vs)
section
variable {K:PySem.W.Frag} {C:Cl} {B:Bw} {W:WX} {z:At0} {F H:Hp} {ρ:Sl} {σ:L2.St}
structure InD (K:PySem.W.Frag) (C:Cl) (B:Bw) (z:At0) (F1:Hp) (L:Addr) (ρ:Sl) (σ:L2.St) (F H:Hp) (k:KK) (l:List (D×D)):Prop where
 post:Post K C B z ρ F σ H
 mono:Same F1 F
 no:¬ Held ρ σ H L
 at_:RepM K C F H L (.dct k l)
variable {F1 F2 H2:Hp} {L:Addr} {ρ2:Sl} {σ2:L2.St} {kd:KK} {l:List (D×D)}
variable {X:Cx} {Q:VK}
end
section
variable {X:Cx} {C:Cl} {B:Bw} {W:WX} {kx vx tg iter:Expr} {ifs:List Expr} {scope:Scope} {own:List (Str×Nat)} {pos p pos2:Pos} {fi:Ef Wk} {h:D→Sl→Option Sl} {ft:Ef Bool} {fk fe:DE} {js:List Nat}
end
end Pl
namespace Ns
open PySem PySem.Spec PyProof.Rows L2 Pl
end Ns
namespace Pl
open PySem PySem.Spec PyProof.Rows L2 Tk Ns
section
variable {X:Cx} {C:Cl} {B:Bw} {W:WX} {pos:Pos}
end
def gLenD:List RV→DE:=fun rs ρ=>match rs with
 | [r]=>match dicOf r ρ with
  | some (_,l)=>some (.ok (.dat (.int (l.length:Nat))) ρ)
  | none=>none
 | _=>none
section
variable {K:PySem.W.Frag} {C:Cl}
end
def setX:List (D→Sl→Option Sl)→List D→Sl→Option Sl
 | [],[],ρ=>some ρ
 | h :: hs,d :: ds,ρ=>match h d ρ with
  | some ρ1=>setX hs ds ρ1
  | none=>none
 | _,_,_=>none
def tgX (hs:List (D→Sl→Option Sl)):D→Sl→Option Sl:=fun d ρ=>match d with
 | .tup ds=>setX hs ds ρ
 | _=>none
section
variable {X:Cx} {C:Cl} {B:Bw} {W:WX} {pos:Pos}
end
end Pl
namespace Ns
open PySem PySem.Spec PyProof.Rows L2 Pl
end Ns
namespace Pl
open PySem PySem.Spec PyProof.Rows L2 Tk Ns
def loopDl (vs:List Nat) (tg:D→Sl→Option Sl) (fk:DE):List D→List (D×List D)→DE
 | [],acc,ρ=>some (.ok (.own (.dls .T acc)) ρ)
 | d :: r,acc,ρ=>match tg d ρ with
  | none=>none
  | some ρ2=>match fk ρ2 with
   | some (.ok (.dat y) ρ3)=>if keyOk .T y=true∧acc.length < 10000∧(acc.all fun p=>!kEq p.1 y)=true then loopDl vs tg fk r (acc++[(y,[])]) (wipeR ρ3 vs) else none
   | _=>none
def dDl (vs:List Nat) (fi:Ef Wk) (tg:D→Sl→Option Sl) (fk:DE):DE:=bindE fi fun w=>lockedE w.2 fun ρ=>loopDl vs tg (froze fk) w.1 [] (wipeR ρ vs)
section
variable {K:PySem.W.Frag} {C:Cl} {B:Bw} {W:WX} {z:At0} {F H:Hp} {ρ:Sl} {σ:L2.St}
structure InDa (K:PySem.W.Frag) (C:Cl) (z:At0) (T:Addr) (ρ:Sl) (σ:L2.St) (F H:Hp) (l:List (D×List D)) (L:List EN) (ps:List (D×V×V)) (as:List Addr):Prop where
 at_:H T=some (DN C.w T L)
 deep:∀ x∈L,x.1.depth≤8
 same:ps.map (fun p=>(nestD p.1,p.2.1,p.2.2))=L.map (fun x=>(some x.1,V.ref x.2.1,x.2.2))
 nams:ps.map (·.1)=l.map (·.1)
 keys:Reps K C F (ps.map (·.2.1)) (l.map (·.1))
 vals:ps.map (·.2.2)=as.map V.ref
 nd:(T :: as).Nodup
 ls:Lists K C F H as (l.map (·.2))
 no:∀ x,x∈T :: as→¬ Held ρ σ H x∧(z.S x∨z.H x=none)
structure InDl (K:PySem.W.Frag) (C:Cl) (B:Bw) (z:At0) (F1:Hp) (T:Addr) (ρ:Sl) (σ:L2.St) (F H:Hp) (l:List (D×List D)):Prop where
 post:Post K C B z ρ F σ H
 mono:Same F1 F
 free:F T=none
 ex:∃ L ps as,InDa K C z T ρ σ F H l L ps as
variable {F1 F2 H2:Hp} {T:Addr} {ρ2:Sl} {σ2:L2.St} {l:List (D×List D)} {L:List EN} {ps:List (D×V×V)} {as:List Addr}
theorem vals_L (h:ps.map (fun p=>(nestD p.1,p.2.1,p.2.2))=L.map (fun x=>(some x.1,V.ref x.2.1,x.2.2))):ps.map (·.2.2)=L.map (·.2.2):=by
 have:=congrArg (List.map fun t:Option NestedKey×V×V=>t.2.2) h
 rw [List.map_map,List.map_map] at this
 exact this
theorem InDl.fin {Q:VK} (c:InDl K C B z F1 T ρ σ F H l) (g:Goal K C B W z σ Q (some (.ok (.own (.dls .T l)) ρ))):∃ d L as,V.ref T=.ref d∧H d=some (DN C.w d L)∧L.map (·.2.2)=as.map V.ref∧∀ od,ValsOf od as→Q (.ref T) (upd H d (.frz od (DN C.w d L))):=by
 obtain ⟨L,ps,as,c2⟩:=c.ex
 have nT:=c2.no T List.mem_cons_self
 have nh:∀ {x:Addr} {o:HO},Held ρ σ (upd H T o) x→Held ρ σ H x:=fun ⟨i,s,m,b,e1,t,q2,f⟩=>by
  have ne:b≠T:=fun w=>nT.1 (Held.of e1 t q2 (w ▸ Foot.root _ _ _))
  exact ⟨i,s,m,b,e1,t,q2,(Foot.same (upd_ne ne)).mp f⟩
 have ndT:∀ x∈as,x≠T:=fun x hx w=>(List.nodup_cons.mp c2.nd).1 (w ▸ hx)
 refine ⟨T,L,as,rfl,c2.at_,(vals_L c2.same).symm.trans c2.vals,fun od vo=>?_⟩
 refine g _ F _ (c.post.aside nT.2 c.free nT.1) ⟨T,rfl,⟨c.free,od,_,ps,as,upd_same,⟨L,rfl,c2.deep,c2.same⟩,vo,c2.nams,c2.keys,c2.vals,c2.nd,c2.ls.to (Same.refl _) fun x hx=>⟨upd_ne (ndT x hx),(c2.ls.at hx).1⟩⟩,fun x f=>?_⟩
 have hx:x∈T :: as:=by
  rcases f with rfl | ⟨od',u',as',e,vo',hx⟩
  ·exact List.mem_cons_self
  ·rw [upd_same] at e
   injection e with e
   injection e with e1 e2
   subst e1
   rw [vo.one vo']
   exact List.mem_cons_of_mem _ hx
 exact ⟨fun h=>(c2.no x hx).1 (nh h),(c2.no x hx).2⟩
end
section
variable {K:PySem.W.Frag} {C:Cl} {F H:Hp}
end
section
variable {X:Cx} {C:Cl} {B:Bw} {W:WX} {x y n:Str} {i j k:Nat} {px py pn p1 apos cpos pos:Pos}
end
section
variable {X:Cx} {C:Cl} {B:Bw} {W:WX} {kx tg iter:Expr} {scope:Scope} {own:List (Str×Nat)} {pos p pos2:Pos} {fi:Ef Wk} {h:D→Sl→Option Sl} {fk:DE} {js:List Nat}
end
section
variable {K:PySem.W.Frag} {C:Cl} {w:World}
end
end Pl
namespace Ns
open PySem PySem.Spec PyProof.Rows L2 Pl PySem.W
section
variable {prog:Program} {w:World} {A:Around} {E:Value→Shared→Prop} {s:Shared}
end
section
variable {X:Cx} {e:Expr} {st:Expr} {te:TE} {ts:TO} {pos p2:Pos}
end
end Ns
namespace Pl
open PySem PySem.Spec PyProof.Rows L2 Tk Ns
section
variable {X:Cx} {C:Cl} {B:Bw} {W:WX} {e st:Expr} {f:DE} {fs:Ef (Option Int)} {pos p2:Pos}
end
section
variable {K:PySem.W.Frag} {C:Cl} {B:Bw} {W:WX} {z:At0} {F H:Hp} {ρ:Sl} {σ:L2.St} {Q:VK}
end
section
variable {K:PySem.W.Frag} {C:Cl} {p:Program} {w:World}
end
section
variable {X:Cx} {C:Cl} {B:Bw} {W:WX} {e:Expr} {fl:Ef (List RV)} {x:Str} {i:Nat} {px apos cpos pos:Pos}
end
section
variable {X:Cx} {C:Cl} {B:Bw} {W:WX} {p pos:Pos}
end
section
variable {X:Cx} {C:Cl} {B:Bw} {W:WX} {k:Nat} {ps:List Str} {x:Str} {p pos:Pos} {fF:DE}
end
end Pl
namespace Ns
open PySem PySem.Spec PyProof.Rows L2 Pl
section
variable {P:Program} {w:World} {A:Around} {E:Value→Shared→Prop} {s:Shared} {a b:Addr} {xs ys:List EM} {hit:Nat→Bool}
end
section
variable {X:Cx}
end
end Ns
namespace Pl
open PySem PySem.Spec PyProof.Rows L2 Tk Ns
section
variable {K:PySem.W.Frag} {C:Cl}
end
end Pl
namespace Cq
open PySem PySem.Spec PyProof.Rows L2 Tk Pl Ns
section
variable {P:Program} {w:World} {A:Around}
section
variable {elt t0 j0 t1 j1 t2 j2:Expr} {f0 f1 f2:List Expr} {scope:Scope} {pos:Pos} {it acc:Value} {env:Env}
end
end
section
variable {X:Cx} {s3:Shared} {H3:Hp} {scope:Scope} {ce:Env} {fp:List Addr}
end
section
variable {X:Cx}
end
end Cq
namespace Pl
open PySem PySem.Spec PyProof.Rows L2 Tk Ns Cq
section
variable {K:PySem.W.Frag} {C:Cl} {B:Bw} {W:WX}
end
section
variable {X:Cx} {C:Cl} {B:Bw} {W:WX} {elt t0 j0 t1 j1 t2 j2:Expr} {f0 f1 f2:List Expr} {scope:Scope} {own:List (Str×Nat)} {vs1 vs2:List Nat} {pos spos py:Pos} {fi fi1 fi2:Ef Wk} {h h1 h2:D→Sl→Option Sl} {ft ft1 ft2:Ef Bool} {fe:DE} {js js1 js2:List Nat} {y:Str} {i np:Nat}
end
end Pl
namespace Pl
open PySem PySem.Spec PyProof.Rows L2 Tk
structure ErrAt (K:PySem.W.Frag) (C:Cl) (F H:Hp) (σ:L2.St) (i:Nat) (a dd:Addr) (fs:List (Str×D)):Prop where
 slot:σ[i]?=some (some (.ref a))
 dict:ExcAt K C F H (some dd) fs
def fAt (n:Str) (fs:List (Str×D)):DE:=fun ρ=>match fs.lookup n with
 | some d=>some (.ok (.dat d) ρ)
 | none=>none
def tXe (K:PySem.W.Frag) (C:Cl) (B:Bw) (W:WX) (c i:Nat) (a:Addr) (cls:Value) (d:Option Addr) (fx:List (Str×D)→DE):TE:=fun σ H Q=>∃ dd fs z ρ F,cls=.ref (C.adr c)∧d=some dd∧Post K C B z ρ F σ H∧ErrAt K C F H σ i a dd fs∧GoalA (kR K C) B W z σ Q (fx fs ρ)
def tXs (K:PySem.W.Frag) (C:Cl) (B:Bw) (W:WX) (c i:Nat) (a:Addr) (cls:Value) (d:Option Addr) (gh:List (Str×D)→DS):TS:=fun E σ H=>∃ dd fs z ρ F,cls=.ref (C.adr c)∧d=some dd∧Post K C B z ρ F σ H∧ErrAt K C F H σ i a dd fs∧GoalS K C B W z E (gh fs ρ)
theorem xd_look {K:PySem.W.Frag} {C:Cl} {F:Hp} {n:Str} {d:D}:∀ {vs:List (Str×V)} {fs:List (Str×D)},vs.map (·.1)=fs.map (·.1)→Reps K C F (vs.map (·.2)) (fs.map (·.2))→fs.lookup n=some d→∃ v,vs.lookup n=some v∧Rep K C F v d
 | [],[],_,_,h=>by cases h
 | [],_ :: _,e,_,_=>by cases e
 | _ :: _,[],e,_,_=>by cases e
 | (x,v) :: vs,(y,d') :: fs,e,r,h=>by
  rw [List.map_cons,List.map_cons] at e r
  injection e with e1 e2
  dsimp only at e1
  subst e1
  cases r with
  | cons rv rt =>
   rw [List.lookup_cons] at h ⊢
   cases c:n == x with
   | true =>
    rw [c] at h
    dsimp only at h ⊢
    cases h
    exact ⟨v,rfl,rv⟩
   | false =>
    rw [c] at h
    dsimp only at h ⊢
    exact xd_look e2 rt h
section
variable {X:Cx} {C:Cl} {B:Bw} {W:WX} {c i j np:Nat} {a:Addr} {oe:Obj} {cls:Value} {d:Option Addr} {pn:List (Addr×Obj)} {n f y:Str} {p p1 ap pos py spos:Pos} {e b:Expr} {fb:DE} {r:R2} {g:RV→RV→DE}
theorem pdx_at (T:XfC X.K (C.adr c)) (hno:PySem.W.findIn X.K (.ref (C.adr c)) f=some none) (hz:Zc cls d oe) (hf:∃ vs,oe.data=.fields vs) (hv:PE (X.suite a ((a,oe) :: pn)) (.Name n p) (tVar i)) :
  PE (X.suite a ((a,oe) :: pn)) (.Attribute (.Name n p) f ap) (tXe X.K C B W c i a cls d (fAt f)):=PE.conv (pe_xf T hno hz hf hv) fun σ H Q ⟨dd,fs,z,ρ,F,ec,ed,ps,er,g⟩=>by
 unfold fAt at g
 split at g
 ·rename_i dv hl
  obtain ⟨_,vs,hd,e1,rp⟩:=er.dict
  obtain ⟨v,l,rv⟩:=xd_look e1 rp hl
  exact ⟨.ref a,er.slot,rfl,ec,dd,vs,v,ed,hd,l,g v F H ps rv⟩
 ·exact False.elim g
theorem pdx_set {fx:List (Str×D)→DE} (hn:B.np=np) (hN:X.N.Nodup) (hj:X.N[j]?=some y) (hy:Loc X.env.scope y) (he:PE (X.suite a ((a,oe) :: pn)) e (tXe X.K C B W c i a cls d fx)) (hs:swapsWith e (some (.Name y py)) spos.line X.env=pure false) (hl:X.fn y=true∨X.env.scope.names.lookup y=some .local) :
  PSs (X.suite a ((a,oe) :: pn)) [.Assign [.Name y py] e spos] (tXs X.K C B W c i a cls d fun fs=>sSet j np (fx fs)) :=
 PSs.conv (pss_one (PS.conv (ps_set hN hj hy he hs hl) fun (E:Ends) (σ:L2.St) (H:Hp) (q:tXs X.K C B W c i a cls d (fun fs=>sSet j np (fx fs)) E σ H)=>by
  obtain ⟨dd,fs,z,ρ,F,ec,ed,ps,er,q⟩:=q
  refine ⟨dd,fs,z,ρ,F,ec,ed,ps,er,?_⟩
  have q:GoalS X.K C B W z E (bindS (fx fs) (fun r=>putR j np r) ρ):=q
  unfold bindS at q
  cases h:fx fs ρ with
  | none=>rw [h] at q; exact q
  | some o =>
   rw [h] at q
   cases o with
   | ok r1 ρ1=>exact fun v F1 H1 p1 rv=>put_run hn q p1 rv
   | exc c2 fs2 ρ1=>exact fun dd2 F1 H1 p1 ex=>q dd2 σ F1 H1 p1 ex)) fun _ _ _ q=>q
end
def sTryAs (c i:Nat) (g:DS) (gh:List (Str×D)→DS):DS:=fun ρ=>match g ρ with
 | some (.exc c' fs ρ')=>if c'=c∧fs.length≠0 then match ρ'[i]? with
   | some none=>match gh fs ρ' with
    | some (.nx ρ2)=>some (.nx (ρ2.set i none))
    | _=>none
   | _=>none
  else none
 | o=>o
section
variable {X:Cx} {C:Cl} {B:Bw} {W:WX} {body:List Stmt} {g:DS} {gh:List (Str×D)→DS} {c i:Nat} {x n:Str} {p1 pos hpos:Pos} {b₀:Stmt} {suite:List Stmt}
theorem pds_tryAs (hs:X.stack=X.env :: X.outer) (hf:X.env.frame=some X.env.locals) (tk:Takes X W) (hm:Names X x (.ref (C.adr c))) (hex:PySem.W.exmOne X.K (.ref (C.adr c)) (.ref (C.adr c))=some true) (hN:X.N.Nodup) (hi:X.N[i]?=some n) (hk:X.env.kindOf n=some .local) (hl:X.env.scope.names.lookup n=some .local)
  (hb:∀ (W':WX) (pn:List (Addr×Obj)) (xe:Value→Shared→Prop),Takes (X.tr pn xe) W'→PassesOwn (model X.prog X.w) X.A X.env xe→PDSs (X.tr pn xe) C B W' body g)
  (hh:∀ (a:Addr) (oe:Obj) (cls:Value) (d:Option Addr) (pn:List (Addr×Obj)),Zc cls d oe→(∃ vs,oe.data=.fields vs)→PSs (X.suite a ((a,oe) :: pn)) (b₀ :: suite) (tXs X.K C B W c i a cls d gh)) :
  PDS X C B W (.Try body [.ExceptHandler (some (.Name x p1)) (some n) (b₀ :: suite) hpos] [] [] pos) (sTryAs c i g gh):=by
 refine PS.conv (ps_tryG (l:=[⟨[.ref (C.adr c)],some i,fun a cls d=>tXs X.K C B W c i a cls d gh⟩]) (tb:=fun W'=>tS X.K C B W' g) hs hf tk hb (.cons (.one hm) (.yes hN hi hk hl) (fun a oe cls d pn hz hf=>hh a oe cls d pn hz hf) .nil)) ?_
 rintro E σ H ⟨ρ,F,st,q⟩
 refine ⟨ρ,F,st,?_⟩
 unfold sTryAs at q
 cases h:g ρ with
 | none=>rw [h] at q; exact q
 | some o =>
  rw [h] at q
  cases o with
  | nx ρ'=>exact q
  | bk ρ'=>exact q
  | ct ρ'=>exact q
  | rt r ρ'=>exact q
  | exc c' fs ρ' =>
   intro dd σ' F' H' p' ea
   dsimp only at q
   split at q
   ·rename_i cc
    obtain ⟨rfl,nz⟩:=cc
    split at q
    ·rename_i free
     have no:∀ x,ρ'[i]?≠some (some x):=fun x z=>by rw [free] at z; cases z
     have lt:i < σ'.length:=by
      have:=(List.getElem?_eq_some_iff.mp free).1
      rw [p'.st.len]
      exact this
     split at q
     ·rename_i ρ2 hg
      refine ⟨true,hex,fun _ a na=>?_,fun z=>by cases z⟩
      cases dd with
      | none =>
       have:fs=[]:=ea
       subst this
       exact absurd rfl nz
      | some dd =>
       refine ⟨dd,fs,_,ρ',F',rfl,rfl,p'.sig no,⟨List.getElem?_set_self lt,ea⟩,?_⟩
       rw [hg]
       intro σ2 F2 H2 p2
       refine q (σ2.set i none) F2 H2 ((p2.drop i).sig fun x z=>?_)
       rw [List.getElem?_set] at z
       split at z
       ·split at z <;> cases z
       ·rename_i w; exact w rfl
     ·exact False.elim q
    ·exact False.elim q
   ·exact False.elim q
end
end Pl
namespace Ns
open PySem PySem.Spec PyProof.Rows L2 Tk Pl
section
variable {P:Program} {w:World} {A:Around} {E:Value→Shared→Prop} {s:Shared}
end
section
variable {X:Cx}
end
end Ns
namespace Pl
open PySem PySem.Spec PyProof.Rows L2 Tk Ns
def intsOf:List D→Option (List Int)
 | []=>some []
 | .int i :: l=>(intsOf l).map (i :: ·)
 | _ :: _=>none
section
variable {K:PySem.W.Frag} {C:Cl} {F H:Hp}
variable {X:Cx} {B:Bw} {W:WX} {a:Expr} {f:DE} {p p2 q pos:Pos}
end
end Pl
namespace Cq
open PySem PySem.Spec PyProof.Rows L2 Tk Pl Ns PpSet
section
variable {P:Program} {w:World} {A:Around}
section
variable {elt t0 j0 t1 j1:Expr} {f0 f1:List Expr} {scope:Scope} {pos:Pos} {it acc:Value} {env:Env}
end
end
section
variable {X:Cx} {s3:Shared} {H3:Hp} {scope:Scope} {ce:Env} {fp:List Addr}
end
section
variable {X:Cx}
end
end Cq
namespace Pl
open PySem PySem.Spec PyProof.Rows L2 Tk Ns Cq
structure Fills (L:Addr) (T:Hp→Hp→List D→Prop):Prop where
 has:∀ {F H:Hp} {acc:List D},T F H acc→∃ o,H L=some o
 keep:∀ {F H F2 H2:Hp} {acc:List D},T F H acc→Same F F2→H2 L=H L→T F2 H2 acc
structure InA (K:PySem.W.Frag) (C:Cl) (B:Bw) (L:Addr) (T:Hp→Hp→List D→Prop) (z:At0) (F1:Hp) (ρ:Sl) (σ:L2.St) (F H:Hp) (acc:List D):Prop where
 post:Post K C B z ρ F σ H
 mono:Same F1 F
 free:F L=none
 no:¬ Held ρ σ H L
 at_:T F H acc
section
variable {K:PySem.W.Frag} {C:Cl} {B:Bw} {L:Addr} {T:Hp→Hp→List D→Prop} {z:At0} {F1 F H F2 H2:Hp} {ρ ρ2:Sl} {σ σ2:L2.St} {acc acc2:List D}
end
def TS (w:World) (L:Addr) (F H:Hp) (acc:List D):Prop:=∃ ns,intsOf acc=some ns∧H L=some (SetO w L (fun j=>decide (j∈ns)) (once ns).length)
section
variable {K:PySem.W.Frag} {C:Cl} {B:Bw} {W:WX}
end
section
variable {X:Cx} {C:Cl} {B:Bw} {W:WX} {elt t0 j0 t1 j1:Expr} {f0 f1:List Expr} {scope:Scope} {own:List (Str×Nat)} {vs1:List Nat} {pos p cpos:Pos} {fi fi1:Ef Wk} {h h1:D→Sl→Option Sl} {ft ft1:Ef Bool} {fe:DE} {js js1:List Nat}
end
end Pl
namespace Ns
open PySem PySem.Spec PyProof.Rows L2 Pl
section
variable {P:Program} {w:World} {A:Around} {E:Value→Shared→Prop} {s:Shared} {a:Addr} {L:List Mem}
theorem SetN0.at {h h':Heap} (R:SetN0 w a L h) (k:∀ o,h.get? a=some o→h'.get? a=some o):SetN0 w a L h':=by
 obtain ⟨es,ep,t,⟨o,ho,r1⟩,r⟩:=R.ex
 exact ⟨es,ep,t,⟨o,k o ho,r1⟩,r⟩
theorem NSet.n0 {h:Heap} {es:Array (Int×Value)} {ep:Nat} {t:SetTable} (R:NSet w h a L es ep t):SetN0 w a L h:=⟨es,ep,t,R.obj,R.cells,R.tab,R.nd,R.led,R.room,R.few⟩
end
section
variable {X:Cx}
variable {o e:Expr} {es:List Expr} {to:TE} {t:TA} {apos cpos:Pos}
end
end Ns
namespace Pl
open PySem PySem.Spec PyProof.Rows L2 Tk Ns
section
variable {prog:Program} {w:World} {A:Around} {E:Value→Shared→Prop} {s:Shared}
end
mutual
def dN:NestedKey→D
 | .none=>.non
 | .num i=>.int i
 | .text x=>.str x
 | .tup l=>.tup (dNs l)
def dNs:List NestedKey→List D
 | []=>[]
 | k :: l=>dN k :: dNs l
end
mutual
theorem nestD_dN:∀ (d:D) (k:NestedKey),nestD d=some k→d=dN k
 | .int i,_,e=>by cases e; rfl
 | .str x,_,e=>by cases e; rfl
 | .tup l,_,e=>by
  unfold nestD at e
  obtain ⟨ks,e1,rfl⟩:=Option.map_eq_some_iff.mp e
  rw [dN,← nestsD_dN l ks e1]
 | .non,_,e=>by cases e
 | .bl _,_,e=>by cases e
 | .lst _,_,e=>by cases e
 | .wri _,_,e=>by cases e
 | .obj _ _,_,e=>by cases e
 | .ty _,_,e=>by cases e
 | .cls _,_,e=>by cases e
 | .dic _ _ _,_,e=>by cases e
theorem nestsD_dN:∀ (l:List D) (ks:List NestedKey),nestsD l=some ks→l=dNs ks
 | [],_,e=>by cases e; rfl
 | d :: l,_,e=>by
  unfold nestsD at e
  split at e
  ·rename_i k ks e1 e2
   cases e
   rw [dNs,← nestD_dN d k e1,← nestsD_dN l ks e2]
  ·cases e
end
def strictD:List D→Bool
 | []=>true
 | a :: r=>r.all (fun b=>ltD a b) && strictD r
section
variable {X:Cx} {C:Cl}
end
end Pl
namespace Pl
open PySem PySem.Spec PyProof.Rows L2 Tk Ns
section
variable {K:PySem.W.Frag} {C:Cl} {F H:Hp}
end
section
variable {X:Cx} {C:Cl} {B:Bw} {W:WX} {e:Expr} {fl:Ef (List RV)} {x:Str} {i:Nat} {p px apos cpos pos:Pos}
end
end Pl
namespace Pl
open PySem PySem.Spec PyProof.Rows L2 Tk
section
variable {K:PySem.W.Frag} {C:Cl} {B:Bw} {W:WX} {z:At0} {ρ:Sl} {F H:Hp} {σ:L2.St} {Q:VK}
end
section
variable {X:Cx} {C:Cl} {B:Bw} {W:WX} {e1 e2 e3:Expr} {f1 f2 f3:DE} {k1 k2 k3:Str} {j1 j2 j3:Nat} {c1 c2 c3 pos:Pos}
end
end Pl
namespace Pl
open PySem PySem.Spec PyProof.Rows L2 Tk Ns
section
variable {X:Cx} {pins:List (Addr×Obj)} {σ:L2.St} {H:Hp} {s:Shared}
end
section
variable {X:Cx}
end
def pairsT:List D→Option (List (D×D))
 | []=>some []
 | .tup [k,d] :: r=>match keyOk .T k,pairsT r with
  | true,some ps=>some ((k,d) :: ps)
  | _,_=>none
 | _ :: _=>none
def unlikeT:List (D×D)→Bool
 | []=>true
 | p :: r=>r.all (fun q=>!kEq p.1 q.1) && unlikeT r
def gDictT:List RV→DE:=fun rs ρ=>match rs with
 | [r]=>match r.see ρ with
  | some (.lst l)=>match pairsT l with
   | some ps=>if unlikeT ps=true then some (.ok (.own (.dct .T ps)) ρ) else none
   | none=>none
  | _=>none
 | _=>none
section
variable {K:PySem.W.Frag} {C:Cl} {B:Bw} {W:WX} {z:At0} {F H:Hp} {ρ:Sl} {σ:L2.St} {Q:VK}
end
@[simp] theorem ev_dictT (r:RV) (ρ:Sl):gDictT [r] ρ=(match r.see ρ with
 | some (.lst l)=>(match pairsT l with
  | some ps=>if unlikeT ps=true then some (.ok (.own (.dct .T ps)) ρ) else none
  | none=>none)
 | _=>none):=rfl
section
variable {K:PySem.W.Frag} {C:Cl} {B:Bw} {W:WX} {z:At0} {F H:Hp} {ρ:Sl} {σ:L2.St}
end
section
variable {X:Cx} {C:Cl} {B:Bw} {W:WX}
end
end Pl
namespace Pl
open PySem PySem.Spec PyProof.Rows L2
def idxS (k:Str):List D→Option Nat
 | .str a :: l=>if a=k then some 0 else (idxS k l).map (·+1)
 | _=>none
def allStrs:List D→Bool
 | []=>true
 | .str _ :: l=>allStrs l
 | _=>false
def gIndex (r0:RV) (rs:List RV):DE:=fun ρ=>match r0.see ρ,rs with
 | some (.lst l),[r']=>match r'.see ρ with
  | some (.str k)=>if allStrs l=true then match idxS k l with
   | some j=>some (.ok (.dat (.int (j:Int))) ρ)
   | none=>none
   else none
  | _=>none
 | _,_=>none
@[simp] theorem ev_index (r0 r':RV) (ρ:Sl):gIndex r0 [r'] ρ=(match r0.see ρ with
 | some (.lst l)=>match r'.see ρ with
  | some (.str k)=>if allStrs l=true then match idxS k l with
   | some j=>some (.ok (.dat (.int (j:Int))) ρ)
   | none=>none
   else none
  | _=>none
 | _=>none):=by
 unfold gIndex
 generalize r0.see ρ=o
 cases o with
 | none=>rfl
 | some d=>cases d <;> rfl
section
variable {K:PySem.W.Frag} {C:Cl}
end
end Pl
namespace Ns
open PySem PySem.Spec PyProof.Rows L2 Tk Pl
def txOf (e:Int×Value):Str:=match e.2 with
 | .str x _=>x
 | _=>Str.empty
structure SetX (w:World) (h:Heap) (a:Addr) (L:List Str) (o:Obj) (es:Array (Int×Value)) (ep:Nat) (t:SetTable):Prop where
 at_:h.get? a=some o
 own:o.ExactSet
 data:o.data=.set es ep t
 good:∀ e∈es.toList,∃ x tk,e.2=Value.str x tk∧e.1=hashStr w x
 perm:(es.toList.map txOf).Perm L
 nd:L.Nodup
 few:L.length < scanBound
 fits:t.fits es.size=true
 ris:Ris t.place.toList
 led:w.params.followText "set-order" = true∨t.led=true
def SetS (w:World) (h:Heap) (a:Addr) (L:List Str):Prop:=∃ o es ep t,SetX w h a L o es ep t
section
variable {P:Program} {w:World} {A:Around} {E:Value→Shared→Prop} {s:Shared} {a:Addr} {L:List Str} {o:Obj} {es:Array (Int×Value)} {ep:Nat} {t:SetTable}
theorem SetX.size {h:Heap} (R:SetX w h a L o es ep t):es.size=L.length:=by
 have e:=R.perm.length_eq
 rw [List.length_map,Array.length_toList] at e
 exact e
theorem is_tx (x:Str) {e:Int×Value} {y:Str} {tk:Tok} (h:e.2=Value.str y tk):(PySem.strKind P w).is x e.2=true↔txOf e=x:=by
 unfold txOf
 rw [h]
 constructor
 ·intro q
  exact (PySem.strKind P w).inj _ _ _ (strKind_is P w y tk) q
 ·intro q
  have q:y=x:=q
  rw [← q]
  exact strKind_is P w y tk
theorem SetX.mem {h:Heap} (R:SetX w h a L o es ep t) (x:Str):x∈L↔∃ e∈es.toList,(PySem.strKind P w).is x e.2=true:=by
 rw [← R.perm.mem_iff,List.mem_map]
 constructor
 ·rintro ⟨e,he,q⟩
  obtain ⟨y,tk,h1,_⟩:=R.good e he
  exact ⟨e,he,(is_tx x h1).2 q⟩
 ·rintro ⟨e,he,q⟩
  obtain ⟨y,tk,h1,_⟩:=R.good e he
  exact ⟨e,he,(is_tx x h1).1 q⟩
theorem SetS.at {h h':Heap} (R:SetS w h a L) (k:∀ o,h.get? a=some o→h'.get? a=some o):SetS w h' a L:=by
 obtain ⟨o,es,ep,t,q⟩:=R
 exact ⟨o,es,ep,t,k o q.at_,q.own,q.data,q.good,q.perm,q.nd,q.few,q.fits,q.ris,q.led⟩
end
section
variable {P:Program} {w:World} {A:Around} {E:Value→Shared→Prop} {s:Shared}
end
section
variable {X:Cx}
end
end Ns
namespace Pl
open PySem PySem.Spec PyProof.Rows L2 Tk Ns
section
variable {K:PySem.W.Frag} {C:Cl} {F H:Hp}
variable {X:Cx} {B:Bw} {W:WX} {a:Expr} {f:DE} {p p2 q pos:Pos}
end
end Pl
namespace L2
open PySem PySem.Spec PyProof.Rows
section
variable {X:Cx} {o e:Expr} {td te:TE} {apos cpos:Pos}
end
end L2
namespace Pl
open PySem PySem.Spec PyProof.Rows L2 Tk
section
variable {K:PySem.W.Frag} {C:Cl} {F H:Hp}
end
section
variable {K:PySem.W.Frag} {C:Cl} {B:Bw} {z:At0} {F H:Hp} {ρ:Sl} {σ:L2.St}
end
section
variable {X:Cx} {C:Cl} {B:Bw} {W:WX} {o e:Expr} {fo fe:DE} {apos cpos:Pos}
end
section
variable {X:Cx} {C:Cl} {B:Bw} {W:WX} {e ei ej ek el:Expr} {f:DE} {gi gj gk gl:Sl→Option Int} {x:Str} {s:Nat} {px px' p1 p2 q1 q2 pt pos:Pos} {kt:Nat}
end
section
variable {X:Cx} {o:Expr} {ta:TE} {f:Str} {pos:Pos}
end
section
variable {X:Cx} {C:Cl} {B:Bw} {W:WX} {e:Expr} {fe:DE} {att:Nat→List Str} {f1 f2 f3 x:Str} {i:Nat} {p1 p2 p3 q1 q2 q3 pt pos:Pos} {kt:Nat}
end
def sTryF (g:DS):DS:=fun ρ=>match g ρ with
 | some (.exc _ _ _)=>none
 | x=>x
@[simp] theorem ev_sTryF (g:DS) (ρ:Sl):sTryF g ρ=(match g ρ with
 | some (.exc _ _ _)=>none
 | x=>x):=rfl
end Pl
namespace Qx
open PySem PySem.SeqAt
open AutoSeq1 (wpAny_loadPart')
open MeetsSeq MeetsSeq2 MeetsSeq3 SeqRoads2
section
variable {prog:Program} {w:World} {A:Around} {R:Result→Shared→Prop}
end
end Qx
namespace Qx
open PySem PySem.SeqAt
open AutoSeq1 (wpAny_loadPart')
open MeetsSeq MeetsSeq2 MeetsSeq3 SeqRoads2
section
variable {prog:Program} {w:World} {A:Around} {R:Result→Shared→Prop}
end
end Qx
namespace Qx
open PySem PySem.Spec PyProof.Rows L2
section
variable {prog:Program} {w:World} {A:Around} {E:Value→Shared→Prop} {s:Shared}
end
abbrev EqvB:=Bool→V→V→Hp→Prop
def EqB (X:Cx) (n:Nat) (D:EqvB):Prop :=
 ∀ (A:Around) (pins:List (Addr×Obj)) (s:Shared) (σ:L2.St) (H:Hp) (x y:V) (u v:Value) (r:Bool),Sub X n A→Inv X pins σ H s→RelV x u→RelV y v→D r x y H →
  wpAny (model X.prog X.w) A (eqBool u v) (fun q t=>q=r∧∃ H',Inv X pins σ H' t∧Ext H H') X.xe s
section
variable {X:Cx} {n m:Nat} {D:EqvB}
theorem EqB.mono (h:EqB X n D) (hn:n≤m):EqB X m D:=fun A pins s σ H x y u v r sb=>h A pins s σ H x y u v r (sb.mono hn)
end
section
variable {X:Cx} {n m:Nat} {D:EqvB}
end
end Qx
namespace Pl
open PySem PySem.Spec PyProof.Rows L2 Tk Qx
def boolR:Option (Res RV)→Option Bool
 | some (.ok (.dat (.bl b)) _)=>some b
 | _=>none
def flatR:D→D→Option Bool
 | .str x,.str y=>some (decide (x=y))
 | .int x,.int y=>some (decide (x=y))
 | .bl x,.bl y=>some (decide (x=y))
 | .non,.non=>some true
 | _,_=>none
def neqD:Nat→D→D→Bool
 | _,.str x,.str y=>decide (x≠y)
 | _,.int x,.int y=>decide (x≠y)
 | _,.bl x,.bl y=>decide (x≠y)
 | n+1,.tup l,.tup l'=>decide (l.length≠l'.length) || (l.zip l').any fun p=>neqD n p.1 p.2
 | n+1,.obj c l,.obj c' l'=>decide (c=c') && (l.zip l').any fun p=>neqD n p.1 p.2
 | _,_,_=>false
def sureR (k:Nat) (a b:D):Option Bool→Option Bool
 | some false=>if neqD k a b=true then some false else none
 | r=>r
def seqR (f:D→D→Option Bool):List D→List D→Option Bool
 | [],[]=>some true
 | a :: l,b :: l'=>match f a b with
  | some true=>seqR f l l'
  | some false=>some false
  | none=>none
 | _,_=>some false
def eqR (lt:Nat→Option DE):Nat→D→D→Option Bool
 | n+1,.tup l,.tup l'=>sureR (n+9) (.tup l) (.tup l') (seqR (eqR lt n) l l')
 | n+1,.obj c l,.obj c' l'=>if c=c' then match lt c with
  | some F=>sureR (n+9) (.obj c l) (.obj c' l') (boolR (F [some (.dat (.obj c l)),some (.dat (.obj c' l'))]))
  | none=>none
  else none
 | _,a,b=>flatR a b
def lstR (f:D→D→Option Bool) (l l':List D):Option Bool:=if l.length=l'.length then seqR f l l' else some false
section
variable {X:Cx} {C:Cl} {k:Nat} {lt:Nat→Option DE}
def bothR (lt:Nat→Option DE) (n:Nat) (ρ:Sl) (r1 r2:RV):Option Bool:=match r1.see ρ,r2.see ρ with
 | some (.tup l),some (.tup l')=>seqR (eqR lt n) l l'
 | some (.lst l),some (.lst l')=>lstR (eqR lt n) l l'
 | _,_=>none
def gEqR (lt:Nat→Option DE) (n:Nat) (g0:RV→RV→DE) (r1 r2:RV):DE:=fun ρ=>match g0 r1 r2 ρ with
 | some x=>some x
 | none=>match bothR lt n ρ r1 r2 with
  | some b=>some (.ok (.dat (.bl b)) ρ)
  | none=>none
def gNeR (lt:Nat→Option DE) (n:Nat) (g0:RV→RV→DE) (r1 r2:RV):DE:=fun ρ=>match g0 r1 r2 ρ with
 | some x=>some x
 | none=>match bothR lt n ρ r1 r2 with
  | some b=>some (.ok (.dat (.bl !b)) ρ)
  | none=>none
@[simp] theorem ev_eqR (lt:Nat→Option DE) (n:Nat) (g0:RV→RV→DE) (r1 r2:RV) (ρ:Sl):gEqR lt n g0 r1 r2 ρ=(match g0 r1 r2 ρ with
 | some x=>some x
 | none=>match bothR lt n ρ r1 r2 with
  | some b=>some (.ok (.dat (.bl b)) ρ)
  | none=>none):=rfl
@[simp] theorem ev_neR (lt:Nat→Option DE) (n:Nat) (g0:RV→RV→DE) (r1 r2:RV) (ρ:Sl):gNeR lt n g0 r1 r2 ρ=(match g0 r1 r2 ρ with
 | some x=>some x
 | none=>match bothR lt n ρ r1 r2 with
  | some b=>some (.ok (.dat (.bl !b)) ρ)
  | none=>none):=rfl
end
end Pl
namespace Ns
open PySem PySem.Spec PyProof.Rows L2 Tk Pl
section
variable {P:Program} {w:World} {A:Around} {E:Value→Shared→Prop} {s:Shared}
end
section
variable {X:Cx}
end
end Ns
namespace Pl
open PySem PySem.Spec PyProof.Rows L2 Tk Ns
section
variable {K:PySem.W.Frag} {C:Cl} {F H:Hp}
variable {X:Cx} {B:Bw} {W:WX} {a:Expr} {f:DE} {p p2 q pos:Pos}
end
end Pl
namespace Pl
open PySem PySem.Spec PyProof.Rows L2 Tk
theorem ifT {c:Bool} {A B:Prop} (hc:c=true) (h:A):if c=true then A else B:=by rw [hc]; exact h
section
variable {X:Cx} {C:Cl} {B:Bw} {W:WX} {c i:Nat} {a:Addr} {oe:Obj} {cls:Value} {d:Option Addr} {pn:List (Addr×Obj)} {n y1 y2:Str} {p p1 p2 p3 p4 q1 q2 q3 q4 q5 q6 pos:Pos} {A Bx:Expr} {tb:TE} {fx:List (Str×D)→DE} {D1 D2:Addr}
theorem pdx_if2 (ec:ExcC X.K (C.adr c)) (hz:Zc cls d oe) (hf:∃ vs,oe.data=.fields vs) (hv:∀ p,PE (X.suite a ((a,oe) :: pn)) (.Name n p) (tVar i)) (hg:Gl X "isinstance") (hm:X.mg "isinstance" = none) (g1:Gl X y1) (m1:X.mg y1=some (.ref D1)) (d1:(y1 == "__debug__")=false) (g2:Gl X y2) (m2:X.mg y2=some (.ref D2)) (d2:(y2 == "__debug__")=false)
  (k1:PySem.W.kitOne X.K (.ref (C.adr c)) (.ref D1)=some true) (k2:PySem.W.kitOne X.K (.ref (C.adr c)) (.ref D2)=some false) (hA:PE (X.suite a ((a,oe) :: pn)) A (tXe X.K C B W c i a cls d fx)) (hB:PE (X.suite a ((a,oe) :: pn)) Bx tb) :
  PE (X.suite a ((a,oe) :: pn)) (.IfExp (.BoolOp .And [.Call (.Name "isinstance" q1) [.Name n p1,.Name y1 p2] [] q2,.UnaryOp .Not (.Call (.Name "isinstance" q3) [.Name n p3,.Name y2 p4] [] q4) q5] q6) A Bx pos) (tXe X.K C B W c i a cls d fx) :=
 PE.conv (pe_ifExp (PW.pt (pw_and (pt_val (pe_callB (call_isS ec hz hf) hg hm (by decide +kernel) (pa_cons (hv p1) (pa_cons (pe_glob (v:=.ref D1) g1 m1 rfl d1) pa_nil rfl) rfl) (by decide) (by decide) rfl rfl))
  (pw_and1 (pt_not (pt_val (pe_callB (call_isS ec hz hf) hg hm (by decide +kernel) (pa_cons (hv p3) (pa_cons (pe_glob (v:=.ref D2) g2 m2 rfl d2) pa_nil rfl) rfl) (by decide) (by decide) rfl rfl)))))) hA hB) fun σ H Q ⟨dd,fs,z,ρ,F,e1,e2,ps,er,g⟩=>by
  obtain ⟨_,vs,hd,_,_⟩:=er.dict
  refine ⟨_,er.slot,.ref D1,_,true,dd,_,rfl,e1,.own D1,e2,hd,k1,_,rfl,?_⟩
  refine ifT rfl ⟨_,er.slot,.ref D2,_,false,dd,_,rfl,e1,.own D2,e2,hd,k2,_,rfl,?_⟩
  exact ifT rfl ⟨dd,fs,z,ρ,F,e1,e2,ps,er,g⟩
end
section
variable {X:Cx} {C:Cl} {B:Bw} {W:WX} {body:List Stmt} {g:DS} {gh1 gh2:List (Str×D)→DS} {c1 c2 i:Nat} {x1 x2 n:Str} {p1 p2 pos hpos1 hpos2:Pos} {b1 b2:Stmt} {s1 s2:List Stmt}
end
end Pl
namespace Sh
open PySem PySem.Spec PyProof.Rows L2 Tk Pl
def att:Nat→List Str
 | 10=>["rows"]
 | 11=>["talks","steps"]
 | 12=>["numbers","book","row","past"]
 | 13=>["book","live"]
 | _=>[]
@[simp] theorem att_T:att 10=(["rows"]:List Str):=rfl
@[simp] theorem att_B:att 11=(["talks","steps"]:List Str):=rfl
@[simp] theorem att_L:att 12=(["numbers","book","row","past"]:List Str):=rfl
@[simp] theorem att_D:att 13=(["book","live"]:List Str):=rfl
def g_Talk___len__:DS :=
 sRet (dCall (on1 hLen) (dCons (dFld att "rows" (dVar 0)) (dNil)))
def F_Talk___len__:DE:=callF 1 1 g_Talk___len__
def mt_len_T:Nat→Option DE
 | 10=>some F_Talk___len__
 | _=>none
def g__law_box:DS :=
 seqS (sSet 2 2 (dBin gAdd (dBin gMul (retE (.dat (.int 6451))) (dVar 1)) (retE (.dat (.int 107))))) <|
 seqS (sIf (asB (dBin gLt (dVar 1) (dCall (on1 hLen) (dCons (dVar 0) (dNil))))) (sSet 2 2 (dCall (on1 hAbs) (dCons (dCall (on1 hInt) (dCons (dBin gIx (dVar 0) (dVar 1)) (dNil))) (dNil)))) (sIf (asB (dBin gGt (dCall (on1 hLen) (dCons (dVar 0) (dNil))) (retE (.dat (.int 0))))) (sSet 2 2 (dBin gAdd (dVar 2) (dBin gMul (dBin gMod (dCall (on1 hInt) (dCons (dBin gIx (dVar 0) (dBin gMod (dCall (on1 hInt) (dCons (dVar 1) (dNil))) (dCall (on1 hLen) (dCons (dVar 0) (dNil))))) (dNil))) (retE (.dat (.int 2147483629)))) (retE (.dat (.int 94811)))))) (nxS))) <|
 seqS (sSet 3 2 (dBin gAdd (dBin gMod (dCall (on1 hInt) (dCons (dBin gAdd (dBin gAdd (dBin gMul (dBin gMod (dCall (on1 hInt) (dCons (dVar 2) (dNil))) (retE (.dat (.int 2147483629)))) (retE (.dat (.int 63463)))) (dBin gMul (retE (.dat (.int 34703))) (dVar 1))) (retE (.dat (.int 7)))) (dNil))) (retE (.dat (.int 2147483629)))) (retE (.dat (.int 1))))) <|
 seqS (sSet 4 2 (dIfE (asB (dBin gGe (dVar 2) (dBin gPow (retE (.dat (.int 10))) (retE (.dat (.int 18)))))) (dVar 2) (retE (.dat (.int 0))))) <|
 sRet (dLst (dCons (froze (dVar 4)) (dCons (froze (dVar 3)) (dCons (retE (.dat (.int 0))) (dNil)))))
def F__law_box:DE:=callF 5 2 g__law_box
def g__law_take:DS :=
 seqS (sIf (asB (dBin gGt (dBin gIx (dVar 0) (retE (.dat (.int 0)))) (retE (.dat (.int 0))))) (seqS (sSet 2 2 (dBin gMod (dCall (on1 hInt) (dCons (dBin gIx (dVar 0) (retE (.dat (.int 0)))) (dNil))) (dVar 1))) <|
 seqS (sStore (dBin gFdiv (dBin gIx (dVar 0) (retE (.dat (.int 0)))) (dVar 1)) (dVar 0) (retE (.dat (.int 0)))) <|
 sRet (dVar 2)) (nxS)) <|
 seqS (sStore (dBin gAdd (dBin gIx (dVar 0) (retE (.dat (.int 2)))) (retE (.dat (.int 1)))) (dVar 0) (retE (.dat (.int 2)))) <|
 seqS (sSet 3 2 (dBin gMod (dCall (on1 hInt) (dCons (dBin gMul (dBin gAdd (dBin gIx (dVar 0) (retE (.dat (.int 1)))) (dBin gMul (retE (.dat (.int 96137))) (dBin gIx (dVar 0) (retE (.dat (.int 2)))))) (retE (.dat (.int 41399)))) (dNil))) (retE (.dat (.int 2147483647))))) <|
 seqS (sStore (dBin gAdd (dBin gMod (dCall (on1 hInt) (dCons (dBin gAdd (dBin gMul (dVar 3) (retE (.dat (.int 60493)))) (retE (.dat (.int 25903)))) (dNil))) (retE (.dat (.int 2147483629)))) (retE (.dat (.int 1)))) (dVar 0) (retE (.dat (.int 1)))) <|
 sRet (dBin gMod (dCall (on1 hInt) (dCons (dBin gFdiv (dBin gAdd (dBin gMul (dVar 3) (retE (.dat (.int 2147483647)))) (dBin gIx (dVar 0) (retE (.dat (.int 1))))) (retE (.dat (.int 8191)))) (dNil))) (dVar 1))
def F__law_take:DE:=callF 4 2 g__law_take
def g__law_pick:DS :=
 sRet (dBin gIx (dVar 1) (dFn F__law_take (dCons (dVar 0) (dCons (dCall (on1 hLen) (dCons (dVar 1) (dNil))) (dNil)))))
def F__law_pick:DE:=callF 2 2 g__law_pick
def e__law_rows_1:DE :=
 dFn F__law_pick (dCons (dVar 0) (dCons (dLend (dLst (dCons (retE (.dat (.int 0))) (dCons (retE (.dat (.int 0))) (dCons (retE (.dat (.int 1))) (dCons (froze (dFn F__law_take (dCons (dVar 0) (dCons (dLend (dBin gAdd (dVar 2) (retE (.dat (.int 1))))) (dNil))))) (dNil))))))) (dNil)))
def b__law_rows_2:DS :=
 seqS (sSet 5 3 (dLc [6] (dRange1 (dVar 1)) (tgN 6) (yesT) (e__law_rows_1))) <|
 seqS (sStore (dBin gAdd (retE (.dat (.int 1))) (dFn F__law_take (dCons (dVar 0) (dCons (dLend (dVar 2)) (dNil))))) (dVar 5) (dVar 4)) <|
 sExpr (dMeth "list" gAppend (dVar 3) (dCons (froze (dVar 5)) (dNil)))
def g__law_rows:DS :=
 seqS (sSet 3 3 (dLst (dNil))) <|
 seqS (sFor (dRange1 (dVar 1)) (tgN 4) (b__law_rows_2)) <|
 sRet (dVar 3)
def F__law_rows:DE:=callF 7 3 g__law_rows
def g_Talk___eq__:DS :=
 sRet (dAndV (dCall (on2 (hIsiX [10])) (dCons (dVar 1) (dCons (retE (.dat (.cls 10))) (dNil)))) (dBin gEq (dFld att "rows" (dVar 0)) (dFld att "rows" (dVar 1))))
def F_Talk___eq__:DE:=callF 2 2 g_Talk___eq__
def mt_eq_T:Nat→Option DE
 | 10=>some F_Talk___eq__
 | _=>none
def g_is_sequence:DS :=
 sRet (dIsi2 "list" "tuple" (dVar 0))
def F_is_sequence:DE:=callF 1 1 g_is_sequence
def g_is_int:DS :=
 sRet (dAndV (dCall (on2 hIsi) (dCons (dVar 0) (dCons (retE (.dat (.ty "int"))) (dNil)))) (dNotV (dCall (on2 hIsi) (dCons (dVar 0) (dCons (retE (.dat (.ty "bool"))) (dNil))))))
def F_is_int:DE:=callF 1 1 g_is_int
def g_is_number:DS :=
 sRet (dAndV (dFn F_is_int (dCons (dLend (dVar 0)) (dNil))) (dBin gGe (dVar 0) (retE (.dat (.int 0)))))
def F_is_number:DE:=callF 1 1 g_is_number
def g_is_row_of:DS :=
 seqS (sIf (dOrT (dNotT (asB (dFn F_is_sequence (dCons (dLend (dVar 0)) (dNil))))) (asB (dBin gNe (dCall (on1 hLen) (dCons (dVar 0) (dNil))) (dVar 2)))) (sRet (retE (.dat (.bl false)))) (nxS)) <|
 sRet (dAndV (dCall (on1 hAll) (dCons (dLc [3] (dItems (dVar 0)) (tgN 3) (yesT) (dFn F_is_number (dCons (dLend (dVar 3)) (dNil)))) (dNil))) (dBin gGt (dBin gIx (dVar 0) (dVar 1)) (retE (.dat (.int 0)))))
def F_is_row_of:DE:=callF 4 3 g_is_row_of
def b_first_wrong_row_1:DS :=
 sIf (dNotT (asB (dFn F_is_row_of (dCons (dLend (dVar 2)) (dCons (dLend (dVar 1)) (dCons (dCall (on1 hLen) (dCons (dVar 0) (dNil))) (dNil))))))) (sRet (dVar 1)) (nxS)
def g_first_wrong_row:DS :=
 seqS (sIf (dOrT (dNotT (asB (dFn F_is_sequence (dCons (dLend (dVar 0)) (dNil))))) (asB (dBin gEq (dCall (on1 hLen) (dCons (dVar 0) (dNil))) (retE (.dat (.int 0)))))) (sRet (retE (.dat (.int 0)))) (nxS)) <|
 seqS (sFor (dEnum (dVar 0)) (tgT [1,2]) (b_first_wrong_row_1)) <|
 sRet (retE (.dat .non))
def F_first_wrong_row:DE:=callF 3 1 g_first_wrong_row
def b_common_divisor_1:DS :=
 sSet 1 1 (dCall (on2 hGcd) (dCons (dVar 1) (dCons (dVar 2) (dNil))))
def g_common_divisor:DS :=
 seqS (sSet 1 1 (retE (.dat (.int 0)))) <|
 seqS (sFor (dItems (dVar 0)) (tgN 2) (b_common_divisor_1)) <|
 sRet (dVar 1)
def F_common_divisor:DE:=callF 3 1 g_common_divisor
def g_normal_row:DS :=
 seqS (sSet 1 1 (dFn F_common_divisor (dCons (dLend (dVar 0)) (dNil)))) <|
 sRet (dCall (gTupOf) (dCons (dLc [2] (dItems (dVar 0)) (tgN 2) (yesT) (dBin gFdiv (dVar 2) (dVar 1))) (dNil)))
def F_normal_row:DE:=callF 3 1 g_normal_row
def g_Talk___init__:DS :=
 seqS (sSet 2 2 (dFn F_first_wrong_row (dCons (dLend (dVar 1)) (dNil)))) <|
 seqS (sIf (asB (dBin gNotN (dVar 2) (retE (.dat .non)))) (sRaise1 1 "at" (dVar 2)) (nxS)) <|
 sFldSet att "rows" (dVar 0) (dCall (gTupOf) (dCons (dLc [3] (dItems (dVar 1)) (tgN 3) (yesT) (dFn F_normal_row (dCons (dLend (dVar 3)) (dNil)))) (dNil)))
def F_Talk___init__:DE:=callF 4 2 g_Talk___init__
def g_Talk___str__:DS :=
 sRet (dTx1 hJoin (retE (.dat (.str ", "))) (dLc [1] (dItems (dFld att "rows" (dVar 0))) (tgN 1) (yesT) (dTx1 hJoin (retE (.dat (.str " "))) (dLc [2] (dItems (dVar 1)) (tgN 2) (yesT) (dCall (on1 hStr) (dCons (dVar 2) (dNil)))))))
def F_Talk___str__:DE:=callF 3 1 g_Talk___str__
def mt_str_T:Nat→Option DE
 | 10=>some F_Talk___str__
 | _=>none
def g_Talk_heeds:DS :=
 sRet (dCall (gTupOf) (dCons (dLc [2,3] (dEnum (dBin gIx (dFld att "rows" (dVar 0)) (dVar 1))) (tgT [2,3]) (asB (dBin gGt (dVar 3) (retE (.dat (.int 0))))) (dVar 2)) (dNil)))
def F_Talk_heeds:DE:=callF 4 2 g_Talk_heeds
def mt_heeds_T:Nat→Option DE
 | 10=>some F_Talk_heeds
 | _=>none
def g_is_pair:DS :=
 sRet (dAndV (dCall (on2 hIsi) (dCons (dVar 0) (dCons (retE (.dat (.ty "tuple"))) (dNil)))) (dBin gEq (dCall (on1 hLen) (dCons (dVar 0) (dNil))) (retE (.dat (.int 2)))))
def F_is_pair:DE:=callF 1 1 g_is_pair
def e_are_steps_1:DE :=
 dAndV (dFn F_is_pair (dCons (dLend (dVar 2)) (dNil))) (dAndV (dBin gIn (dBin gIx (dVar 2) (retE (.dat (.int 0)))) (dVar 1)) (dBin gIn (dBin gIx (dVar 2) (retE (.dat (.int 1)))) (dVar 1)))
def g_are_steps:DS :=
 seqS (sIf (dNotT (asB (dFn F_is_sequence (dCons (dLend (dVar 0)) (dNil))))) (sRet (retE (.dat (.bl false)))) (nxS)) <|
 seqS (sIf (dNotT (asB (dCall (on1 hAll) (dCons (dLc [2] (dItems (dVar 0)) (tgN 2) (yesT) (e_are_steps_1)) (dNil))))) (sRet (retE (.dat (.bl false)))) (nxS)) <|
 sRet (dBin gEq (dLenSet (dVar 0)) (dCall (on1 hLen) (dCons (dVar 0) (dNil))))
def F_are_steps:DE:=callF 3 2 g_are_steps
def g_Book_names:DS :=
 sRet (dCall (gTupOf) (dCons (dLc [1] (dItems (dFld att "talks" (dVar 0))) (tgN 1) (yesT) (dBin gIx (dVar 1) (retE (.dat (.int 0))))) (dNil)))
def F_Book_names:DE:=callF 2 1 g_Book_names
def mt_names_B:Nat→Option DE
 | 11=>some F_Book_names
 | _=>none
def g_own_row:DS :=
 sRet (dLc [2] (dRange1 (dVar 1)) (tgN 2) (yesT) (dIfE (asB (dBin gEq (dVar 2) (dVar 0))) (retE (.dat (.int 1))) (retE (.dat (.int 0)))))
def F_own_row:DE:=callF 3 2 g_own_row
def g_check_name:DS :=
 sIf (asB (dBin gNotIn (dVar 1) (dPrp "names" mt_names_B (dVar 0)))) (failS) (nxS)
def F_check_name:DE:=callF 2 2 g_check_name
def g_Book_behind:DS :=
 seqS (sExpr (dFn F_check_name (dCons (dLend (dVar 0)) (dCons (dLend (dVar 1)) (dNil))))) <|
 sRet (dCall (gTupOf) (dCons (dLc [2,3] (dItems (dFld att "steps" (dVar 0))) (tgT [2,3]) (asB (dBin gEq (dVar 2) (dVar 1))) (dVar 3)) (dNil)))
def F_Book_behind:DE:=callF 4 2 g_Book_behind
def mt_behind_B:Nat→Option DE
 | 11=>some F_Book_behind
 | _=>none
def g_is_name:DS :=
 seqS (sIf (dOrT (dNotT (asB (dCall (on2 hIsi) (dCons (dVar 0) (dCons (retE (.dat (.ty "str"))) (dNil)))))) (dNotT (asB (dChain hLe hLe (retE (.dat (.int 1))) (dCall (on1 hLen) (dCons (dVar 0) (dNil))) (retE (.dat (.int 6))))))) (sRet (retE (.dat (.bl false)))) (nxS)) <|
 sRet (dCall (on1 hAll) (dCons (dLc [1] (dSigns (dVar 0)) (tgN 1) (yesT) (dBin gIn (dVar 1) (retE (.dat (.str "abcdefghijklmnopqrstuvwxyz"))))) (dNil)))
def F_is_name:DE:=callF 2 1 g_is_name
def g_is_named_talk:DS :=
 sRet (dAndV (dFn F_is_pair (dCons (dLend (dVar 0)) (dNil))) (dAndV (dFn F_is_name (dCons (dBin gIx (dVar 0) (retE (.dat (.int 0)))) (dNil))) (dCall (on2 (hIsiX [10])) (dCons (dBin gIx (dVar 0) (retE (.dat (.int 1)))) (dCons (retE (.dat (.cls 10))) (dNil))))))
def F_is_named_talk:DE:=callF 1 1 g_is_named_talk
def e_are_talks_1:DE :=
 dBin gEq (dCall (gLenX mt_len_T) (dCons (dBin gIx (dVar 1) (retE (.dat (.int 1)))) (dNil))) (dCall (gLenX mt_len_T) (dCons (dBin gIx (dBin gIx (dVar 0) (retE (.dat (.int 0)))) (retE (.dat (.int 1)))) (dNil)))
def g_are_talks:DS :=
 seqS (sIf (dOrT (dNotT (asB (dFn F_is_sequence (dCons (dLend (dVar 0)) (dNil))))) (asB (dBin gEq (dCall (gLenX mt_len_T) (dCons (dVar 0) (dNil))) (retE (.dat (.int 0)))))) (sRet (retE (.dat (.bl false)))) (nxS)) <|
 seqS (sIf (dNotT (asB (dCall (on1 hAll) (dCons (dLc [1] (dItems (dVar 0)) (tgN 1) (yesT) (dFn F_is_named_talk (dCons (dLend (dVar 1)) (dNil)))) (dNil))))) (sRet (retE (.dat (.bl false)))) (nxS)) <|
 seqS (sIf (dNotT (asB (dCall (on1 hAll) (dCons (dLc [1] (dItems (dVar 0)) (tgN 1) (yesT) (e_are_talks_1)) (dNil))))) (sRet (retE (.dat (.bl false)))) (nxS)) <|
 sRet (dBin gEq (dLenSc [1] (dItems (dVar 0)) (tgN 1) (yesT) (dBin gIx (dVar 1) (retE (.dat (.int 0))))) (dCall (gLenX mt_len_T) (dCons (dVar 0) (dNil))))
def F_are_talks:DE:=callF 2 1 g_are_talks
def g_Book___init__:DS :=
 seqS (sIf (dNotT (asB (dFn F_are_talks (dCons (dLend (dVar 1)) (dNil))))) (sRaise1 2 "word" (retE (.dat (.str "talks")))) (nxS)) <|
 seqS (sIf (dNotT (asB (dFn F_are_steps (dCons (dLend (dVar 2)) (dCons (dLend (dLc [3] (dItems (dVar 1)) (tgN 3) (yesT) (dBin gIx (dVar 3) (retE (.dat (.int 0)))))) (dNil)))))) (sRaise1 2 "word" (retE (.dat (.str "steps")))) (nxS)) <|
 seqS (sFldSet att "talks" (dVar 0) (dCall (gTupOf) (dCons (dVar 1) (dNil)))) <|
 sFldSet att "steps" (dVar 0) (dCall (gTupOf) (dCons (dCall (gSortD) (dCons (dVar 2) (dNil))) (dNil)))
def F_Book___init__:DE:=callF 4 3 g_Book___init__
def g_is_value:DS :=
 seqS (sIf (asB (dFn F_is_pair (dCons (dLend (dVar 0)) (dNil)))) (sRet (dAndV (dFn F_is_int (dCons (dBin gIx (dVar 0) (retE (.dat (.int 0)))) (dNil))) (dAndV (dFn F_is_int (dCons (dBin gIx (dVar 0) (retE (.dat (.int 1)))) (dNil))) (dBin gGe (dBin gIx (dVar 0) (retE (.dat (.int 1)))) (retE (.dat (.int 1))))))) (nxS)) <|
 sRet (dFn F_is_int (dCons (dLend (dVar 0)) (dNil)))
def F_is_value:DE:=callF 1 1 g_is_value
def g_lowest:DS :=
 seqS (sSet 2 2 (dCall (on2 hGcd) (dCons (dVar 0) (dCons (dVar 1) (dNil))))) <|
 sRet (dTup (dCons (dBin gFdiv (dVar 0) (dVar 2)) (dCons (dBin gFdiv (dVar 1) (dVar 2)) (dNil))))
def F_lowest:DE:=callF 3 2 g_lowest
def g_as_pair:DS :=
 seqS (sIf (asB (dFn F_is_pair (dCons (dLend (dVar 0)) (dNil)))) (sRet (dFn F_lowest (dCons (dBin gIx (dVar 0) (retE (.dat (.int 0)))) (dCons (dBin gIx (dVar 0) (retE (.dat (.int 1)))) (dNil))))) (nxS)) <|
 sRet (dTup (dCons (froze (dVar 0)) (dCons (retE (.dat (.int 1))) (dNil))))
def F_as_pair:DE:=callF 1 1 g_as_pair
def b_checked_numbers_1:DS :=
 sIf (dNotT (asB (dFn F_is_value (dCons (dLend (dVar 3)) (dNil))))) (sRaise1 5 "at" (dVar 2)) (nxS)
def g_checked_numbers:DS :=
 seqS (sIf (dOrT (dNotT (asB (dFn F_is_sequence (dCons (dLend (dVar 0)) (dNil))))) (asB (dBin gNe (dCall (on1 hLen) (dCons (dVar 0) (dNil))) (dVar 1)))) (sRaise1 5 "at" (retE (.dat (.int 0)))) (nxS)) <|
 seqS (sFor (dEnum (dVar 0)) (tgT [2,3]) (b_checked_numbers_1)) <|
 sRet (dCall (gTupOf) (dCons (dLc [3] (dItems (dVar 0)) (tgN 3) (yesT) (dFn F_as_pair (dCons (dLend (dVar 3)) (dNil)))) (dNil)))
def F_checked_numbers:DE:=callF 4 2 g_checked_numbers
def g_Book_people:DS :=
 sRet (dCall (gLenX mt_len_T) (dCons (dBin gIx (dBin gIx (dFld att "talks" (dVar 0)) (retE (.dat (.int 0)))) (retE (.dat (.int 1)))) (dNil)))
def F_Book_people:DE:=callF 1 1 g_Book_people
def mt_people_B:Nat→Option DE
 | 11=>some F_Book_people
 | _=>none
def b_common_multiple_1:DS :=
 sSet 1 1 (dCall (on2 hLcm) (dCons (dVar 1) (dCons (dVar 2) (dNil))))
def g_common_multiple:DS :=
 seqS (sSet 1 1 (retE (.dat (.int 1)))) <|
 seqS (sFor (dItems (dVar 0)) (tgN 2) (b_common_multiple_1)) <|
 sRet (dVar 1)
def F_common_multiple:DE:=callF 3 1 g_common_multiple
def g_even_tops:DS :=
 seqS (sSet 1 1 (dFn F_common_multiple (dCons (dLend (dLc [2] (dItems (dVar 0)) (tgN 2) (yesT) (dBin gIx (dVar 2) (retE (.dat (.int 1)))))) (dNil)))) <|
 sRet (dTup (dCons (froze (dLc [2] (dItems (dVar 0)) (tgN 2) (yesT) (dBin gMul (dBin gIx (dVar 2) (retE (.dat (.int 0)))) (dBin gFdiv (dVar 1) (dBin gIx (dVar 2) (retE (.dat (.int 1)))))))) (dCons (froze (dVar 1)) (dNil))))
def F_even_tops:DE:=callF 3 1 g_even_tops
def g_means:DS :=
 seqS (sAsg (tgT [2,3]) (dFn F_even_tops (dCons (dLend (dVar 1)) (dNil)))) <|
 seqS (sSet 4 2 (dLc [5] (dItems (dVar 0)) (tgN 5) (yesT) (dCall (on1 hSum) (dCons (dLc [7,8] (dZipX (dVar 5) (dVar 2)) (tgT [7,8]) (yesT) (dBin gMul (dVar 7) (dVar 8))) (dNil))))) <|
 sRet (dCall (gTupOf) (dCons (dLc [6,5] (dZipX (dVar 4) (dVar 0)) (tgT [6,5]) (yesT) (dFn F_lowest (dCons (dLend (dVar 6)) (dCons (dLend (dBin gMul (dVar 3) (dCall (on1 hSum) (dCons (dVar 5) (dNil))))) (dNil))))) (dNil)))
def F_means:DE:=callF 9 2 g_means
def g_Talk_led:DS :=
 seqS (sSet 2 2 (dFn F_checked_numbers (dCons (dLend (dVar 1)) (dCons (dCall (on1 hLen) (dCons (dFld att "rows" (dVar 0)) (dNil))) (dNil))))) <|
 sRet (dFn F_means (dCons (dFld att "rows" (dVar 0)) (dCons (dLend (dVar 2)) (dNil))))
def F_Talk_led:DE:=callF 3 2 g_Talk_led
def mt_led_T:Nat→Option DE
 | 10=>some F_Talk_led
 | _=>none
def b_Book___getitem___1:DS :=
 sIf (asB (dBin gEq (dVar 2) (dVar 1))) (sRet (dVar 3)) (nxS)
def g_Book___getitem__:DS :=
 seqS (sFor (dItems (dFld att "talks" (dVar 0))) (tgT [2,3]) (b_Book___getitem___1)) <|
 failS
def F_Book___getitem__:DE:=callF 4 2 g_Book___getitem__
def mt_getitem_B:Nat→Option DE
 | 11=>some F_Book___getitem__
 | _=>none
def g_even_rows:DS :=
 seqS (sSet 1 1 (dFn F_common_multiple (dCons (dLend (dLc [2] (dItems (dVar 0)) (tgN 2) (yesT) (dCall (on1 hSum) (dCons (dVar 2) (dNil))))) (dNil)))) <|
 sRet (dLc [2] (dItems (dVar 0)) (tgN 2) (yesT) (dLc [3] (dItems (dVar 2)) (tgN 3) (yesT) (dBin gMul (dVar 3) (dBin gFdiv (dVar 1) (dCall (on1 hSum) (dCons (dVar 2) (dNil)))))))
def F_even_rows:DE:=callF 4 1 g_even_rows
def g_mixed_row:DS :=
 sRet (dLc [2] (dRange1 (dCall (on1 hLen) (dCons (dVar 1) (dNil)))) (tgN 2) (yesT) (dCall (on1 hSum) (dCons (dLc [3,4] (dZipX (dVar 0) (dVar 1)) (tgT [3,4]) (yesT) (dBin gMul (dVar 3) (dBin gIx (dVar 4) (dVar 2)))) (dNil))))
def F_mixed_row:DE:=callF 5 2 g_mixed_row
def g_rows_behind:DS :=
 seqS (sSet 2 2 (dFn F_even_rows (dCons (dLend (dVar 0)) (dNil)))) <|
 sRet (dLc [3] (dItems (dVar 1)) (tgN 3) (yesT) (dFn F_mixed_row (dCons (dLend (dVar 3)) (dCons (dLend (dVar 2)) (dNil)))))
def F_rows_behind:DE:=callF 4 2 g_rows_behind
def g_Talk___rshift__:DS :=
 sRet (bindE (dCons (dLend (dFn F_rows_behind (dCons (dFld att "rows" (dVar 0)) (dCons (dFld att "rows" (dVar 1)) (dNil))))) (dNil)) (gMake att 10 F_Talk___init__ []))
def F_Talk___rshift__:DE:=callF 2 2 g_Talk___rshift__
def mt_rshift_T:Nat→Option DE
 | 10=>some F_Talk___rshift__
 | _=>none
def b__law_ratio_1:DS :=
 sPar2 2 3 2 (dCons (froze (dVar 3)) (dCons (dBin gMod (dCall (on1 hInt) (dCons (dVar 2) (dNil))) (dVar 3)) (dNil)))
def g__law_ratio:DS :=
 seqS (sPar2 2 3 2 (dCons (dCall (on1 hAbs) (dCons (dVar 0) (dNil))) (dCons (froze (dVar 1)) (dNil)))) <|
 seqS (sWhile (natAt 3) (asB (dBin gNe (dVar 3) (retE (.dat (.int 0))))) (b__law_ratio_1)) <|
 sRet (dTup (dCons (dBin gFdiv (dVar 0) (dVar 2)) (dCons (dBin gFdiv (dVar 1) (dVar 2)) (dNil))))
def F__law_ratio:DE:=callF 4 2 g__law_ratio
def g__law_pair:DS :=
 sRet (dIfE (asB (dCall (on2 hIsi) (dCons (dVar 0) (dCons (retE (.dat (.ty "int"))) (dNil))))) (dFn F__law_ratio (dCons (dLend (dVar 0)) (dCons (retE (.dat (.int 1))) (dNil)))) (dFn F__law_ratio (dCons (dBin gIx (dVar 0) (retE (.dat (.int 0)))) (dCons (dBin gIx (dVar 0) (retE (.dat (.int 1)))) (dNil)))))
def F__law_pair:DE:=callF 1 1 g__law_pair
def b_parts_of_1:DS :=
 sSet 1 1 (dBin gAdd (dVar 1) (dLc [3] (dItems (dVar 1)) (tgN 3) (yesT) (dBin gAdd (dVar 3) (dTup (dCons (froze (dVar 2)) (dNil))))))
def g_parts_of:DS :=
 seqS (sSet 1 1 (dLst (dCons (dTup (dNil)) (dNil)))) <|
 seqS (sFor (dItems (dVar 0)) (tgN 2) (b_parts_of_1)) <|
 sRet (dSlc (dCall (gSortD) (dCons (dVar 1) (dNil))) (dPart (retE (.dat (.int 1)))) (dNoPart))
def F_parts_of:DE:=callF 4 1 g_parts_of
def g_is_lot:DS :=
 seqS (sIf (dNotT (asB (dFn F_is_sequence (dCons (dLend (dVar 0)) (dNil))))) (sRet (retE (.dat (.bl false)))) (nxS)) <|
 seqS (sIf (dNotT (asB (dCall (on1 hAll) (dCons (dLc [2] (dItems (dVar 0)) (tgN 2) (yesT) (dAndV (dFn F_is_number (dCons (dLend (dVar 2)) (dNil))) (dBin gLt (dVar 2) (dVar 1)))) (dNil))))) (sRet (retE (.dat (.bl false)))) (nxS)) <|
 sRet (dBin gEq (dLenSet (dVar 0)) (dCall (on1 hLen) (dCons (dVar 0) (dNil))))
def F_is_lot:DE:=callF 3 2 g_is_lot
def g_Talk_closes:DS :=
 seqS (sIf (dNotT (asB (dFn F_is_lot (dCons (dLend (dVar 1)) (dCons (dCall (on1 hLen) (dCons (dFld att "rows" (dVar 0)) (dNil))) (dNil)))))) (failS) (nxS)) <|
 sRet (dCall (on1 hAll) (dCons (dLc2 [2,3] [3] (dItems (dVar 1)) (tgN 2) (yesT) (dItems (dMth "heeds" mt_heeds_T (dVar 0) (dCons (dLend (dVar 2)) (dNil)))) (tgN 3) (yesT) (dBin gIn (dVar 3) (dVar 1))) (dNil)))
def F_Talk_closes:DE:=callF 4 2 g_Talk_closes
def mt_closes_T:Nat→Option DE
 | 10=>some F_Talk_closes
 | _=>none
def g_Talk_firm:DS :=
 seqS (sSet 2 2 (dCall (on1 hLen) (dCons (dFld att "rows" (dVar 0)) (dNil)))) <|
 seqS (sIf (dNotT (asB (dFn F_is_lot (dCons (dLend (dVar 1)) (dCons (dLend (dVar 2)) (dNil)))))) (failS) (nxS)) <|
 sRet (bindE (dCons (dLend (dLc [3,4] (dEnum (dFld att "rows" (dVar 0))) (tgT [3,4]) (yesT) (dIfE (asB (dBin gIn (dVar 3) (dVar 1))) (dFn F_own_row (dCons (dLend (dVar 3)) (dCons (dLend (dVar 2)) (dNil)))) (dVar 4)))) (dNil)) (gMake att 10 F_Talk___init__ []))
def F_Talk_firm:DE:=callF 5 2 g_Talk_firm
def mt_firm_T:Nat→Option DE
 | 10=>some F_Talk_firm
 | _=>none
def g_Book_with_step:DS :=
 seqS (sExpr (dFn F_check_name (dCons (dLend (dVar 0)) (dCons (dLend (dVar 1)) (dNil))))) <|
 seqS (sExpr (dFn F_check_name (dCons (dLend (dVar 0)) (dCons (dLend (dVar 2)) (dNil))))) <|
 seqS (sIf (asB (dBin gIn (dTup (dCons (froze (dVar 1)) (dCons (froze (dVar 2)) (dNil)))) (dFld att "steps" (dVar 0)))) (sRet (dVar 0)) (nxS)) <|
 sRet (bindE (dCons (dFld att "talks" (dVar 0)) (dCons (dLend (dBin gAdd (dFld att "steps" (dVar 0)) (dTup (dCons (dTup (dCons (froze (dVar 1)) (dCons (froze (dVar 2)) (dNil)))) (dNil))))) (dNil))) (gMake att 11 F_Book___init__ []))
def F_Book_with_step:DE:=callF 3 3 g_Book_with_step
def mt_with_step_B:Nat→Option DE
 | 11=>some F_Book_with_step
 | _=>none
def g_Book_without:DS :=
 seqS (sExpr (dFn F_check_name (dCons (dLend (dVar 0)) (dCons (dLend (dVar 1)) (dNil))))) <|
 seqS (sSet 2 2 (dLc [3] (dItems (dFld att "talks" (dVar 0))) (tgN 3) (asB (dBin gNe (dBin gIx (dVar 3) (retE (.dat (.int 0)))) (dVar 1))) (dVar 3))) <|
 sRet (bindE (dCons (dLend (dVar 2)) (dCons (dLend (dLc [4] (dItems (dFld att "steps" (dVar 0))) (tgN 4) (asB (dBin gNotIn (dVar 1) (dVar 4))) (dVar 4))) (dNil))) (gMake att 11 F_Book___init__ []))
def F_Book_without:DE:=callF 5 2 g_Book_without
def mt_without_B:Nat→Option DE
 | 11=>some F_Book_without
 | _=>none
def g__law_value_v2:DS :=
 seqS (sSet 1 1 (dFn F__law_pick (dCons (dVar 0) (dCons (dLend (dLst (dCons (dBin gSub (dFn F__law_take (dCons (dVar 0) (dCons (retE (.dat (.int 21))) (dNil)))) (retE (.dat (.int 10)))) (dCons (retE (.dat (.int 0))) (dCons (retE (.dat (.int 7))) (dCons (dBin gSub (dFn F__law_take (dCons (dVar 0) (dCons (retE (.dat (.int 2001))) (dNil)))) (retE (.dat (.int 1000)))) (dNil))))))) (dNil))))) <|
 sRet (dIfE (asB (dBin gEq (dFn F__law_take (dCons (dVar 0) (dCons (retE (.dat (.int 2))) (dNil)))) (retE (.dat (.int 0))))) (dVar 1) (dTup (dCons (froze (dVar 1)) (dCons (froze (dBin gAdd (retE (.dat (.int 1))) (dFn F__law_take (dCons (dVar 0) (dCons (retE (.dat (.int 12))) (dNil)))))) (dNil)))))
def F__law_value_v2:DE:=callF 2 1 g__law_value_v2
def g__law_refused_v2:DS :=
 seqS (sSet 2 2 (retE (.dat .non))) <|
 seqS (sTryAs 5 3 (sExpr (dMth "led" mt_led_T (dVar 0) (dCons (dLend (dVar 1)) (dNil)))) (fun fs=>sSet 2 2 ((fAt "at") fs))) <|
 sRet (dVar 2)
def F__law_refused_v2:DE:=callF 4 2 g__law_refused_v2
def g__law_any_v2 (R:DE):DS :=
 seqS (sSet 2 2 (dFn F__law_take (dCons (dVar 0) (dCons (retE (.dat (.int 14))) (dNil))))) <|
 seqS (sIf (dAndT (asB (dBin gLt (dVar 2) (retE (.dat (.int 4))))) (asB (dBin gGt (dVar 1) (retE (.dat (.int 0)))))) (seqS (sSet 3 2 (dLc [6] (dRange1 (dFn F__law_take (dCons (dVar 0) (dCons (retE (.dat (.int 3))) (dNil))))) (tgN 6) (yesT) (dFn R (dCons (dVar 0) (dCons (dBin gSub (dVar 1) (retE (.dat (.int 1)))) (dNil)))))) <|
 sRet (dIfE (asB (dBin gLt (dVar 2) (retE (.dat (.int 2))))) (dVar 3) (dCall (gTupOf) (dCons (dVar 3) (dNil))))) (nxS)) <|
 seqS (sSet 4 2 (dLst (dCons (retE (.dat (.str ""))) (dCons (retE (.dat (.str "a"))) (dCons (retE (.dat (.str "left"))) (dCons (retE (.dat (.str "talk"))) (dCons (retE (.dat (.str "behind"))) (dCons (retE (.dat (.str "1 1"))) (dCons (retE (.dat (.str "1"))) (dCons (retE (.dat (.str "1 0, 1 1"))) (dCons (retE (.dat (.str "7 8"))) (dCons (retE (.dat (.str "abcdefg"))) (dCons (retE (.dat (.str "A"))) (dCons (retE (.dat (.str "\n"))) (dNil))))))))))))))) <|
 seqS (sSet 5 2 (dLst (dCons (retE (.dat .non)) (dCons (retE (.dat (.bl true))) (dCons (retE (.dat (.bl false))) (dCons (retE (.dat (.int 0))) (dCons (retE (.dat (.int 1))) (dCons (retE (.dat (.int 2))) (dCons (dBin gSub (retE (.dat (.int 0))) (retE (.dat (.int 1)))) (dCons (dBin gSub (dBin gPow (retE (.dat (.int 10))) (retE (.dat (.int 9)))) (retE (.dat (.int 1)))) (dCons (froze (dLst (dCons (retE (.dat (.int 1))) (dNil)))) (dCons (dTup (dCons (retE (.dat (.int 1))) (dCons (retE (.dat (.int 2))) (dNil)))) (dCons (dTup (dCons (retE (.dat (.int 1))) (dCons (retE (.dat (.int 0))) (dNil)))) (dCons (froze (dLst (dCons (retE (.dat (.int 1))) (dCons (retE (.dat (.int 1))) (dNil))))) (dNil))))))))))))))) <|
 sRet (dIfE (asB (dBin gLt (dVar 2) (retE (.dat (.int 9))))) (dFn F__law_pick (dCons (dVar 0) (dCons (dLend (dVar 4)) (dNil)))) (dFn F__law_pick (dCons (dVar 0) (dCons (dLend (dVar 5)) (dNil)))))
def S__law_any_v2 (R:DE):DE:=callF 7 2 (g__law_any_v2 R)
def F__law_any_v2:DE:=deepF S__law_any_v2 5
def b__law_deep_1:DS :=
 sSet 1 1 (dIfE (asB (dBin gEq (dFn F__law_take (dCons (dVar 0) (dCons (retE (.dat (.int 2))) (dNil)))) (retE (.dat (.int 0))))) (dLst (dCons (froze (dVar 1)) (dNil))) (dTup (dCons (froze (dVar 1)) (dNil))))
def g__law_deep:DS :=
 seqS (sSet 1 1 (dFn F__law_any_v2 (dCons (dVar 0) (dCons (retE (.dat (.int 0))) (dNil))))) <|
 seqS (sSet 1 1 (dIfE (asB (dIsi2 "list" "tuple" (dVar 1))) (retE (.dat (.int 0))) (dVar 1))) <|
 seqS (sFor (dRange1 (retE (.dat (.int 7)))) (tgN 2) (b__law_deep_1)) <|
 sRet (dVar 1)
def F__law_deep:DE:=callF 3 1 g__law_deep
def g__law_is_value:DS :=
 seqS (sIf (dNotT (asB (dCall (on2 hIsi) (dCons (dVar 0) (dCons (retE (.dat (.ty "tuple"))) (dNil)))))) (sRet (dFn F_is_int (dCons (dLend (dVar 0)) (dNil)))) (nxS)) <|
 sRet (dAndV (dBin gEq (dCall (on1 hLen) (dCons (dVar 0) (dNil))) (retE (.dat (.int 2)))) (dAndV (dFn F_is_int (dCons (dBin gIx (dVar 0) (retE (.dat (.int 0)))) (dNil))) (dAndV (dFn F_is_int (dCons (dBin gIx (dVar 0) (retE (.dat (.int 1)))) (dNil))) (dBin gGt (dBin gIx (dVar 0) (retE (.dat (.int 1)))) (retE (.dat (.int 0)))))))
def F__law_is_value:DE:=callF 1 1 g__law_is_value
def g__law_due:DS :=
 seqS (sIf (dOrT (dNotT (asB (dIsi2 "list" "tuple" (dVar 0)))) (asB (dBin gNe (dCall (on1 hLen) (dCons (dVar 0) (dNil))) (dVar 1)))) (sRet (retE (.dat (.int 0)))) (nxS)) <|
 seqS (sSet 2 2 (dLc [3,4] (dEnum (dVar 0)) (tgT [3,4]) (dNotT (asB (dFn F__law_is_value (dCons (dLend (dVar 4)) (dNil))))) (dVar 3))) <|
 sRet (dIfE (asB (dBin gNe (dVar 2) (dLst (dNil)))) (dBin gIx (dVar 2) (retE (.dat (.int 0)))) (retE (.dat .non)))
def F__law_due:DE:=callF 5 2 g__law_due
def b_law_k05_1:DS :=
 seqS (sSet 8 1 (dLst (dCons (froze (dFn F__law_any_v2 (dCons (dVar 2) (dCons (retE (.dat (.int 3))) (dNil))))) (dCons (froze (dFn F__law_deep (dCons (dVar 2) (dNil)))) (dCons (retE (.dat (.bl true))) (dCons (retE (.dat .non)) (dCons (retE (.dat (.str "3"))) (dCons (dTup (dCons (retE (.dat (.int 1))) (dCons (retE (.dat (.int 0))) (dNil)))) (dCons (dTup (dCons (retE (.dat (.int 1))) (dCons (dBin gSub (retE (.dat (.int 0))) (retE (.dat (.int 2)))) (dNil)))) (dCons (froze (dLst (dCons (retE (.dat (.int 1))) (dCons (retE (.dat (.int 2))) (dNil))))) (dCons (dTup (dCons (retE (.dat (.int 1))) (dNil))) (dCons (dTup (dCons (retE (.dat (.int 1))) (dCons (retE (.dat (.int 2))) (dCons (retE (.dat (.int 3))) (dNil))))) (dNil))))))))))))) <|
 seqS (sSet 8 1 (dBin gAdd (dVar 8) (dLst (dCons (dTup (dCons (retE (.dat (.int 1))) (dCons (retE (.dat (.bl true))) (dNil)))) (dCons (dTup (dCons (retE (.dat .non)) (dCons (retE (.dat (.int 1))) (dNil)))) (dCons (dTup (dCons (dTup (dCons (retE (.dat (.int 1))) (dCons (retE (.dat (.int 2))) (dNil)))) (dCons (retE (.dat (.int 3))) (dNil)))) (dCons (retE (.dat (.int 0))) (dCons (dTup (dCons (retE (.dat (.int 4))) (dCons (retE (.dat (.int 6))) (dNil)))) (dNil))))))))) <|
 seqS (sSet 9 1 (dFn F__law_take (dCons (dVar 2) (dCons (dLend (dBin gAdd (dCall (on1 hLen) (dCons (dVar 6) (dNil))) (retE (.dat (.int 1))))) (dNil))))) <|
 sIf (asB (dBin gLt (dVar 9) (dCall (on1 hLen) (dCons (dVar 6) (dNil))))) (sStore (dFn F__law_pick (dCons (dVar 2) (dCons (dLend (dVar 8)) (dNil)))) (dVar 6) (dVar 9)) (sSet 6 1 (dIfE (asB (dBin gEq (dFn F__law_take (dCons (dVar 2) (dCons (retE (.dat (.int 2))) (dNil)))) (retE (.dat (.int 0))))) (dBin gAdd (dVar 6) (dLst (dCons (retE (.dat (.int 1))) (dNil)))) (dSlc (dVar 6) (dNoPart) (dPart (dUn hNeg (retE (.dat (.int 1))))))))
def b_law_k05_2:DS :=
 seqS (sSet 4 1 (dBin gAdd (retE (.dat (.int 1))) (dFn F__law_take (dCons (dVar 2) (dCons (retE (.dat (.int 4))) (dNil)))))) <|
 seqS (sPar2 5 6 1 (dCons (bindE (dCons (dLend (dFn F__law_rows (dCons (dVar 2) (dCons (dLend (dVar 4)) (dCons (retE (.dat (.int 3))) (dNil)))))) (dNil)) (gMake att 10 F_Talk___init__ [])) (dCons (dLc [11] (dRange1 (dVar 4)) (tgN 11) (yesT) (dFn F__law_value_v2 (dCons (dVar 2) (dNil)))) (dNil)))) <|
 seqS (sIf (asB (dBin gNotN (dFn F__law_refused_v2 (dCons (dLend (dVar 5)) (dCons (dLend (dVar 6)) (dNil)))) (retE (.dat .non)))) (sRet (retE (.dat (.bl false)))) (nxS)) <|
 seqS (sFor (dRange1 (dBin gAdd (retE (.dat (.int 1))) (dFn F__law_take (dCons (dVar 2) (dCons (retE (.dat (.int 2))) (dNil)))))) (tgN 7) (b_law_k05_1)) <|
 seqS (sIf (asB (dBin gNe (dCall (on1 hRepr) (dCons (dFn F__law_refused_v2 (dCons (dLend (dVar 5)) (dCons (dLend (dVar 6)) (dNil)))) (dNil))) (dCall (on1 hRepr) (dCons (dFn F__law_due (dCons (dLend (dVar 6)) (dCons (dLend (dVar 4)) (dNil)))) (dNil))))) (sRet (retE (.dat (.bl false)))) (nxS)) <|
 seqS (sSet 10 1 (dFn F__law_any_v2 (dCons (dVar 2) (dCons (retE (.dat (.int 3))) (dNil))))) <|
 sIf (asB (dBin gNe (dCall (on1 hRepr) (dCons (dFn F__law_refused_v2 (dCons (dLend (dVar 5)) (dCons (dLend (dVar 10)) (dNil)))) (dNil))) (dCall (on1 hRepr) (dCons (dFn F__law_due (dCons (dLend (dVar 10)) (dCons (dLend (dVar 4)) (dNil)))) (dNil))))) (sRet (retE (.dat (.bl false)))) (nxS)
def b_law_k05_3:DS :=
 seqS (sSet 2 1 (dFn F__law_box (dCons (dLend (dVar 0)) (dCons (dLend (dVar 1)) (dNil))))) <|
 sFor (dRange1 (retE (.dat (.int 8)))) (tgN 3) (b_law_k05_2)
def g_law_k05:DS :=
 seqS (sFor (dRange1 (dCall (on2 hMax2) (dCons (retE (.dat (.int 1))) (dCons (dCall (on2 hMin2) (dCons (retE (.dat (.int 5))) (dCons (dCall (on1 hLen) (dCons (dVar 0) (dNil))) (dNil)))) (dNil))))) (tgN 1) (b_law_k05_3)) <|
 sRet (retE (.dat (.bl true)))
inductive Sees:SV→List D→Prop
 | lst (l:List D):Sees (.dat (.lst l)) l
 | tup (l:List D):Sees (.dat (.tup l)) l
 | lck (l:List D):Sees (.lck (.lst l)) l
def rowL (r:List Int):D:=.lst (r.map .int)
def rowT (r:List Int):D:=.tup (r.map .int)
inductive IsRow:D→List Int→Prop
 | lst (r:List Int):IsRow (rowL r) r
 | tup (r:List Int):IsRow (rowT r) r
inductive IsRows:List D→List (List Int)→Prop
 | nil:IsRows [] []
 | cons {d:D} {r:List Int} {ds:List D} {R:List (List Int)}:IsRow d r→IsRows ds R→IsRows (d :: ds) (r :: R)
theorem IsRows.length:∀ {ds:List D} {R:List (List Int)},IsRows ds R→ds.length=R.length
 | _,_,.nil=>rfl
 | _,_,.cons _ t=>congrArg Nat.succ t.length
theorem IsRows.at:∀ {ds:List D} {R:List (List Int)} {i:Nat} {d:D},IsRows ds R→ds[i]?=some d→∃ r,R[i]?=some r∧IsRow d r
 | _,_,_,_,.nil,e=>by simp at e
 | _,_,0,_,.cons x _,e=>by simp at e; subst e; exact ⟨_,rfl,x⟩
 | _,_,i+1,_,.cons _ t,e=>by
  obtain ⟨r,h1,h2⟩:=t.at (i:=i) (by simpa using e)
  exact ⟨r,by simpa using h1,h2⟩
theorem isRows_lst:∀ R:List (List Int),IsRows (R.map rowL) R
 | []=>.nil
 | r :: R=>.cons (.lst r) (isRows_lst R)
structure Good (R:List (List Int)):Prop where
 pos:0 < R.length
 few:R.length≤1000
 len:∀ r∈R,r.length=R.length
 nn:∀ r∈R,∀ z∈r,0≤z∧z < 2 ^ 199
 diag:∀ (i:Nat) (r:List Int),R[i]?=some r→∃ z,r[i]?=some z∧0 < z
def gcdL (r:List Int):Nat:=r.foldl (fun g z=>Nat.gcd g z.natAbs) 0
def norm (r:List Int):List Int:=r.map fun z=>z / (gcdL r:Int)
def talkD (R:List (List Int)):D:=.obj 10 [.tup (R.map rowT)]
theorem is_int_ok (i:Int):F_is_int [some (.dat (.int i))]=some (.ok (.dat (.bl true)) [none]):=by
 simp [F_is_int,g_is_int,isKind]
theorem is_number_ok (i:Int):F_is_number [some (.dat (.int i))]=some (.ok (.dat (.bl (decide (0≤i)))) [none]):=by
 simp [F_is_number,g_is_number,is_int_ok]
theorem is_sequence_ok {s:SV} {l:List D} (h:Sees s l):F_is_sequence [some s]=some (.ok (.dat (.bl true)) [none]):=by
 cases h <;> simp [F_is_sequence,g_is_sequence,isKind,MO.see]
theorem all_true (l:List Int) (h:∀ z∈l,0≤z):D.bools.go (l.map fun z=>D.bl (decide (0≤z)))=some (l.map fun _=>true):=by
 induction l with
 | nil=>rfl
 | cons z r ih =>
  have h0:decide (0≤z)=true:=decide_eq_true (h z List.mem_cons_self)
  simp only [List.map_cons,D.bools.go,h0,ih fun x hx=>h x (List.mem_cons_of_mem _ hx),Option.map_some]
theorem atI_int {r:List Int} {i:Nat} {z:Int} (h:r[i]?=some z):atI (r.map D.int) (i:Int)=some (.int z):=atI_nat (by rw [List.getElem?_map,h]; rfl)
theorem is_row_of_ok {d:D} {r:List Int} {i:Nat} {n:Nat} {z:Int} (h:IsRow d r) (hl:r.length=n) (hn:n≤1000) (nn:∀ z∈r,0≤z) (hi:r[i]?=some z) (hz:0 < z) :
  F_is_row_of [some (.dat d),some (.dat (.int i)),some (.dat (.int n))]=some (.ok (.dat (.bl true)) [none,none,none]):=by
 have lp:=fun (s:SV)=>loopC_map (i:=3) (fe:=froze (dFn F_is_number (dCons (dLend (dVar 3)) dNil))) (fun d=>match d with | .int z=>.bl (decide (0≤z)) | _=>.non) (ρ:=[some s,some (.dat (.int i)),some (.dat (.int n)),none]) (fun x=>rfl) (r.map D.int) [] (by
  intro d hd
  obtain ⟨z,hz,rfl⟩:=List.mem_map.mp hd
  simp [is_number_ok]) (by simp; omega)
 have e:(r.map D.int).map (fun d=>match d with | .int z=>D.bl (decide (0≤z)) | _=>.non)=r.map fun z=>D.bl (decide (0≤z)):=by rw [List.map_map]; rfl
 have q:=all_true r nn
 have e2:(List.map (fun _=>true) r).all id=true:=by simp
 cases h with
 | lst=>simp [F_is_row_of,g_is_row_of,rowL,is_sequence_ok (Sees.lst _),hl,lp,e,q,e2,atI_int hi,hz]
 | tup=>simp [F_is_row_of,g_is_row_of,rowT,is_sequence_ok (Sees.tup _),hl,lp,e,q,e2,atI_int hi,hz]
theorem first_wrong_ok {s:SV} {ds:List D} {R:List (List Int)} (h:Sees s ds) (hr:IsRows ds R) (g:Good R):F_first_wrong_row [some s]=some (.ok (.dat .non) [none]):=by
 have hl:=hr.length
 have h0:=g.pos
 have h1:=g.few
 have body:∀ (i:Nat) (d:D),ds[i]?=some d→∀ s':SV,Sees s' ds→b_first_wrong_row_1 [some s',some (.dat (.int i)),some (.dat d)]=some (.nx [some s',some (.dat (.int i)),some (.dat d)]):=by
  intro i d hd s' hs
  obtain ⟨r,e,ir⟩:=hr.at hd
  have hm:=List.mem_of_getElem? e
  obtain ⟨z,hz,z0⟩:=g.diag i r e
  have ok:=is_row_of_ok ir (g.len r hm) h1 (fun z hz=>(g.nn r hm z hz).1) hz z0
  cases hs <;> simp [b_first_wrong_row_1,MO.see,hl,ok]
 have lp:∀ s':SV,Sees s' ds→∃ x y,loopS (tgT [1,2]) b_first_wrong_row_1 (enumL ds) [some s',none,none]=some (.nx [some s',x,y]):=by
  intro s' hs
  obtain ⟨ρ',⟨x,y,rfl⟩,e⟩:=loopS_at (tg:=tgT [1,2]) (body:=b_first_wrong_row_1) (enumL ds) (fun i ρ=>∃ x y,ρ=[some s',x,y]) (by
   rintro i d ρ hd ⟨x,y,rfl⟩
   have hi:i < ds.length:=by
    have:=(List.getElem?_eq_some_iff.mp hd).1
    rwa [enumL_length] at this
   rw [enumL_at (List.getElem?_eq_getElem hi)] at hd
   cases hd
   refine ⟨_,_,rfl,.inl (body i _ (List.getElem?_eq_getElem hi) s' hs),_,_,rfl⟩) (ρ:=[some s',none,none]) ⟨none,none,rfl⟩
  exact ⟨x,y,e⟩
 have n0:¬ ds.length=0:=by omega
 have n1:¬ R=[]:=fun w=>by subst w; simp at h0
 cases h with
 | lst =>
  obtain ⟨x,y,e⟩:=lp _ (.lst ds)
  simp [F_first_wrong_row,g_first_wrong_row,is_sequence_ok (Sees.lst ds),hl,n1,e]
 | tup =>
  obtain ⟨x,y,e⟩:=lp _ (.tup ds)
  simp [F_first_wrong_row,g_first_wrong_row,is_sequence_ok (Sees.tup ds),hl,n1,e]
 | lck =>
  obtain ⟨x,y,e⟩:=lp _ (.lck ds)
  simp [F_first_wrong_row,g_first_wrong_row,MO.see,is_sequence_ok (Sees.lck ds),hl,n1,e]
theorem gcd_loop {s:Option SV}:∀ (r:List Int) (g:Nat) (x:Option SV),∃ y,loopS (tgN 2) b_common_divisor_1 (r.map D.int) [s,some (.dat (.int (g:Int))),x]=some (.nx [s,some (.dat (.int (r.foldl (fun g z=>Nat.gcd g z.natAbs) g:Nat))),y])
 | [],g,x=>⟨x,rfl⟩
 | z :: r,g,x=>by
  obtain ⟨y,e⟩:=gcd_loop (s:=s) r (Nat.gcd g z.natAbs) (some (.dat (.int z)))
  refine ⟨y,?_⟩
  rw [List.map_cons,ev_loopS_cons]
  simp [b_common_divisor_1]
  simpa [b_common_divisor_1] using e
theorem common_divisor_ok {d:D} {r:List Int} (h:IsRow d r):F_common_divisor [some (.dat d)]=some (.ok (.dat (.int (gcdL r:Int))) [none]):=by
 obtain ⟨y,e⟩:=gcd_loop (s:=some (.dat d)) r 0 none
 have e:loopS (tgN 2) b_common_divisor_1 (r.map D.int) [some (.dat d),some (.dat (.int 0)),none]=some (.nx [some (.dat d),some (.dat (.int (gcdL r:Int))),y]):=e
 cases h with
 | lst=>unfold rowL at e ⊢; simp [F_common_divisor,g_common_divisor,e]
 | tup=>unfold rowT at e ⊢; simp [F_common_divisor,g_common_divisor,e]
theorem gcdL_go:∀ (r:List Int) (g:Nat),(r.foldl (fun g z=>Nat.gcd g z.natAbs) g) ∣ g∧∀ z∈r,(r.foldl (fun g z=>Nat.gcd g z.natAbs) g) ∣ z.natAbs
 | [],g=>⟨Nat.dvd_refl _,fun z h=>by cases h⟩
 | x :: r,g=>by
  obtain ⟨a,b⟩:=gcdL_go r (Nat.gcd g x.natAbs)
  rw [List.foldl_cons]
  refine ⟨Nat.dvd_trans a (Nat.gcd_dvd_left _ _),fun z h=>?_⟩
  rcases List.mem_cons.mp h with rfl | h
  ·exact Nat.dvd_trans a (Nat.gcd_dvd_right _ _)
  ·exact b z h
theorem gcdL_dvd {r:List Int} {z:Int} (h:z∈r):gcdL r ∣ z.natAbs:=(gcdL_go r 0).2 z h
theorem gcdL_pos {r:List Int} {z:Int} (h:z∈r) (hz:0 < z):0 < gcdL r:=Nat.pos_of_ne_zero fun e=>by
 have:=gcdL_dvd h
 rw [e,Nat.zero_dvd] at this
 omega
theorem gcdL_le {r:List Int} {z:Int} (h:z∈r) (hz:0 < z):(gcdL r:Int)≤z:=by
 have:=Nat.le_of_dvd (by omega) (gcdL_dvd h)
 omega
theorem normal_row_ok {d:D} {r:List Int} {z:Int} (h:IsRow d r) (hm:z∈r) (h0:0 < z) (h1:z < 2 ^ 200) (hl:r.length≤10000):F_normal_row [some (.dat d)]=some (.ok (.dat (rowT (norm r))) [none]):=by
 have g0:=gcdL_pos hm h0
 have g1:=gcdL_le hm h0
 have c:∀ x,cDiv x (gcdL r:Int)=true:=fun x=>cDiv_ok (by omega) (Int.lt_of_le_of_lt g1 h1)
 have cd:=common_divisor_ok h
 have lp:=loopC_map (i:=2) (fe:=froze (dBin gFdiv (dVar 2) (dVar 1))) (fun d=>match d with | .int z=>.int (z / (gcdL r:Int)) | _=>.non) (ρ:=[some (.dat d),some (.dat (.int (gcdL r:Int))),none]) (fun x=>rfl) (r.map D.int) [] (by
  intro d hd
  obtain ⟨z,hz,rfl⟩:=List.mem_map.mp hd
  simp [c]) (by simp; omega)
 have e:(r.map D.int).map (fun d=>match d with | .int z=>D.int (z / (gcdL r:Int)) | _=>.non)=(norm r).map D.int:=by
  unfold norm
  rw [List.map_map,List.map_map]
  rfl
 rw [e] at lp
 cases h with
 | lst=>unfold rowL at cd lp ⊢; simp [F_normal_row,g_normal_row,cd,lp,rowT]
 | tup=>unfold rowT at cd lp ⊢; simp [F_normal_row,g_normal_row,cd,lp]
theorem init_talk_ok {s:SV} {ds:List D} {R:List (List Int)} (h:Sees s ds) (hr:IsRows ds R) (g:Good R):F_Talk___init__ [some (.own (.ins 10 [])),some s]=some (.ok (.dat .non) [some (.own (.ins 10 [("rows",.tup ((R.map norm).map rowT))])),none]):=by
 have hl:=hr.length
 have h1:=g.few
 have fw:=first_wrong_ok h hr g
 have lp:=loopC_list (i:=3) (fe:=froze (dFn F_normal_row (dCons (dLend (dVar 3)) dNil))) (ρ:=[some (.own (.ins 10 [])),some s,some (.dat .non),none]) (fun x=>rfl) ds ((R.map norm).map rowT) [] (by simp [hl]) (by
  intro k d e hd he
  obtain ⟨r,hk,ir⟩:=hr.at hd
  rw [List.getElem?_map,List.getElem?_map,hk] at he
  cases he
  have hm:=List.mem_of_getElem? hk
  obtain ⟨z,hz,z0⟩:=g.diag k r hk
  have zm:=List.mem_of_getElem? hz
  have lr:r.length≤10000:=by rw [g.len r hm]; omega
  have ok:=normal_row_ok ir zm z0 (Int.lt_of_lt_of_le (g.nn r hm z zm).2 (by decide)) lr
  simp [ok]) (by simp; omega)
 cases h with
 | lst=>simp [F_Talk___init__,g_Talk___init__,fw,lp]
 | tup=>simp [F_Talk___init__,g_Talk___init__,fw,lp]
 | lck=>simp [F_Talk___init__,g_Talk___init__,fw,lp]
theorem glue_go (a:Str):∀ (ys:List Str) (acc:Array Nat),(ys.foldl (fun acc p=>acc++a.cps++p.cps) acc).size=acc.size+(ys.map (·.length)).sum+ys.length * a.length
 | [],acc=>by simp
 | y :: ys,acc=>by
  rw [List.foldl_cons,glue_go a ys]
  simp only [Array.size_append,List.map_cons,List.sum_cons,List.length_cons,Str.length,Nat.add_mul,Nat.one_mul]
  omega
theorem join_len (a:Str) (ys:List Str):(Txt.join a ys).length≤(ys.map (·.length)).sum+ys.length * a.length:=by
 cases ys with
 | nil=>exact Nat.zero_le _
 | cons y ys =>
  show (ys.foldl (fun acc p=>acc++a.cps++p.cps) y.cps).size≤_
  rw [glue_go]
  simp only [List.map_cons,List.sum_cons,List.length_cons,Str.length,Nat.add_mul,Nat.one_mul]
  omega
theorem sum_le {l:List Nat} {b:Nat} (h:∀ x∈l,x≤b):l.sum≤l.length * b:=by
 induction l with
 | nil=>simp
 | cons x r ih =>
  have h1:=h x List.mem_cons_self
  have h2:=ih fun y hy=>h y (List.mem_cons_of_mem _ hy)
  simp only [List.sum_cons,List.length_cons,Nat.add_mul,Nat.one_mul]
  omega
def showI (z:Int):Str:=Str.ofString (toString z)
def txtRow (r:List Int):Str:=Txt.join " " (r.map showI)
def txt (R:List (List Int)):Str:=Txt.join ", " (R.map txtRow)
structure Tiny (R:List (List Int)):Prop where
 few:R.length≤10
 len:∀ r∈R,r.length≤10
 lt:∀ r∈R,∀ z∈r,z.natAbs < 10 ^ 20
theorem space_len:((" " : String):Str).length=1:=by decide +kernel
theorem comma_len:((", " : String):Str).length=2:=by decide +kernel
theorem nums_ints (r:List Int):D.nums_ (r.map D.int)=true∧D.pures (r.map D.int)=true∧D.deeps (r.map D.int)=0:=by
 induction r with
 | nil=>exact ⟨rfl,rfl,rfl⟩
 | cons z r ih =>
  obtain ⟨a,b,c⟩:=ih
  refine ⟨by simp [D.nums_,D.num,a],by simp [D.pures,D.pure,b],by simp [D.deeps,D.deep,c]⟩
@[simp] theorem hIsiX_obj (cs:List Nat) (c c':Nat) (l:List D):hIsiX cs (.obj c l) (.cls c')=if cs.contains c && cs.contains c' then some (.bl (decide (c=c'))) else none:=rfl
@[simp] theorem hIsiX_str (cs:List Nat) (x:Str) (c':Nat):hIsiX cs (.str x) (.cls c')=if cs.contains c' then some (.bl false) else none:=rfl
@[simp] theorem hIsiX_lst (cs:List Nat) (x:List D) (c':Nat):hIsiX cs (.lst x) (.cls c')=if cs.contains c' then some (.bl false) else none:=rfl
@[simp] theorem hIsiX_tup (cs:List Nat) (x:List D) (c':Nat):hIsiX cs (.tup x) (.cls c')=if cs.contains c' then some (.bl false) else none:=rfl
@[simp] theorem hIsiX_int (cs:List Nat) (x:Int) (c':Nat):hIsiX cs (.int x) (.cls c')=if cs.contains c' then some (.bl false) else none:=rfl
@[simp] theorem hIsiX_non (cs:List Nat) (c':Nat):hIsiX cs .non (.cls c')=if cs.contains c' then some (.bl false) else none:=rfl
def bx (a b c:Int):Option SV:=some (.own (.lst [.int a,.int b,.int c]))
theorem take_ok (a b c m:Int) (h0:0 < m) (h1:m < 2 ^ 40):∃ d a' b' c',0≤d∧d < m∧F__law_take [bx a b c,some (.dat (.int m))]=some (.ok (.dat (.int d)) [bx a' b' c',none]):=by
 have hd:∀ x,cDiv x m=true:=fun x=>cDiv_ok h0 (by omega)
 by_cases ha:0 < a
 ·refine ⟨a % m,a / m,b,c,Int.emod_nonneg _ (by omega),Int.emod_lt_of_pos _ h0,?_⟩
  simp [F__law_take,g__law_take,bx,ha,h0,hd]
 ·obtain ⟨raw,hraw⟩:∃ x,x=(b+96137 * (c+1)) * 41399 % 2147483647:=⟨_,rfl⟩
  obtain ⟨sd,hsd⟩:∃ x,x=(raw * 60493+25903) % 2147483629+1:=⟨_,rfl⟩
  refine ⟨(raw * 2147483647+sd) / 8191 % m,a,sd,c+1,Int.emod_nonneg _ (by omega),Int.emod_lt_of_pos _ h0,?_⟩
  simp [F__law_take,g__law_take,bx,ha,h0,hd,cMul_left,cMul_right,cDiv_ok,cPow,← hraw,← hsd]
theorem pick_ok (a b c:Int) (l:List D) (h0:0 < l.length) (h1:l.length≤10000):∃ x a' b' c',x∈l∧F__law_pick [bx a b c,some (.dat (.lst l))]=some (.ok (.dat x) [bx a' b' c',none]):=by
 obtain ⟨d,a',b',c',d0,d1,e⟩:=take_ok a b c l.length (by omega) (by omega)
 have hl:d.toNat < l.length:=by omega
 refine ⟨l[d.toNat],a',b',c',List.getElem_mem hl,?_⟩
 unfold bx at e ⊢
 simp [F__law_pick,g__law_pick,e,atI_of l d d0 hl]
theorem loopC_at {vs:List Nat} {tg:D→Sl→Option Sl} {ft:Ef Bool} {fe:DE} (ds:List D) (I:Nat→List D→Sl→Prop)
  (step:∀ i d acc ρ,ds[i]?=some d→I i acc ρ→∃ ρ1 ρ2,tg d ρ=some ρ1∧((ft ρ1=some (.ok true ρ2)∧∃ e ρ3,fe ρ2=some (.ok (.dat e) ρ3)∧acc.length < 10000∧I (i+1) (acc++[e]) (wipeR ρ3 vs))∨(ft ρ1=some (.ok false ρ2)∧I (i+1) acc (wipeR ρ2 vs)))) {ρ:Sl} (h:I 0 [] ρ) :
  ∃ acc ρ',I ds.length acc ρ'∧loopC vs tg ft fe ds [] ρ=some (.ok (.own (.lst acc)) ρ'):=by
 obtain ⟨acc',ρ',⟨i,e,hi,h'⟩,q⟩:=loopC_inv (vs:=vs) (tg:=tg) (ft:=ft) (fe:=fe) (fun l acc ρ=>∃ i,l=ds.drop i∧i≤ds.length∧I i acc ρ) (by
  rintro d r acc ρ ⟨i,e,hi,h⟩
  have lt:i < ds.length:=by
   refine Nat.lt_of_le_of_ne hi fun w=>?_
   subst w
   rw [List.drop_length] at e
   cases e
  rw [List.drop_eq_getElem_cons lt] at e
  injection e with e1 e2
  obtain ⟨ρ1,ρ2,h1,h2⟩:=step i d acc ρ (by rw [List.getElem?_eq_getElem lt,e1]) h
  refine ⟨ρ1,ρ2,h1,?_⟩
  rcases h2 with ⟨h2,x,ρ3,h3,h4,h5⟩ | ⟨h2,h3⟩
  ·exact .inl ⟨h2,x,ρ3,h3,h4,i+1,e2,lt,h5⟩
  ·exact .inr ⟨h2,i+1,e2,lt,h3⟩) ds [] ρ ⟨0,rfl,Nat.zero_le _,h⟩
 have:i=ds.length:=by
  have:=congrArg List.length e
  simp at this
  omega
 subst this
 exact ⟨acc',ρ',h',q⟩
theorem snoc_int (r:List Int) (z:Int):r.map D.int++[.int z]=(r++[z]).map D.int:=by simp
theorem ixN_of {n i:Nat} (h:i < n):ixN n (i:Int)=some i:=by
 unfold ixN
 have h1:¬ ((i:Int) < 0):=by omega
 simp [h1]
 omega
theorem law_row_ok (a b c:Int) (p top:Nat) (x3 x4 x5:Option SV) (hp:p≤1000) (ht:top < 2 ^ 30):∃ (r:List Int) (a' b' c':Int),r.length=p∧(∀ z∈r,0≤z∧z≤top∨z=1) ∧
  loopC [6] (tgN 6) yesT (froze e__law_rows_1) (rangeL 0 p) [] [bx a b c,some (.dat (.int p)),some (.dat (.int top)),x3,x4,x5,none]=some (.ok (.own (.lst (r.map D.int))) [bx a' b' c',some (.dat (.int p)),some (.dat (.int top)),x3,x4,x5,none]):=by
 obtain ⟨acc,ρ',⟨r,a',b',c',rfl,rfl,h1,h2⟩,e⟩:=loopC_at (vs:=[6]) (tg:=tgN 6) (ft:=yesT) (fe:=froze e__law_rows_1) (rangeL 0 p)
  (fun i acc ρ=>∃ (r:List Int) (a' b' c':Int),acc=r.map D.int∧ρ=[bx a' b' c',some (.dat (.int p)),some (.dat (.int top)),x3,x4,x5,none]∧r.length=i∧∀ z∈r,0≤z∧z≤top∨z=1) (by
  rintro i d acc ρ hd ⟨r,a1,b1,c1,rfl,rfl,h1,h2⟩
  have hi:i < p:=by
   have:=(List.getElem?_eq_some_iff.mp hd).1
   rwa [rangeL_length] at this
  obtain ⟨t,a2,b2,c2,t0,t1,et⟩:=take_ok a1 b1 c1 (top+1) (by omega) (by omega)
  obtain ⟨x,a3,b3,c3,hx,ep⟩:=pick_ok a2 b2 c2 [.int 0,.int 0,.int 1,.int t] (by simp) (by simp)
  obtain ⟨z,rfl,hz⟩:∃ z,x=.int z∧(0≤z∧z≤(top:Int)∨z=1):=by
   simp only [List.mem_cons,List.not_mem_nil,or_false] at hx
   rcases hx with rfl | rfl | rfl | rfl
   ·exact ⟨0,rfl,.inl ⟨by omega,by omega⟩⟩
   ·exact ⟨0,rfl,.inl ⟨by omega,by omega⟩⟩
   ·exact ⟨1,rfl,.inr rfl⟩
   ·exact ⟨t,rfl,.inl ⟨t0,by omega⟩⟩
  refine ⟨_,_,rfl,.inl ⟨rfl,.int z,[bx a3 b3 c3,some (.dat (.int p)),some (.dat (.int top)),x3,x4,x5,some (.dat d)],?_,by simp; omega,r++[z],a3,b3,c3,snoc_int r z,rfl,by simp [h1],?_⟩⟩
  ·unfold bx at et ep ⊢
   simp [e__law_rows_1,et,ep]
  ·intro y hy
   rcases List.mem_append.mp hy with hy | hy
   ·exact h2 y hy
   ·rw [List.mem_singleton.mp hy]; exact hz) (ρ:=[bx a b c,some (.dat (.int p)),some (.dat (.int top)),x3,x4,x5,none]) ⟨[],a,b,c,rfl,rfl,rfl,fun z h=>by cases h⟩
 rw [rangeL_length] at h1
 exact ⟨r,a',b',c',h1,h2,e⟩
structure Drawn (R:List (List Int)) (p top:Nat):Prop where
 many:R.length=p
 len:∀ r∈R,r.length=p
 nn:∀ r∈R,∀ z∈r,0≤z∧z≤top∨z=1
 diag:∀ (i:Nat) (r:List Int),R[i]?=some r→∃ z,r[i]?=some z∧0 < z
theorem law_rows_ok (a b c:Int) (p top:Nat) (hp:p≤1000) (h0:0 < top) (ht:top < 2 ^ 30):∃ (R:List (List Int)) (a' b' c':Int),Drawn R p top∧F__law_rows [bx a b c,some (.dat (.int p)),some (.dat (.int top))]=some (.ok (.own (.lst (R.map rowL))) [bx a' b' c',none,none]):=by
 obtain ⟨ρ',⟨R,a',b',c',v4,v5,rfl,h1,h2,h3,h4⟩,e⟩:=loopS_at (tg:=tgN 4) (body:=b__law_rows_2) (rangeL 0 p) (fun i ρ=>∃ (R:List (List Int)) (a' b' c':Int) (v4 v5:Option SV),ρ=[bx a' b' c',some (.dat (.int p)),some (.dat (.int top)),some (.own (.lst (R.map rowL))),v4,v5,none]∧R.length=i∧(∀ r∈R,r.length=p)∧(∀ r∈R,∀ z∈r,0≤z∧z≤(top:Int)∨z=1)∧∀ (j:Nat) (r:List Int),R[j]?=some r→∃ z,r[j]?=some z∧0 < z) (by
  rintro i d ρ hd ⟨R,a1,b1,c1,v4,v5,rfl,h1,h2,h3,h4⟩
  have hi:i < p:=by
   have:=(List.getElem?_eq_some_iff.mp hd).1
   rwa [rangeL_length] at this
  rw [rangeL_at hi] at hd
  cases hd
  obtain ⟨r,a2,b2,c2,r1,r2,er⟩:=law_row_ok a1 b1 c1 p top (some (.own (.lst (R.map rowL)))) (some (.dat (.int (0+(i:Nat))))) v5 hp ht
  obtain ⟨t,a3,b3,c3,t0,t1,et⟩:=take_ok a2 b2 c2 top (by omega) (by omega)
  have ix:=ixN_of (n:=r.length) (i:=i) (by omega)
  have bi:(R.map rowL).length < 10000:=by simp; omega
  have e2:(r.map D.int).set i (.int (1+t))=(r.set i (1+t)).map D.int:=by rw [List.map_set]
  have pa:p≤100000:=by omega
  have ri:R.length < 10000:=by omega
  refine ⟨_,[bx a3 b3 c3,some (.dat (.int p)),some (.dat (.int top)),some (.own (.lst ((R++[r.set i (1+t)]).map rowL))),some (.dat (.int (0+(i:Nat)))),some (.dat (rowL (r.set i (1+t)))),none],rfl,.inl ?_,R++[r.set i (1+t)],a3,b3,c3,_,_,rfl,?_,?_,?_,?_⟩
  ·unfold bx at er et ⊢
   simp at er
   simp [b__law_rows_2,er,et,ix,ri,pa,rowL]
  ·simp [h1]
  ·intro q hq
   rcases List.mem_append.mp hq with hq | hq
   ·exact h2 q hq
   ·rw [List.mem_singleton.mp hq,List.length_set]; exact r1
  ·intro q hq z hz
   rcases List.mem_append.mp hq with hq | hq
   ·exact h3 q hq z hz
   ·rw [List.mem_singleton.mp hq] at hz
    rcases List.mem_or_eq_of_mem_set hz with hz | rfl
    ·exact r2 z hz
    ·omega
  ·intro j q hq
   by_cases hj:j < R.length
   ·rw [List.getElem?_append_left hj] at hq
    exact h4 j q hq
   ·have hj':j=R.length:=by
     have:=(List.getElem?_eq_some_iff.mp hq).1
     simp at this
     omega
    subst hj'
    rw [List.getElem?_append_right (Nat.le_refl _)] at hq
    simp at hq
    subst hq
    exact ⟨1+t,by rw [h1,List.getElem?_set_self (by omega)],by omega⟩) (ρ:=[bx a b c,some (.dat (.int p)),some (.dat (.int top)),some (.own (.lst [])),none,none,none]) ⟨[],a,b,c,none,none,rfl,rfl,fun r h=>(by cases h),fun r h=>(by cases h),fun j r h=>(by simp at h)⟩
 rw [rangeL_length] at h1
 refine ⟨R,a',b',c',⟨h1,h2,h3,h4⟩,?_⟩
 have pa:p≤100000:=by omega
 unfold bx at e ⊢
 simp [F__law_rows,g__law_rows,pa,e]
theorem make_dat {d:D} {ds:List D} {R:List (List Int)} (h:Sees (.dat d) ds) (hr:IsRows ds R) (g:Good R) (ρ:Sl):gMake att 10 F_Talk___init__ [] [.dat d] ρ=some (.ok (.dat (talkD (R.map norm))) ρ):=by
 have i:=init_talk_ok h hr g
 simp [-ev_make,gMake,gMakeI,i,talkD,List.set_append_right]
theorem gcd_scale (m:Nat):∀ (r:List Int) (g:Nat),(r.map fun z=>z * (m:Int)).foldl (fun g z=>Nat.gcd g z.natAbs) (g * m)=(r.foldl (fun g z=>Nat.gcd g z.natAbs) g) * m
 | [],g=>rfl
 | z :: r,g=>by
  rw [List.map_cons,List.foldl_cons,List.foldl_cons,Int.natAbs_mul,Int.natAbs_natCast,Nat.gcd_mul_right,gcd_scale m r]
theorem norm_scale {m:Nat} (hm:0 < m) (r:List Int):norm (r.map fun z=>z * (m:Int))=norm r:=by
 have e:gcdL (r.map fun z=>z * (m:Int))=gcdL r * m:=by
  have:=gcd_scale m r 0
  rwa [Nat.zero_mul] at this
 unfold norm
 rw [e,List.map_map]
 refine List.map_congr_left fun z _=>?_
 show z * (m:Int) / ((gcdL r * m:Nat):Int)=z / (gcdL r:Int)
 rw [Int.natCast_mul,Int.mul_ediv_mul_of_pos_left _ _ (by omega)]
theorem norm_norm {r:List Int} {z:Int} (hm:z∈r) (h0:0 < z):norm (norm r)=norm r:=by
 have g0:=gcdL_pos hm h0
 have e:norm r=norm ((norm r).map fun z=>z * (gcdL r:Int)):=by
  congr 1
  unfold norm
  rw [List.map_map]
  conv=>lhs; rw [← List.map_id r]
  refine List.map_congr_left fun x hx=>?_
  show x=x / (gcdL r:Int) * (gcdL r:Int)
  rw [Int.ediv_mul_cancel (Int.ofNat_dvd_left.mpr (gcdL_dvd hx))]
 rw [norm_scale g0] at e
 exact e.symm
theorem Drawn.good {R:List (List Int)} {p top:Nat} (d:Drawn R p top) (h0:0 < p) (hp:p≤1000) (ht:top < 2 ^ 30):Good R :=
 ⟨by rw [d.many]; exact h0,by rw [d.many]; exact hp,fun r hr=>by rw [d.len r hr,d.many],fun r hr z hz=>by rcases d.nn r hr z hz with h | h <;> omega,d.diag⟩
theorem norm_le {r:List Int} {z:Int} (h:z∈norm r) (nn:∀ z∈r,0≤z):∃ y∈r,0≤z∧z≤y:=by
 obtain ⟨y,hy,rfl⟩:=List.mem_map.mp h
 have h0:=nn y hy
 exact ⟨y,hy,Int.ediv_nonneg h0 (Int.natCast_nonneg _),Int.ediv_le_self _ h0⟩
theorem Good.norm {R:List (List Int)} (g:Good R):Good (R.map norm):=by
 refine ⟨by rw [List.length_map]; exact g.pos,by rw [List.length_map]; exact g.few,fun r hr=>?_,fun r hr z hz=>?_,fun i r hi=>?_⟩
 ·obtain ⟨q,hq,rfl⟩:=List.mem_map.mp hr
  unfold Sh.norm
  rw [List.length_map,List.length_map,g.len q hq]
 ·obtain ⟨q,hq,rfl⟩:=List.mem_map.mp hr
  obtain ⟨y,hy,h0,h1⟩:=norm_le hz fun z hz=>(g.nn q hq z hz).1
  exact ⟨h0,Int.lt_of_le_of_lt h1 (g.nn q hq y hy).2⟩
 ·rw [List.getElem?_map] at hi
  cases hq:R[i]? with
  | none=>rw [hq] at hi; cases hi
  | some q =>
   rw [hq] at hi
   cases hi
   obtain ⟨z,hz,z0⟩:=g.diag i q hq
   have zm:=List.mem_of_getElem? hz
   refine ⟨z / (gcdL q:Int),by unfold Sh.norm; rw [List.getElem?_map,hz]; rfl,?_⟩
   have gp:=gcdL_pos zm z0
   have gl:=gcdL_le zm z0
   exact Int.ediv_pos_of_pos_of_dvd z0 (by omega) (Int.ofNat_dvd_left.mpr (gcdL_dvd zm))
theorem norm_twice {R:List (List Int)} (g:Good R):(R.map norm).map norm=R.map norm:=by
 rw [List.map_map]
 refine List.map_congr_left fun r hr=>?_
 obtain ⟨i,hi⟩:=List.getElem?_of_mem hr
 obtain ⟨z,hz,z0⟩:=g.diag i r hi
 exact norm_norm (List.mem_of_getElem? hz) z0
theorem box_ok (ns:List Int) (k:Nat) (hk:k≤63):∃ a b c,F__law_box [some (.dat (.wri (ns.map D.int))),some (.dat (.int k))]=some (.ok (.own (.lst [.int a,.int b,.int c])) [none,none]):=by
 have fin:∀ cell:Int,∃ z,(if 1000000000000000000≤cell then (some (.ok (.dat (.int cell)) []):Option (Res RV)) else some (.ok (.dat (.int 0)) []))=some (.ok (.dat (.int z)) []):=by
  intro cell
  split <;> exact ⟨_,rfl⟩
 by_cases h1:k < ns.length
 ·have e:atI (ns.map D.int) (k:Int)=some (.int ns[k]):=by
   apply atI_nat
   simp [h1]
  have h1':(k:Int) < (ns.length:Int):=by omega
  obtain ⟨cell,hcell⟩:∃ x,x=(if ns[k] < 0 then -ns[k] else ns[k]):=⟨_,rfl⟩
  by_cases hc:1000000000000000000≤cell
  ·refine ⟨cell,(cell % 2147483629 * 63463+34703 * k+7) % 2147483629+1,0,?_⟩
   simp [F__law_box,g__law_box,cMul_left,cMul_right,h1,e,cPow,← hcell,hc]
  ·refine ⟨0,(cell % 2147483629 * 63463+34703 * k+7) % 2147483629+1,0,?_⟩
   simp [F__law_box,g__law_box,cMul_left,cMul_right,h1,e,cPow,← hcell,hc]
 ·by_cases h2:0 < ns.length
  ·have hp:(0:Int) < (ns.length:Int):=by omega
   have lt:k % ns.length < ns.length:=Nat.mod_lt _ h2
   have e:atI (ns.map D.int) ((k:Int) % (ns.length:Int))=some (.int ns[k % ns.length]):=by
    rw [← Int.natCast_emod]
    apply atI_nat
    simp [lt]
   obtain ⟨cell,hcell⟩:∃ x,x=6451 * (k:Int)+107+ns[k % ns.length] % 2147483629 * 94811:=⟨_,rfl⟩
   by_cases hc:1000000000000000000≤cell
   ·refine ⟨cell,(cell % 2147483629 * 63463+34703 * k+7) % 2147483629+1,0,?_⟩
    simp [F__law_box,g__law_box,cMul_left,cMul_right,h1,h2,hp,e,cPow,← hcell,hc]
   ·refine ⟨0,(cell % 2147483629 * 63463+34703 * k+7) % 2147483629+1,0,?_⟩
    simp [F__law_box,g__law_box,cMul_left,cMul_right,h1,h2,hp,e,cPow,← hcell,hc]
  ·obtain ⟨cell,hcell⟩:∃ x,x=6451 * (k:Int)+107:=⟨_,rfl⟩
   by_cases hc:1000000000000000000≤cell
   ·refine ⟨cell,(cell % 2147483629 * 63463+34703 * k+7) % 2147483629+1,0,?_⟩
    simp [F__law_box,g__law_box,cMul_left,cMul_right,h1,h2,cPow,← hcell,hc]
   ·refine ⟨0,(cell % 2147483629 * 63463+34703 * k+7) % 2147483629+1,0,?_⟩
    simp [F__law_box,g__law_box,cMul_left,cMul_right,h1,h2,cPow,← hcell,hc]
theorem seq_nx {g1 g2:DS} {ρ ρ':Sl} (h:g1 ρ=some (.nx ρ')):seqS g1 g2 ρ=g2 ρ':=by
 show (match g1 ρ with | some (.nx ρ')=>g2 ρ' | o=>o)=_
 rw [h]
theorem seq_ex {g1 g2:DS} {ρ ρ1:Sl} {Q:Sl→Prop} (h:g1 ρ=some (.nx ρ1)) (h2:∃ ρ',g2 ρ1=some (.nx ρ')∧Q ρ'):∃ ρ',seqS g1 g2 ρ=some (.nx ρ')∧Q ρ':=by
 obtain ⟨ρ',e,q⟩:=h2
 exact ⟨ρ',(seq_nx h).trans e,q⟩
theorem seq_rt {g1 g2:DS} {ρ ρ1:Sl} {r:RV} (h:g1 ρ=some (.nx ρ1)) (h2:∃ ρ',g2 ρ1=some (.rt r ρ')):∃ ρ',seqS g1 g2 ρ=some (.rt r ρ'):=by
 obtain ⟨ρ',e⟩:=h2
 exact ⟨ρ',(seq_nx h).trans e⟩
theorem take_nat (a b c m:Int) (h0:0 < m) (h1:m < 2 ^ 40):∃ (d:Nat) (a' b' c':Int),(d:Int) < m∧F__law_take [bx a b c,some (.dat (.int m))]=some (.ok (.dat (.int d)) [bx a' b' c',none]):=by
 obtain ⟨d,a',b',c',d0,d1,e⟩:=take_ok a b c m h0 h1
 obtain ⟨n,rfl⟩:=Int.eq_ofNat_of_zero_le d0
 exact ⟨n,a',b',c',d1,e⟩
def Slots (pre:Sl) (n m:Nat) (ρ:Sl):Prop:=∃ ys:Sl,ys.length=n∧ρ=pre++(ys++List.replicate m none)
theorem turns_ok {pre:Sl} {n m i:Nat} {body:DS} (ds:List D) (hi:i=pre.length+1)
  (step:∀ (d:D) (a b c:Int) (ys:Sl),d∈ds→ys.length=n→∃ ρ',body (pre++(bx a b c :: some (.dat d) :: (ys++List.replicate m none)))=some (.nx ρ')∧∃ a' b' c',Slots (pre++[bx a' b' c',some (.dat d)]) n m ρ') :
  ∀ (a b c:Int) (y:Option SV) (ys:Sl),ys.length=n→∃ ρ',loopS (tgN i) body ds (pre++(bx a b c :: y :: (ys++List.replicate m none)))=some (.nx ρ')∧∃ a' b' c' y',Slots (pre++[bx a' b' c',y']) n m ρ':=by
 intro a b c y ys hy
 obtain ⟨ρ',⟨a',b',c',y',h⟩,e⟩:=loopS_at (tg:=tgN i) (body:=body) ds (fun i ρ=>∃ a' b' c' y',Slots (pre++[bx a' b' c',y']) n m ρ) (by
  rintro j d ρ hd ⟨a,b,c,y,ys,hy,rfl⟩
  obtain ⟨ρ2,e,a',b',c',h⟩:=step d a b c ys (List.mem_of_getElem? hd) hy
  refine ⟨_,ρ2,rfl,.inl ?_,a',b',c',_,h⟩
  subst hi
  rw [← e]
  congr 1
  simp [List.set_append_right,List.append_assoc]) (ρ:=pre++(bx a b c :: y :: (ys++List.replicate m none))) ⟨a,b,c,y,ys,hy,by simp⟩
 exact ⟨ρ',e,a',b',c',y',h⟩
theorem cells_ok {s:SV} {n m:Nat} {body:DS} (c:Nat)
  (step:∀ (k:Nat) (ys:Sl),k < c→ys.length=n→∃ ρ',body (some s :: some (.dat (.int (k:Int))) :: (ys++List.replicate m none))=some (.nx ρ')∧Slots [some s,some (.dat (.int (k:Int)))] n m ρ') :
  ∀ (y:Option SV) (ys:Sl),ys.length=n→∃ ρ',loopS (tgN 1) body (rangeL 0 c) (some s :: y :: (ys++List.replicate m none))=some (.nx ρ')∧∃ y',Slots [some s,y'] n m ρ':=by
 intro y ys hy
 obtain ⟨ρ',⟨y',h⟩,e⟩:=loopS_at (tg:=tgN 1) (body:=body) (rangeL 0 c) (fun i ρ=>∃ y',Slots [some s,y'] n m ρ) (by
  rintro j d ρ hd ⟨y,ys,hy,rfl⟩
  have hj:j < c:=by
   have:=(List.getElem?_eq_some_iff.mp hd).1
   rwa [rangeL_length] at this
  rw [rangeL_at hj] at hd
  cases hd
  obtain ⟨ρ2,e,h⟩:=step j ys hj hy
  refine ⟨_,ρ2,rfl,.inl ?_,_,h⟩
  rw [← e]
  congr 1
  simp) (ρ:=some s :: y :: (ys++List.replicate m none)) ⟨y,ys,hy,by simp⟩
 exact ⟨ρ',e,y',h⟩
theorem frame_ok {s:SV} {n m c:Nat} {body fin:DS} {fi:Ef Wk}
  (hfi:∀ ys:Sl,fi (some s :: ys)=some (.ok (rangeL 0 c,[]) (some s :: ys)))
  (hfin:∀ (y:Option SV) (ys:Sl),ys.length=n→∃ ρ',fin (some s :: y :: (ys++List.replicate m none))=some (.rt (.dat (.bl true)) ρ'))
  (step:∀ (k:Nat) (ys:Sl),k < c→ys.length=n→∃ ρ',body (some s :: some (.dat (.int (k:Int))) :: (ys++List.replicate m none))=some (.nx ρ')∧Slots [some s,some (.dat (.int (k:Int)))] n m ρ') :
  ∃ ρ',seqS (sFor fi (tgN 1) body) fin (some s :: List.replicate (n+m+1) none)=some (.rt (.dat (.bl true)) ρ'):=by
 have e0:List.replicate (n+m+1) none=(none:Option SV) :: (List.replicate n none++List.replicate m none):=by
  rw [List.replicate_append_replicate,List.replicate_succ]
 rw [e0]
 obtain ⟨ρ1,e1,y,ys,hy,rfl⟩:=cells_ok (s:=s) c step none (List.replicate n none) (List.length_replicate ..)
 refine seq_rt (ρ1:=[some s,y]++(ys++List.replicate m none)) ?_ (hfin y ys hy)
 rw [ev_for,ev_bindS,hfi]
 exact e1
theorem cell_ok {s sk:Option SV} {n m:Nat} {body:DS} {fb:DE} {fi:Ef Wk} {ds:List D}
  (hb:∀ ys:Sl,∃ a b c,fb (s :: sk :: ys)=some (.ok (.own (.lst [.int a,.int b,.int c])) (s :: sk :: ys)))
  (hfi:∀ ys:Sl,fi (s :: sk :: ys)=some (.ok (ds,[]) (s :: sk :: ys)))
  (step:∀ (d:D) (a b c:Int) (ys:Sl),d∈ds→ys.length=n→∃ ρ',body (s :: sk :: bx a b c :: some (.dat d) :: (ys++List.replicate m none))=some (.nx ρ')∧∃ a' b' c',Slots [s,sk,bx a' b' c',some (.dat d)] n m ρ')
  (ys:Sl) (hy:ys.length=n+2) :
  ∃ ρ',seqS (sSet 2 1 fb) (sFor fi (tgN 3) body) (s :: sk :: (ys++List.replicate m none))=some (.nx ρ')∧Slots [s,sk] (n+2) m ρ':=by
 obtain ⟨a,b,c,e⟩:=hb (ys++List.replicate m none)
 match ys,hy with
 | y2 :: y3 :: ys,hy =>
  have hy':ys.length=n:=by simpa using hy
  obtain ⟨ρ1,e1,a',b',c',y',zs,hz,rfl⟩:=turns_ok (pre:=[s,sk]) (n:=n) (m:=m) (i:=3) (body:=body) ds rfl (by
   intro d a b c ys hd hy
   exact step d a b c ys hd hy) a b c y3 ys hy'
  refine seq_ex (ρ1:=s :: sk :: bx a b c :: y3 :: (ys++List.replicate m none)) ?_ ⟨[s,sk]++[bx a' b' c',y']++(zs++List.replicate m none),?_,bx a' b' c' :: y' :: zs,by simp [hz],by simp⟩
  ·rw [ev_sSet,ev_bindS,e]
   rfl
  ·rw [ev_for,ev_bindS,hfi]
   exact e1
theorem cells_fi (mt:Nat→Option DE) (j:Nat) (ns:List Int) (h:ns.length≤63) (hj:j≤10) (ys:Sl) :
  dRange1 (dCall (on2 hMax2) (dCons (retE (.dat (.int 1))) (dCons (dCall (on2 hMin2) (dCons (retE (.dat (.int (j:Int)))) (dCons (dCall (gLenX mt) (dCons (dVar 0) dNil)) dNil))) dNil))) (some (.dat (.wri (ns.map D.int))) :: ys) =
   some (.ok (rangeL 0 (max 1 (min j ns.length)),[]) (some (.dat (.wri (ns.map D.int))) :: ys)):=by
 have e:(if (if (ns.length:Int) < (j:Int) then (ns.length:Int) else (j:Int)) > 1 then (if (ns.length:Int) < (j:Int) then (ns.length:Int) else (j:Int)) else 1)=((max 1 (min j ns.length):Nat):Int):=by
  split <;> split <;> omega
 have l:((max 1 (min j ns.length):Nat):Int).natAbs≤100000:=by omega
 simp only [ev_range1,ev_dCall,ev_dCons,ev_bind,ev_ret,ev_dNil,ev_var]
 simp only [List.getElem?_cons_zero]
 simp only [gLenX,clsOf_wri,ev_on1,see_dat,hLen_wri,ev_on2,hMin2_int,hMax2_int,List.length_map]
 rw [e]
 simp only [if_pos l,Int.toNat_natCast]
theorem cells_fi' (j:Nat) (ns:List Int) (h:ns.length≤63) (hj:j≤10) (ys:Sl) :
  dRange1 (dCall (on2 hMax2) (dCons (retE (.dat (.int 1))) (dCons (dCall (on2 hMin2) (dCons (retE (.dat (.int (j:Int)))) (dCons (dCall (on1 hLen) (dCons (dVar 0) dNil)) dNil))) dNil))) (some (.dat (.wri (ns.map D.int))) :: ys) =
   some (.ok (rangeL 0 (max 1 (min j ns.length)),[]) (some (.dat (.wri (ns.map D.int))) :: ys)):=by
 have:=cells_fi (fun _=>none) j ns h hj ys
 exact this
theorem turns_fi (T:Nat) (h:T≤1000) (ρ:Sl):dRange1 (retE (.dat (.int (T:Int)))) ρ=some (.ok (rangeL 0 T,[]) ρ):=by
 have:T≤100000:=by omega
 simp [this]
theorem box_call (ns:List Int) (k:Nat) (hk:k≤63) (ys:Sl):∃ a b c,dFn F__law_box (dCons (dLend (dVar 0)) (dCons (dLend (dVar 1)) dNil)) (some (.dat (.wri (ns.map D.int))) :: some (.dat (.int (k:Int))) :: ys) =
  some (.ok (.own (.lst [.int a,.int b,.int c])) (some (.dat (.wri (ns.map D.int))) :: some (.dat (.int (k:Int))) :: ys)):=by
 obtain ⟨a,b,c,e⟩:=box_ok ns k hk
 exact ⟨a,b,c,by simp [e]⟩
def shortS (x:Str):Bool:=PyData.strOk x && decide (x.length≤100)
abbrev namesOf (tps:List (Str×D)):List Str:=tps.map (·.1)
structure BookOk (tps:List (Str×D)) (st:List (Str×Str)):Prop where
 few:tps.length≤100
 fewS:st.length≤1000
 short:∀ x∈namesOf tps,shortS x=true
 steps:∀ p∈st,p.1∈namesOf tps∧p.2∈namesOf tps
@[simp] theorem fld_talks (a b:D):objFld att "talks" (.obj 11 [a,b])=some a:=by simp [objFld]
@[simp] theorem fld_steps (a b:D):objFld att "steps" (.obj 11 [a,b])=some b:=by
 simp only [objFld,att_B]
 rfl
@[simp] theorem mt_names_11:mt_names_B 11=some F_Book_names:=rfl
@[simp] theorem mt_behind_11:mt_behind_B 11=some F_Book_behind:=rfl
def behindL (st:List (Str×Str)) (x:Str):List Str:=(st.filter fun p=>decide (p.1=x)).map (·.2)
theorem mem_behind {st:List (Str×Str)} {x y:Str}:y∈behindL st x↔(x,y)∈st:=by
 unfold behindL
 rw [List.mem_map]
 constructor
 ·rintro ⟨⟨a,b⟩,h,rfl⟩
  rw [List.mem_filter,decide_eq_true_eq] at h
  obtain ⟨h1,h2⟩:=h
  have h2:a=x:=h2
  exact h2 ▸ h1
 ·intro h
  exact ⟨(x,y),List.mem_filter.mpr ⟨h,decide_eq_true rfl⟩,rfl⟩
def Fit (ns:List Str) (st:List (Str×Str)) (row:List Str):Prop:=∀ i x,row[i]?=some x→x∈ns∧∀ y,0 < i→row[i - 1]?=some y→(y,x)∈st
noncomputable instance (ns:List Str) (st:List (Str×Str)) (row:List Str):Decidable (Fit ns st row):=Classical.propDecidable _
@[simp] theorem ev_popAt (r r':RV) (ρ:Sl):gPopAt r [r'] ρ=(match ownL r ρ with
 | some (i,l)=>match r'.see ρ with
  | some (.int k)=>if k.natAbs≤100000 then match seqIndex? k l.length with
   | some j=>match l[j]? with
    | some d=>some (.ok (.dat d) (ρ.set i (some (.own (.lst (l.eraseIdx j))))))
    | none=>none
   | none=>none
   else none
  | _=>none
 | _=>none):=by
 unfold gPopAt
 cases ownL r ρ <;> rfl
abbrev Tks:=List (Str×List (List Int))
def five:List Str:=["left","right","a","up","talks"]
abbrev nmsOf (tks:Tks):List Str:=tks.map (·.1)
def trueB:Option (Res RV)→Bool
 | some (.ok (.dat (.bl true)) [none])=>true
 | _=>false
def nameB (x:Str):Bool:=trueB (F_is_name [some (.dat (.str x))])
structure RowsOk (R:List (List Int)) (p:Nat):Prop where
 many:R.length=p
 good:Good R
 low:∀ r∈R,r.sum < 2 ^ 59
 div:∀ r∈R,(norm r).sum.natAbs ∣ 360360
theorem RowsOk.len {R:List (List Int)} {p:Nat} (d:RowsOk R p):∀ r∈R,r.length=p:=fun r hr=>by rw [d.good.len r hr,d.many]
structure BDrawn (tks:Tks) (sts:List (Str×Str)) (p:Nat):Prop where
 ne:tks≠[]
 few:tks.length≤5
 nod:(nmsOf tks).Nodup
 short_:∀ x∈nmsOf tks,shortS x=true
 name_:∀ x∈nmsOf tks,nameB x=true
 none_:∀ x∈nmsOf tks,x ≠ "none"
 rows:∀ t∈tks,RowsOk t.2 p
 fewS:sts.length≤25
 nodS:sts.Nodup
 st:∀ q∈sts,q.1∈nmsOf tks∧q.2∈nmsOf tks
structure BFive (tks:Tks) (sts:List (Str×Str)) (p:Nat):Prop where
 ne:tks≠[]
 few:tks.length≤5
 nod:(nmsOf tks).Nodup
 five_:∀ x∈nmsOf tks,x∈five
 rows:∀ t∈tks,Drawn t.2 p 3
 fewS:sts.length≤25
 nodS:sts.Nodup
 st:∀ q∈sts,q.1∈nmsOf tks∧q.2∈nmsOf tks
@[simp] theorem mt_len_T_10':mt_len_T 10=some F_Talk___len__:=rfl
def nrm (t:Str×List (List Int)):Str×List (List Int):=(t.1,t.2.map norm)
theorem nmsOf_nrm (tks:Tks):nmsOf (tks.map nrm)=nmsOf tks:=by
 show (tks.map nrm).map (·.1)=tks.map (·.1)
 rw [List.map_map]
 rfl
def Ring (ns:List Str) (st:List (Str×Str)) (row:List Str):Prop:=Fit ns st row∧∃ x y,row[0]?=some x∧row.getLast?=some y∧(y,x)∈st
noncomputable instance (ns:List Str) (st:List (Str×Str)) (row:List Str):Decidable (Ring ns st row):=Classical.propDecidable _
theorem log_lt {a k n:Nat} (h:a < 2 ^ k) (hk:k≤n) (hn:0 < n):a.log2 < n:=by
 by_cases z:a=0
 ·subst z
  rw [Nat.log2_zero]
  exact hn
 ·exact Nat.lt_of_lt_of_le ((Nat.log2_lt z).2 h) hk
theorem cDiv_lt {i j:Int} {k:Nat} (hk:k≤9000) (h0:0 < j) (h:j.natAbs < 2 ^ k):cDiv i j=true:=by
 unfold cDiv
 rw [decide_eq_true h0,decide_eq_true (log_lt h hk (by decide))]
 rfl
def valOf:D→Rat
 | .int z=>z
 | .tup [.int t,.int q]=>Rat.divInt t q
 | _=>0
inductive IsV:D→Prop
 | int (z:Int):IsV (.int z)
 | pair (t q:Int):0 < q→q < 2 ^ 400→IsV (.tup [.int t,.int q])
theorem red_int (z:Int):red (z:Rat)=.tup [.int z,.int 1]:=by simp [red]
theorem lowest_ok (t b:Int) (h:0 < b) (h9:b < 2 ^ 400):F_lowest [some (.dat (.int t)),some (.dat (.int b))]=some (.ok (.dat (red (Rat.divInt t b))) [none,none]):=by
 have c1:∀ x,cDiv x ((Nat.gcd t.natAbs b.natAbs:Nat):Int)=true:=fun x=>cDiv_lt (k:=400) (by decide) (by have:=gcd_pos_right (t:=t) h; omega) (by
  have:Nat.gcd t.natAbs b.natAbs≤b.natAbs:=Nat.gcd_le_right _ (by omega)
  rw [Int.natAbs_natCast]
  omega)
 clear h9
 simp [F_lowest,g_lowest,c1,red_div h]
theorem as_pair_ok {v:D} (h:IsV v):F_as_pair [some (.dat v)]=some (.ok (.dat (red (valOf v))) [none]):=by
 cases h with
 | int z=>simp [F_as_pair,g_as_pair,F_is_pair,g_is_pair,kindD,isKind,valOf,red_int]
 | pair t q q0 q1 =>
  have r:=lowest_ok t q q0 q1
  simp [F_as_pair,g_as_pair,F_is_pair,g_is_pair,kindD,isKind,r,valOf]
theorem is_value_ok {v:D} (h:IsV v):F_is_value [some (.dat v)]=some (.ok (.dat (.bl true)) [none]):=by
 cases h with
 | int z=>simp [F_is_value,g_is_value,F_is_pair,g_is_pair,isKind,is_int_ok]
 | pair t q q0 q1 =>
  have:1≤q:=q0
  simp [F_is_value,g_is_value,F_is_pair,g_is_pair,isKind,is_int_ok,this]
theorem checked_ok {s:SV} {vs:List D} (hs:Sees s vs) (hv:∀ v∈vs,IsV v) (hl:vs.length≤1000):F_checked_numbers [some s,some (.dat (.int (vs.length:Nat)))]=some (.ok (.dat (.tup (vs.map fun v=>red (valOf v)))) [none,none]):=by
 have body:∀ (s':SV) (i:Nat) (d:D),vs[i]?=some d→b_checked_numbers_1 [some s',some (.dat (.int (vs.length:Nat))),some (.dat (.int i)),some (.dat d)]=some (.nx [some s',some (.dat (.int (vs.length:Nat))),some (.dat (.int i)),some (.dat d)]):=by
  intro s' i d hd
  have:=is_value_ok (hv d (List.mem_of_getElem? hd))
  simp [b_checked_numbers_1,this]
 have lp:∀ s':SV,∃ x y,loopS (tgT [2,3]) b_checked_numbers_1 (enumL vs) [some s',some (.dat (.int (vs.length:Nat))),none,none]=some (.nx [some s',some (.dat (.int (vs.length:Nat))),x,y]):=by
  intro s'
  obtain ⟨ρ',⟨x,y,rfl⟩,e⟩:=loopS_at (tg:=tgT [2,3]) (body:=b_checked_numbers_1) (enumL vs) (fun i ρ=>∃ x y,ρ=[some s',some (.dat (.int (vs.length:Nat))),x,y]) (by
   rintro i d ρ hd ⟨x,y,rfl⟩
   have hi:i < vs.length:=by
    have:=(List.getElem?_eq_some_iff.mp hd).1
    rwa [enumL_length] at this
   rw [enumL_at (List.getElem?_eq_getElem hi)] at hd
   cases hd
   refine ⟨_,_,rfl,.inl (body s' i _ (List.getElem?_eq_getElem hi)),_,_,rfl⟩) (ρ:=[some s',some (.dat (.int (vs.length:Nat))),none,none]) ⟨none,none,rfl⟩
  exact ⟨x,y,e⟩
 have mp:∀ (s':SV) (x:Option SV),loopC [3] (tgN 3) yesT (froze (dFn F_as_pair (dCons (dLend (dVar 3)) (dNil)))) vs [] [some s',some (.dat (.int (vs.length:Nat))),x,none]=some (.ok (.own (.lst (vs.map fun v=>red (valOf v)))) [some s',some (.dat (.int (vs.length:Nat))),x,none]):=by
  intro s' x
  have:=loopC_map (i:=3) (fe:=froze (dFn F_as_pair (dCons (dLend (dVar 3)) dNil))) (fun d=>red (valOf d)) (ρ:=[some s',some (.dat (.int (vs.length:Nat))),x,none]) (fun x=>rfl) vs [] (by
   intro d hd
   have:=as_pair_ok (hv d hd)
   simp [this]) (by simp; omega)
  rw [this]
  simp
 have sq:=is_sequence_ok hs
 cases hs with
 | lst =>
  obtain ⟨x,y,e⟩:=lp (.dat (.lst vs))
  have m:=fun x=>mp (.lck (.lst vs)) x
  simp [F_checked_numbers,g_checked_numbers,sq,e,mp]
 | tup =>
  obtain ⟨x,y,e⟩:=lp (.dat (.tup vs))
  simp [F_checked_numbers,g_checked_numbers,sq,e,mp]
 | lck =>
  obtain ⟨x,y,e⟩:=lp (.lck (.lst vs))
  simp [F_checked_numbers,g_checked_numbers,sq,e,mp,MO.see]
def lcmN (g:Nat) (qs:List Nat):Nat:=qs.foldl Nat.lcm g
theorem lcmN_pos:∀ (qs:List Nat) (g:Nat),0 < g→(∀ q∈qs,0 < q)→0 < lcmN g qs∧g ∣ lcmN g qs∧∀ q∈qs,q ∣ lcmN g qs
 | [],g,h,_=>⟨h,Nat.dvd_refl _,fun q hq=>by cases hq⟩
 | x :: r,g,h,hq=>by
  obtain ⟨a,b,c⟩:=lcmN_pos r (Nat.lcm g x) (Nat.lcm_pos h (hq x List.mem_cons_self)) fun q hq'=>hq q (List.mem_cons_of_mem _ hq')
  refine ⟨a,Nat.dvd_trans (Nat.dvd_lcm_left _ _) b,fun q hq'=>?_⟩
  rcases List.mem_cons.mp hq' with rfl | hq'
  ·exact Nat.dvd_trans (Nat.dvd_lcm_right _ _) b
  ·exact c q hq'
def topD (L:Nat) (r:Rat):Int:=r.num * ((L / r.den:Nat):Int)
theorem loopC_enc {α:Type} {vs:List Nat} {tg:D→Sl→Option Sl} {ft:Ef Bool} {fe:DE} {ρ:Sl} (enc:α→D) (t:α→Bool) (h:α→D):∀ (l:List α) (acc:List D),
  (∀ x∈l,∃ ρ1,tg (enc x) ρ=some ρ1∧wipeR ρ1 vs=ρ∧ft ρ1=some (.ok (t x) ρ1)∧(t x=true→fe ρ1=some (.ok (.dat (h x)) ρ1)))→acc.length+l.length≤10000 →
  loopC vs tg ft fe (l.map enc) acc ρ=some (.ok (.own (.lst (acc++(l.filter t).map h))) ρ)
 | [],acc,_,_=>by simp
 | x :: l,acc,hx,hl=>by
  obtain ⟨ρ1,h1,h2,h3,h4⟩:=hx x List.mem_cons_self
  have hl:acc.length+(l.length+1)≤10000:=hl
  have la:acc.length < 10000:=by omega
  rw [List.map_cons,ev_loopC_cons,h1]
  cases e:t x with
  | true =>
   have ih:=loopC_enc enc t h l (acc++[h x]) (fun y hy=>hx y (List.mem_cons_of_mem _ hy)) (by simp; omega)
   have h5:=h4 e
   rw [e] at h3
   simp only [h3,h5,if_pos la,h2,ih]
   simp [List.filter_cons,e]
  | false =>
   have ih:=loopC_enc enc t h l acc (fun y hy=>hx y (List.mem_cons_of_mem _ hy)) (by omega)
   rw [e] at h3
   simp only [h3,h2,ih]
   simp [List.filter_cons,e]
theorem BDrawn.short {tks:Tks} {sts:List (Str×Str)} {p:Nat} (b:BDrawn tks sts p):∀ x∈nmsOf tks,shortS x=true:=b.short_
theorem wholes_int:∀ l:List Int,wholes (l.map D.int)=some l
 | []=>rfl
 | i :: l=>by simp [wholes,wholes_int l]
theorem hSum_lst (l:List Int):hSum (.lst (l.map D.int))=some (.int l.sum):=by
 unfold hSum D.nums
 simp [wholes_int]
theorem hSum_tup (l:List Int):hSum (.tup (l.map D.int))=some (.int l.sum):=by
 unfold hSum D.nums
 simp [wholes_int]
def pairI (p:Int×Int):D:=.tup [.int p.1,.int p.2]
theorem zip_int:∀ (r ts:List Int),zipL (r.map D.int) (ts.map D.int)=(r.zip ts).map pairI
 | [],_=>rfl
 | _ :: _,[]=>rfl
 | x :: r,y :: ts=>by
  have:=zip_int r ts
  unfold zipL at this ⊢
  rw [List.map_cons,List.map_cons,List.zipWith_cons_cons,this]
  rfl
def pairR (p:Int×List Int):D:=.tup [.int p.1,rowT p.2]
theorem zip_row:∀ (ts:List Int) (R:List (List Int)),zipL (ts.map D.int) (R.map rowT)=(ts.zip R).map pairR
 | [],_=>rfl
 | _ :: _,[]=>rfl
 | x :: r,y :: ts=>by
  have:=zip_row r ts
  unfold zipL at this ⊢
  rw [List.map_cons,List.map_cons,List.zipWith_cons_cons,this]
  rfl
def dot (r ts:List Int):Int:=((r.zip ts).map fun p=>p.1 * p.2).sum
theorem dot_loop {x0 x1 x3 x4 x6:Option SV} {r ts:List Int} (nn:∀ z∈r,0≤z∧z < 2 ^ 60) (hl:r.length≤1000) :
  loopC [7,8] (tgT [7,8]) yesT (froze (dBin gMul (dVar 7) (dVar 8))) (zipL (r.map D.int) (ts.map D.int)) [] [x0,x1,some (.dat (.lst (ts.map D.int))),x3,x4,some (.dat (rowT r)),x6,none,none] =
   some (.ok (.own (.lst (((r.zip ts).map fun p=>p.1 * p.2).map D.int))) [x0,x1,some (.dat (.lst (ts.map D.int))),x3,x4,some (.dat (rowT r)),x6,none,none]):=by
 have lp:=loopC_enc (vs:=[7,8]) (tg:=tgT [7,8]) (ft:=yesT) (fe:=froze (dBin gMul (dVar 7) (dVar 8))) (ρ:=[x0,x1,some (.dat (.lst (ts.map D.int))),x3,x4,some (.dat (rowT r)),x6,none,none]) pairI (fun _=>true) (fun p=>.int (p.1 * p.2)) (r.zip ts) [] (by
  intro p hp
  refine ⟨[x0,x1,some (.dat (.lst (ts.map D.int))),x3,x4,some (.dat (rowT r)),x6,some (.dat (.int p.1)),some (.dat (.int p.2))],rfl,rfl,rfl,fun _=>?_⟩
  have:=nn p.1 (List.of_mem_zip hp).1
  have c:cMul p.1 p.2=true:=cMul_left (by omega)
  simp [c]) (by simp; omega)
 rw [zip_int,lp]
 have e:∀ l:List (Int×Int),l.filter (fun _=>true)=l:=fun l=>List.filter_eq_self.mpr fun _ _=>rfl
 rw [e,List.nil_append,List.map_map]
 rfl
def meanD (qs:List Rat) (r:List Int):Rat:=Rat.divInt (dot r (qs.map (topD (lcmN 1 (qs.map (·.den)))))) ((lcmN 1 (qs.map (·.den)):Nat) * r.sum)
@[simp] theorem fld_rows (a:D):objFld att "rows" (.obj 10 [a])=some a:=by simp [objFld]
def Led (R:List (List Int)):Prop:=R.length≤1000∧∀ r∈R,r.length≤1000∧(∀ z∈r,0≤z∧z < 2 ^ 60)∧0 < r.sum∧r.sum < 2 ^ 60
theorem ratio_loop:∀ (n x y:Nat) (o0 o1:Option SV),y < n→loopW (asB (dBin gNe (dVar 3) (retE (.dat (.int 0))))) b__law_ratio_1 n [o0,o1,some (.dat (.int x)),some (.dat (.int y))]=some (.nx [o0,o1,some (.dat (.int (Nat.gcd x y:Nat))),some (.dat (.int 0))])
 | 0,_,_,_,_,h=>absurd h (Nat.not_lt_zero _)
 | n+1,x,y,o0,o1,h=>by
  unfold loopW
  by_cases hy:y=0
  ·subst hy
   simp
  ·have hy':¬ ((y:Int)=0):=by omega
   have hp:(0:Int) < (y:Int):=by omega
   have ih:=ratio_loop n y (x % y) o0 o1 (by have:=Nat.mod_lt x (show 0 < y by omega); omega)
   have hp':0 < y:=by omega
   simp [hy',hy,b__law_ratio_1,hp,hp']
   have e:((x:Int) % (y:Int))=((x % y:Nat):Int):=by omega
   unfold b__law_ratio_1 at ih
   rw [e,ih,Nat.gcd_comm y,← Nat.gcd_rec,Nat.gcd_comm]
theorem ratio_ok (u l:Int) (h:0 < l) (h9:l < 2 ^ 200):F__law_ratio [some (.dat (.int u)),some (.dat (.int l))]=some (.ok (.dat (red (Rat.divInt u l))) [none,none]):=by
 have hl:((l.natAbs:Nat):Int)=l:=by omega
 have hu:(if u < 0 then -u else u)=(u.natAbs:Int):=by split <;> omega
 have lp:=ratio_loop (l.natAbs+1) u.natAbs l.natAbs (some (.dat (.int u))) (some (.dat (.int l))) (Nat.lt_succ_self _)
 rw [hl] at lp
 have c1:∀ x,cDiv x ((Nat.gcd u.natAbs l.natAbs:Nat):Int)=true:=fun x=>cDiv_gcd h h9
 simp [F__law_ratio,g__law_ratio,hu,natAt,lp,c1,red_div h]
theorem cMul_lt {i j:Int} {k l:Nat} (hi:i.natAbs < 2 ^ k) (hj:j.natAbs < 2 ^ l) (h:k+l≤1000000):cMul i j=true:=by
 by_cases a:i.natAbs < 2 ^ 64
 ·exact cMul_left a
 by_cases b:j.natAbs < 2 ^ 64
 ·exact cMul_right b
 have i0:i.natAbs≠0:=fun e=>a (by rw [e]; decide)
 have j0:j.natAbs≠0:=fun e=>b (by rw [e]; decide)
 have h1:=(Nat.log2_lt i0).2 hi
 have h2:=(Nat.log2_lt j0).2 hj
 unfold cMul
 rw [decide_eq_true (show i.natAbs.log2+j.natAbs.log2 < 1000000 by omega),Bool.or_true]
theorem lowest_okM {k:Nat} (t b:Int) (hk:k≤9000) (h:0 < b) (h9:b.natAbs < 2 ^ k):F_lowest [some (.dat (.int t)),some (.dat (.int b))]=some (.ok (.dat (red (Rat.divInt t b))) [none,none]):=by
 have c1:∀ x,cDiv x ((Nat.gcd t.natAbs b.natAbs:Nat):Int)=true:=fun x=>cDiv_lt hk (by have:=gcd_pos_right (t:=t) h; omega) (by
  have:Nat.gcd t.natAbs b.natAbs≤b.natAbs:=Nat.gcd_le_right _ (by omega)
  rw [Int.natAbs_natCast]
  exact Nat.lt_of_le_of_lt this h9)
 simp [F_lowest,g_lowest,c1,red_div h]
theorem lcmN_dvd {M:Nat}:∀ (qs:List Nat) (g:Nat),g ∣ M→(∀ q∈qs,q ∣ M)→lcmN g qs ∣ M
 | [],g,h,_=>h
 | q :: r,g,h,hq=>lcmN_dvd r (Nat.lcm g q) (Nat.lcm_dvd h (hq q List.mem_cons_self)) fun q' h'=>hq q' (List.mem_cons_of_mem _ h')
theorem dvd_lt {M k a:Nat} (hM:0 < M) (h9:M < 2 ^ k) (h:a ∣ M):a < 2 ^ k:=Nat.lt_of_le_of_lt (Nat.le_of_dvd hM h) h9
theorem cm_loopM {M k:Nat} (hM:0 < M) (hk:k≤8000) (h9:M < 2 ^ k):∀ (qs:List Nat) (g:Nat) (x:Option SV) (v:Option SV),g ∣ M→(∀ q∈qs,q ∣ M)→∃ v',loopS (tgN 2) b_common_multiple_1 (qs.map fun (q:Nat)=>D.int (q:Int)) [x,some (.dat (.int g)),v]=some (.nx [x,some (.dat (.int (lcmN g qs:Nat))),v'])
 | [],g,x,v,_,_=>⟨v,rfl⟩
 | q :: r,g,x,v,h,hq=>by
  have hx:=hq q List.mem_cons_self
  obtain ⟨v',e⟩:=cm_loopM hM hk h9 r (Nat.lcm g q) x (some (.dat (.int q))) (Nat.lcm_dvd h hx) (fun q' h'=>hq q' (List.mem_cons_of_mem _ h'))
  refine ⟨v',?_⟩
  have c1:cLcm (g:Int) (q:Int)=true:=cLcm_lt (k:=k) (by omega) (by rw [Int.natAbs_natCast]; exact dvd_lt hM h9 h) (by rw [Int.natAbs_natCast]; exact dvd_lt hM h9 hx)
  rw [List.map_cons,ev_loopS_cons]
  simp [b_common_multiple_1,c1]
  exact e
theorem cm_okM {M k:Nat} (hM:0 < M) (hk:k≤8000) (h9:M < 2 ^ k) (qs:List Nat) (h:∀ q∈qs,q ∣ M):F_common_multiple [some (.dat (.lst (qs.map fun (q:Nat)=>D.int (q:Int))))]=some (.ok (.dat (.int (lcmN 1 qs:Nat))) [none]):=by
 obtain ⟨v',e⟩:=cm_loopM hM hk h9 qs 1 (some (.dat (.lst (qs.map fun (q:Nat)=>D.int (q:Int))))) none (Nat.one_dvd _) h
 have e:loopS (tgN 2) b_common_multiple_1 (qs.map fun (q:Nat)=>D.int (q:Int)) [some (.dat (.lst (qs.map fun (q:Nat)=>D.int (q:Int)))),some (.dat (.int 1)),none]=some (.nx [some (.dat (.lst (qs.map fun (q:Nat)=>D.int (q:Int)))),some (.dat (.int (lcmN 1 qs:Nat))),v']):=e
 simp [F_common_multiple,g_common_multiple,e]
def Under (M k n:Nat) (rs:List Rat):Prop:=0 < M∧M < 2 ^ k∧k≤8000∧n≤900000∧∀ r∈rs,r.den ∣ M∧r.num.natAbs < 2 ^ n
theorem even_okM {M k n:Nat} (rs:List Rat) (hl:rs.length≤1000) (hp:Under M k n rs):F_even_tops [some (.dat (.tup (rs.map red)))]=some (.ok (.dat (.tup [.lst (rs.map fun r=>.int (topD (lcmN 1 (rs.map (·.den))) r)),.int (lcmN 1 (rs.map (·.den)):Nat)])) [none]):=by
 obtain ⟨hM,h9,hk,hn,hr⟩:=hp
 have hq:∀ q∈rs.map (·.den),q ∣ M:=by
  intro q hq
  obtain ⟨r,hr',rfl⟩:=List.mem_map.mp hq
  exact (hr r hr').1
 have c:=cm_okM hM hk h9 (rs.map (·.den)) hq
 have hq0:∀ q∈rs.map (·.den),0 < q:=by
  intro q hq
  obtain ⟨r,hr,rfl⟩:=List.mem_map.mp hq
  exact r.den_pos
 obtain ⟨L0,_,Ld⟩:=lcmN_pos (rs.map (·.den)) 1 (by decide) hq0
 have Ls:=dvd_lt hM h9 (lcmN_dvd (rs.map (·.den)) 1 (Nat.one_dvd _) hq)
 obtain ⟨L,hL⟩:∃ L,L=lcmN 1 (rs.map (·.den)):=⟨_,rfl⟩
 rw [← hL] at c L0 Ld Ls ⊢
 have m1:∀ (o1:Option SV),loopC [2] (tgN 2) yesT (froze (dBin gIx (dVar 2) (retE (.dat (.int 1))))) (rs.map red) [] [some (.dat (.tup (rs.map red))),o1,none]=some (.ok (.own (.lst (rs.map fun r=>.int (r.den:Int)))) [some (.dat (.tup (rs.map red))),o1,none]):=by
  intro o1
  have:=loopC_map (i:=2) (fe:=froze (dBin gIx (dVar 2) (retE (.dat (.int 1))))) (fun d=>match d with | .tup [_,q]=>q | _=>.non) (ρ:=[some (.dat (.tup (rs.map red))),o1,none]) (fun x=>rfl) (rs.map red) [] (by
   intro d hd
   obtain ⟨r,_,rfl⟩:=List.mem_map.mp hd
   simp [red]) (by simp; omega)
  rw [this]
  simp [red,Function.comp_def]
 have m2:∀ (x:Option SV),loopC [2] (tgN 2) yesT (froze (dBin gMul (dBin gIx (dVar 2) (retE (.dat (.int 0)))) (dBin gFdiv (dVar 1) (dBin gIx (dVar 2) (retE (.dat (.int 1))))))) (rs.map red) [] [x,some (.dat (.int L)),none]=some (.ok (.own (.lst (rs.map fun r=>.int (topD L r)))) [x,some (.dat (.int L)),none]):=by
  intro x
  have:=loopC_map (i:=2) (fe:=froze (dBin gMul (dBin gIx (dVar 2) (retE (.dat (.int 0)))) (dBin gFdiv (dVar 1) (dBin gIx (dVar 2) (retE (.dat (.int 1))))))) (fun d=>match d with | .tup [.int p,.int q]=>.int (p * ((L:Int) / q)) | _=>.non) (ρ:=[x,some (.dat (.int L)),none]) (fun _=>rfl) (rs.map red) [] (by
   intro d hd
   obtain ⟨r,hr',rfl⟩:=List.mem_map.mp hd
   have rp:=r.den_pos
   have rl:r.den≤L:=Nat.le_of_dvd L0 (Ld _ (List.mem_map_of_mem hr'))
   have c1:cDiv (L:Int) (r.den:Int)=true:=cDiv_lt (k:=k) (by omega) (by omega) (by rw [Int.natAbs_natCast]; exact Nat.lt_of_le_of_lt rl Ls)
   have c2:cMul r.num ((L:Int) / (r.den:Int))=true:=by
    refine cMul_lt (hr r hr').2 (l:=k) ?_ (by omega)
    rw [← Int.natCast_ediv,Int.natAbs_natCast]
    exact Nat.lt_of_le_of_lt (Nat.div_le_self _ _) Ls
   simp [red,c1,c2]) (by simp; omega)
  rw [this]
  simp [red,Function.comp_def,topD]
 have c':F_common_multiple [some (.dat (.lst (rs.map fun r=>.int (r.den:Int))))]=some (.ok (.dat (.int L)) [none]):=by
  rw [List.map_map] at c
  exact c
 clear hr hq hq0 hL Ls Ld L0 c
 generalize rs.map red=ds at *
 generalize (rs.map fun r=>D.int (topD L r))=ts at *
 generalize (rs.map fun r=>D.int (r.den:Int))=qs at *
 simp [F_even_tops,g_even_tops,m1,m2,c']
theorem means_okM {M k n:Nat} {R:List (List Int)} {qs:List Rat} (hR:R.length≤1000) (hr:∀ r∈R,r.length≤1000∧(∀ z∈r,0≤z∧z < 2 ^ 60)∧0 < r.sum∧r.sum < 2 ^ 60) (hl:qs.length≤1000) (hp:Under M k n qs) :
  F_means [some (.dat (.tup (R.map rowT))),some (.dat (.tup (qs.map red)))]=some (.ok (.dat (.tup (R.map fun r=>red (meanD qs r)))) [none,none]):=by
 have ev:=even_okM qs hl hp
 obtain ⟨hM,h9,hk,hn,hv⟩:=hp
 have hq:∀ q∈qs.map (·.den),0 < q:=by
  intro q hq
  obtain ⟨r,hr,rfl⟩:=List.mem_map.mp hq
  exact r.den_pos
 have hd:∀ q∈qs.map (·.den),q ∣ M:=by
  intro q hq
  obtain ⟨r,hr',rfl⟩:=List.mem_map.mp hq
  exact (hv r hr').1
 have L0:=(lcmN_pos (qs.map (·.den)) 1 (by decide) hq).1
 have Ls:=dvd_lt hM h9 (lcmN_dvd (qs.map (·.den)) 1 (Nat.one_dvd _) hd)
 have eM:∀ r,meanD qs r=Rat.divInt (dot r (qs.map (topD (lcmN 1 (qs.map (·.den)))))) ((lcmN 1 (qs.map (·.den)):Nat) * r.sum):=fun r=>rfl
 obtain ⟨L,hL⟩:∃ L,L=lcmN 1 (qs.map (·.den)):=⟨_,rfl⟩
 rw [← hL] at ev L0 Ls eM
 obtain ⟨ts,hts⟩:∃ ts,ts=qs.map (topD L):=⟨_,rfl⟩
 have e1:(qs.map fun r=>D.int (topD L r))=ts.map D.int:=by rw [hts,List.map_map]; rfl
 rw [e1] at ev
 rw [← hts] at eM
 have m1:=loopC_enc (vs:=[5]) (tg:=tgN 5) (ft:=yesT) (fe:=froze (dCall (on1 hSum) (dCons (dLc [7,8] (dZipX (dVar 5) (dVar 2)) (tgT [7,8]) (yesT) (dBin gMul (dVar 7) (dVar 8))) (dNil)))) (ρ:=[some (.dat (.tup (R.map rowT))),some (.dat (.tup (qs.map red))),some (.dat (.lst (ts.map D.int))),some (.dat (.int L)),none,none,none,none,none]) rowT (fun _=>true) (fun r=>.int (dot r ts)) R [] (by
  intro r hr'
  refine ⟨[some (.dat (.tup (R.map rowT))),some (.dat (.tup (qs.map red))),some (.dat (.lst (ts.map D.int))),some (.dat (.int L)),none,some (.dat (rowT r)),none,none,none],rfl,rfl,rfl,fun _=>?_⟩
  obtain ⟨h1,h2,_⟩:=hr r hr'
  have dl:=dot_loop (x0:=some (.dat (.tup (R.map rowT)))) (x1:=some (.dat (.tup (qs.map red)))) (x3:=some (.dat (.int L))) (x4:=none) (x6:=none) (ts:=ts) h2 h1
  have hs:=hSum_lst ((r.zip ts).map fun p=>p.1 * p.2)
  have ed:dot r ts=((r.zip ts).map fun p=>p.1 * p.2).sum:=rfl
  rw [← ed] at hs
  generalize ((r.zip ts).map fun p=>p.1 * p.2).map D.int=ps at *
  unfold rowT at dl ⊢
  generalize qs.map red=qd at *
  generalize ts.map D.int=td at *
  generalize r.map D.int=rd at *
  simp [dl,hs]) (by simp; omega)
 have tr:∀ {α:Type} (l:List α),l.filter (fun _=>true)=l:=fun l=>List.filter_eq_self.mpr fun _ _=>rfl
 rw [tr,List.nil_append] at m1
 have e2:(R.map fun r=>D.int (dot r ts))=(R.map fun r=>dot r ts).map D.int:=by rw [List.map_map]; rfl
 rw [e2] at m1
 have m2:=loopC_enc (vs:=[6,5]) (tg:=tgT [6,5]) (ft:=yesT) (fe:=froze (dFn F_lowest (dCons (dLend (dVar 6)) (dCons (dLend (dBin gMul (dVar 3) (dCall (on1 hSum) (dCons (dVar 5) (dNil))))) (dNil))))) (ρ:=[some (.dat (.tup (R.map rowT))),some (.dat (.tup (qs.map red))),some (.dat (.lst (ts.map D.int))),some (.dat (.int L)),some (.lck (.lst ((R.map fun r=>dot r ts).map D.int))),none,none,none,none]) pairR (fun _=>true) (fun p=>red (Rat.divInt p.1 ((L:Int) * p.2.sum))) ((R.map fun r=>dot r ts).zip R) [] (by
  intro p hp
  refine ⟨[some (.dat (.tup (R.map rowT))),some (.dat (.tup (qs.map red))),some (.dat (.lst (ts.map D.int))),some (.dat (.int L)),some (.lck (.lst ((R.map fun r=>dot r ts).map D.int))),some (.dat (rowT p.2)),some (.dat (.int p.1)),none,none],rfl,rfl,rfl,fun _=>?_⟩
  obtain ⟨h1,h2,h3,h4⟩:=hr p.2 (List.of_mem_zip hp).2
  have b0:0 < (L:Int) * p.2.sum:=Int.mul_pos (by omega) h3
  have b1:((L:Int) * p.2.sum).natAbs < 2 ^ (k+60):=by
   rw [Int.natAbs_mul,Int.natAbs_natCast,Nat.pow_add]
   exact Nat.mul_lt_mul'' Ls (by omega)
  have lo:=lowest_okM p.1 ((L:Int) * p.2.sum) (k:=k+60) (by omega) b0 b1
  have c:cMul (L:Int) p.2.sum=true:=cMul_right (by omega)
  have hs:=hSum_tup p.2
  generalize qs.map red=qd at *
  generalize ts.map D.int=td at *
  generalize (R.map fun r=>dot r ts).map D.int=pd at *
  unfold rowT at *
  generalize p.2.map D.int=rd at *
  simp [hs,c,lo]) (by simp; omega)
 rw [tr,List.nil_append] at m2
 have e3:((R.map fun r=>dot r ts).zip R).map (fun p=>red (Rat.divInt p.1 ((L:Int) * p.2.sum)))=R.map fun r=>red (meanD qs r):=by
  have go:∀ l:List (List Int),((l.map fun r=>dot r ts).zip l).map (fun p=>red (Rat.divInt p.1 ((L:Int) * p.2.sum)))=l.map fun r=>red (meanD qs r):=by
   intro l
   induction l with
   | nil=>rfl
   | cons r l ih =>
    rw [List.map_cons,List.zip_cons_cons,List.map_cons,ih,List.map_cons,eM r]
  exact go R
 rw [e3,← zip_row] at m2
 clear hv hd hq hL Ls L0 e3 e2 e1 eM hts
 generalize (R.map fun r=>red (meanD qs r))=out at *
 generalize (R.map fun r=>dot r ts).map D.int=tot at *
 generalize ts.map D.int=td at *
 generalize qs.map red=qd at *
 generalize R.map rowT=Rd at *
 simp [F_means,g_means,ev,m1,m2]
theorem talk_led_okM {M k n:Nat} {R:List (List Int)} {s:SV} {vs:List D} (hR:Led R) (hs:Sees s vs) (hv:∀ v∈vs,IsV v) (hl:vs.length=R.length) (hp:Under M k n (vs.map valOf)) :
  F_Talk_led [some (.dat (talkD R)),some s]=some (.ok (.dat (.tup (R.map fun r=>red (meanD (vs.map valOf) r)))) [none,none]):=by
 have h1:=hR.1
 have ck:=checked_ok hs hv (by omega)
 have mn:=means_okM h1 hR.2 (qs:=vs.map valOf) (by simp; omega) hp
 have e:(vs.map fun v=>red (valOf v))=(vs.map valOf).map red:=by rw [List.map_map]; rfl
 rw [e,hl] at ck
 have lR:(R.map rowT).length=R.length:=List.length_map ..
 unfold talkD
 generalize (vs.map valOf).map red=qd at *
 generalize (R.map fun r=>red (meanD (vs.map valOf) r))=out at *
 generalize R.map rowT=Rd at *
 cases hs <;> simp [F_Talk_led,g_Talk_led,lR,ck,mn]
theorem den_dvd {t b:Int} (h:0 < b):(Rat.divInt t b).den ∣ b.natAbs:=by
 have e:=red_div (t:=t) h
 unfold red at e
 have e2:(((Rat.divInt t b).den:Nat):Int)=b / ((Nat.gcd t.natAbs b.natAbs:Nat):Int):=by
  have:=D.tup.inj e
  have:=(List.cons.inj (List.cons.inj this).2).1
  exact D.int.inj this
 have g:((Nat.gcd t.natAbs b.natAbs:Nat):Int) ∣ b:=Int.ofNat_dvd_left.mpr (Nat.gcd_dvd_right _ _)
 refine Int.ofNat_dvd_left.mp ⟨((Nat.gcd t.natAbs b.natAbs:Nat):Int),?_⟩
 rw [e2,Int.ediv_mul_cancel g]
def totN (A:List (List Int)):Nat:=lcmN 1 (A.map fun r=>r.sum.natAbs)
def evenR (A:List (List Int)):List (List Int):=A.map fun r=>r.map fun z=>z * ((totN A:Int) / r.sum)
def mixedR (w:List Int) (E:List (List Int)):List Int:=(List.range E.length).map fun j=>((w.zip E).map fun p=>p.1 * (p.2.getD j 0)).sum
def behindR (A B:List (List Int)):List (List Int):=B.map fun w=>mixedR w (evenR A)
theorem range0 (n:Nat):rangeL 0 n=(List.range n).map fun (j:Nat)=>D.int (j:Int):=by
 unfold rangeL
 exact List.map_congr_left fun j _=>by rw [Int.zero_add]
theorem sum_add {α:Type} (f g:α→Int):∀ l:List α,(l.map fun j=>f j+g j).sum=(l.map f).sum+(l.map g).sum
 | []=>rfl
 | a :: l=>by
  rw [List.map_cons,List.map_cons,List.map_cons,List.sum_cons,List.sum_cons,List.sum_cons,sum_add f g l]
  omega
theorem sum_mulr {α:Type} (x:Int) (f:α→Int):∀ l:List α,(l.map fun j=>f j * x).sum=(l.map f).sum * x
 | []=>by simp
 | a :: l=>by
  rw [List.map_cons,List.map_cons,List.sum_cons,List.sum_cons,sum_mulr x f l,Int.add_mul]
theorem sum_nn:∀ {l:List Int},(∀ z∈l,0≤z)→0≤l.sum
 | [],_=>by simp
 | x :: l,h=>by
  have:=sum_nn fun z hz=>h z (List.mem_cons_of_mem x hz)
  have:=h x List.mem_cons_self
  rw [List.sum_cons]
  omega
theorem le_sum:∀ {l:List Int},(∀ z∈l,0≤z)→∀ z∈l,z≤l.sum
 | [],_,z,hz=>by cases hz
 | x :: l,h,z,hz=>by
  have s:=sum_nn fun z hz=>h z (List.mem_cons_of_mem x hz)
  have hx:=h x List.mem_cons_self
  rw [List.sum_cons]
  rcases List.mem_cons.mp hz with rfl | hz
  ·omega
  ·have:=le_sum (fun z hz=>h z (List.mem_cons_of_mem x hz)) z hz
   omega
theorem sum_pos {l:List Int} (h:∀ z∈l,0≤z) {z:Int} (hz:z∈l) (z0:0 < z):0 < l.sum:=Int.lt_of_lt_of_le z0 (le_sum h z hz)
theorem Good.sum_pos {R:List (List Int)} (g:Good R) {r:List Int} (hr:r∈R):0 < r.sum:=by
 obtain ⟨i,hi⟩:=List.getElem?_of_mem hr
 obtain ⟨z,hz,z0⟩:=g.diag i r hi
 exact Sh.sum_pos (fun z hz=>(g.nn r hr z hz).1) (List.mem_of_getElem? hz) z0
theorem norm_times {r:List Int} {z:Int} (hz:z∈r) (z0:0 < z):r=(norm r).map fun y=>y * (gcdL r:Int):=by
 unfold norm
 rw [List.map_map]
 conv=>lhs; rw [← List.map_id r]
 refine List.map_congr_left fun y hy=>?_
 show y=y / (gcdL r:Int) * (gcdL r:Int)
 rw [Int.ediv_mul_cancel (Int.ofNat_dvd_left.mpr (gcdL_dvd hy))]
theorem rat_ne {i:Int} (h:0 < i):((i:Int):Rat)≠0:=by
 intro e
 have:i=0:=by exact_mod_cast e
 omega
theorem norm_sum {r:List Int} {z:Int} (hz:z∈r) (z0:0 < z):r.sum=(norm r).sum * (gcdL r:Int):=by
 have s:=sum_mulr (gcdL r:Int) (fun z=>z) (norm r)
 rw [List.map_id',← norm_times hz z0] at s
 exact s
def act (R:List (List Int)) (qs:List Rat):List Rat:=R.map (meanD qs)
def unit (n j:Nat):List Rat:=(List.range n).map fun i=>if i=j then 1 else 0
structure Fine (n M:Nat) (R:List (List Int)):Prop where
 g:Good R
 len:R.length=n
 nf:R.map norm=R
 div:∀ r∈R,r.sum.natAbs ∣ M
theorem Fine.sq {n M:Nat} {R:List (List Int)} (f:Fine n M R):∀ r∈R,r.length=R.length:=f.g.len
def comp (A B:List (List Int)):List (List Int):=(behindR A B).map norm
def look:Tks→Str→List (List Int)
 | [],_=>[]
 | t :: tks,x=>if t.1=x then t.2.map norm else look tks x
@[simp] theorem mtn_people_11:mt_people_B 11=some F_Book_people:=rfl
@[simp] theorem mtn_getitem_11:mt_getitem_B 11=some F_Book___getitem__:=rfl
@[simp] theorem mtn_rshift_10:mt_rshift_T 10=some F_Talk___rshift__:=rfl
@[simp] theorem mtn_led_10:mt_led_T 10=some F_Talk_led:=rfl
def bTpsN (tks:Tks):List (Str×D):=tks.map fun t=>(t.1,talkD t.2)
abbrev N15:Nat:=360360
theorem dvd15 {s:Nat} (h0:0 < s) (h:s≤15):s ∣ N15:=by
 have:∀ s:Fin 16,0 < s.val→s.val ∣ N15:=by decide
 exact this ⟨s,by omega⟩ h0
theorem sum_le_mul {c:Int}:∀ {l:List Int},(∀ z∈l,z≤c)→l.sum≤c * (l.length:Int)
 | [],_=>by simp
 | x :: l,h=>by
  have:=sum_le_mul fun z hz=>h z (List.mem_cons_of_mem x hz)
  have:=h x List.mem_cons_self
  rw [List.sum_cons,List.length_cons,Int.natCast_add,Int.mul_add]
  omega
theorem drawn_fine {R:List (List Int)} {p:Nat} (d:Drawn R p 3) (h0:0 < p) (hp:p≤5):Fine p N15 (R.map norm):=by
 have g:=d.good h0 (by omega) (by decide)
 refine ⟨g.norm,by rw [List.length_map,d.many],norm_twice g,fun r hr=>?_⟩
 obtain ⟨q,hq,rfl⟩:=List.mem_map.mp hr
 obtain ⟨i,hi⟩:=List.getElem?_of_mem hq
 obtain ⟨z,hz,z0⟩:=g.diag i q hi
 have e:=norm_sum (List.mem_of_getElem? hz) z0
 have s0:=g.sum_pos hq
 have s1:=sum_le_mul (l:=q) (c:=3) fun z hz=>by rcases d.nn q hq z hz with h | h <;> omega
 rw [d.len q hq] at s1
 refine Nat.dvd_trans ?_ (dvd15 (s:=q.sum.natAbs) (by omega) (by omega))
 rw [e,Int.natAbs_mul]
 exact Nat.dvd_mul_right _ _
theorem rows_fine {R:List (List Int)} {p:Nat} (d:RowsOk R p):Fine p N15 (R.map norm):=by
 have g:=d.good
 refine ⟨g.norm,by rw [List.length_map,d.many],norm_twice g,fun r hr=>?_⟩
 obtain ⟨q,hq,rfl⟩:=List.mem_map.mp hr
 exact d.div q hq
theorem Drawn.ok {R:List (List Int)} {p:Nat} (d:Drawn R p 3) (h0:0 < p) (hp:p≤5):RowsOk R p:=by
 have f:=drawn_fine d h0 hp
 refine ⟨d.many,d.good h0 (by omega) (by decide),fun r hr=>?_,fun r hr=>f.div _ (List.mem_map_of_mem hr)⟩
 have s1:=sum_le_mul (l:=r) (c:=3) fun z hz=>by rcases d.nn r hr z hz with h | h <;> omega
 rw [d.len r hr] at s1
 omega
def idRow (p i:Nat):List Int:=(List.range p).map fun j=>if j=i then (1:Int) else 0
def ident (p:Nat):List (List Int):=(List.range p).map (idRow p)
theorem pos15 (a:Nat):0 < N15 ^ a:=Nat.pow_pos (by decide)
theorem num_rat (q:Rat):((q.num:Int):Rat)=q * (((q.den:Nat):Int):Rat):=by
 have h:=Rat.num_divInt_den q
 rw [Rat.divInt_eq_div] at h
 have n:(((q.den:Nat):Int):Rat)≠0:=rat_ne (den_pos q)
 grind
theorem num_hi {q:Rat} {v:Int} (h:q≤((v:Int):Rat)):q.num≤v * (q.den:Int):=by
 have d0:(0:Rat)≤(((q.den:Nat):Int):Rat):=by exact_mod_cast Int.le_of_lt (den_pos q)
 have m:=Rat.mul_le_mul_of_nonneg_left h d0
 have e:=num_rat q
 have:((q.num:Int):Rat)≤((v * (q.den:Int):Int):Rat):=by
  rw [e,Rat.intCast_mul]
  grind
 exact_mod_cast this
theorem num_lo {q:Rat} {v:Int} (h:-((v:Int):Rat)≤q):-(v * (q.den:Int))≤q.num:=by
 have d0:(0:Rat)≤(((q.den:Nat):Int):Rat):=by exact_mod_cast Int.le_of_lt (den_pos q)
 have m:=Rat.mul_le_mul_of_nonneg_left h d0
 have e:=num_rat q
 have:((-(v * (q.den:Int)):Int):Rat)≤((q.num:Int):Rat):=by
  rw [e,Rat.intCast_neg,Rat.intCast_mul]
  grind
 exact_mod_cast this
theorem div_le {v V s:Rat} (s0:0 < s) (h:v≤V * s):v / s≤V:=by
 have n:s≠0:=by grind
 have e:v / s * s=v:=by grind
 refine Rat.not_lt.mp fun c=>?_
 have:=Rat.mul_lt_mul_of_pos_right c s0
 grind
theorem le_div {v V s:Rat} (s0:0 < s) (h:V * s≤v):V≤v / s:=by
 have n:s≠0:=by grind
 have e:v / s * s=v:=by grind
 refine Rat.not_lt.mp fun c=>?_
 have:=Rat.mul_lt_mul_of_pos_right c s0
 grind
theorem fine_led {n:Nat} {R:List (List Int)} (f:Fine n N15 R):Led R:=by
 refine ⟨f.g.few,fun r hr=>⟨by rw [f.g.len r hr]; exact f.g.few,fun z hz=>?_,f.g.sum_pos hr,?_⟩⟩
 ·have h1:=le_sum (fun z hz=>(f.g.nn r hr z hz).1) z hz
  have h2:=Nat.le_of_dvd (by decide) (f.div r hr)
  have s0:=f.g.sum_pos hr
  have h0:=(f.g.nn r hr z hz).1
  have:N15=360360:=rfl
  omega
 ·have h2:=Nat.le_of_dvd (by decide) (f.div r hr)
  have:N15=360360:=rfl
  omega
def ledQ (tks:Tks):List Rat→List Str→List (List Rat)
 | _,[]=>[]
 | q,x :: row=>act (look tks x) q :: ledQ tks (act (look tks x) q) row
def valsD (qs:List Rat):D:=.tup (qs.map red)
def Big (V:Int) (M:Nat) (q:Rat):Prop:=q.den ∣ M∧-((V:Int):Rat)≤q∧q≤((V:Int):Rat)
theorem Big.num {V:Int} {M k j:Nat} {q:Rat} (h:Big V M q) (h0:0 < M) (h9:M < 2 ^ k) (hv:V.natAbs < 2 ^ j):q.num.natAbs < 2 ^ (j+k):=by
 have h1:=num_hi h.2.2
 have h2:=num_lo h.2.1
 have d:=dvd_lt h0 h9 h.1
 have d0:=den_pos q
 have e:(V * (q.den:Int)).natAbs < 2 ^ (j+k):=by
  rw [Int.natAbs_mul,Int.natAbs_natCast,Nat.pow_add]
  exact Nat.mul_lt_mul'' hv d
 omega
theorem Big.den {V:Int} {M k:Nat} {q:Rat} (h:Big V M q) (h0:0 < M) (h9:M < 2 ^ k):q.den < 2 ^ k:=dvd_lt h0 h9 h.1
def raw:Tks→Str→List (List Int)
 | [],_=>[]
 | t :: tks,x=>if t.1=x then t.2 else raw tks x
def BdB (M0:Nat) (V:Int) (t:Nat) (qs:List Rat):Prop:=∀ q∈qs,Big V (M0 * N15 ^ t) q
structure Room (M0:Nat) (V:Int) (T:Nat):Prop where
 m0:0 < M0
 few:M0 * N15 ^ T < 2 ^ 199
 v:V.natAbs < 2 ^ 60
theorem Room.at {M0:Nat} {V:Int} {T t:Nat} (r:Room M0 V T) (h:t≤T):M0 * N15 ^ t < 2 ^ 199:=Nat.lt_of_le_of_lt (Nat.mul_le_mul_left _ (Nat.pow_le_pow_right (by decide) h)) r.few
theorem Room.pos {M0:Nat} {V:Int} {T:Nat} (r:Room M0 V T) (t:Nat):0 < M0 * N15 ^ t:=Nat.mul_pos r.m0 (pos15 t)
theorem BdB.under {M0:Nat} {V:Int} {T t:Nat} {qs:List Rat} (r:Room M0 V T) (b:BdB M0 V t qs) (h:t≤T):Under (M0 * N15 ^ t) 199 259 qs :=
 ⟨r.pos t,r.at h,by decide,by decide,fun q hq=>⟨(b q hq).1,(b q hq).num (j:=60) (r.pos t) (r.at h) r.v⟩⟩
theorem led1_okB {n M0:Nat} {V:Int} {T t:Nat} {R:List (List Int)} {qs:List Rat} {s:SV} {vs:List D} (rm:Room M0 V T) (f:Fine n N15 R) (hs:Sees s vs) (iv:∀ v∈vs,IsV v) (hl:vs.length=n) (e:vs.map valOf=qs) (b:BdB M0 V t qs) (h:t≤T) :
  F_Talk_led [some (.dat (talkD R)),some s]=some (.ok (.dat (valsD (act R qs))) [none,none]):=by
 subst e
 have tl:=talk_led_okM (fine_led f) hs iv (by rw [hl,f.len]) (b.under rm h)
 have e:R.map (fun r=>red (meanD (vs.map valOf) r))=(act R (vs.map valOf)).map red:=by unfold act; rw [List.map_map]; rfl
 rw [e] at tl
 exact tl
inductive Dv:D→Prop
 | int (u:Int):-1000000≤u→u≤1000000→Dv (.int u)
 | pair (u:Int) (l:Nat):-1000000≤u→u≤1000000→0 < l→l≤12→Dv (.tup [.int u,.int (l:Int)])
theorem dvd12 {s:Nat} (h0:0 < s) (h:s≤12):s ∣ 27720:=by
 have:∀ s:Fin 13,0 < s.val→s.val ∣ 27720:=by decide
 exact this ⟨s,by omega⟩ h0
theorem one_div (u:Int):Rat.divInt u 1=((u:Int):Rat):=by
 rw [Rat.divInt_eq_div]
 have:((1:Int):Rat)=1:=rfl
 rw [this]
 grind
theorem Dv.isV {d:D} (h:Dv d):IsV d:=by
 cases h with
 | int u _ _=>exact .int u
 | pair u l _ _ l0 l1=>exact .pair _ _ (by omega) (by omega)
theorem int_le {a b:Int} (h:a≤b):((a:Int):Rat)≤((b:Int):Rat):=by exact_mod_cast h
theorem Dv.size {d:D} (h:Dv d):-((1000000:Int):Rat)≤valOf d∧valOf d≤((1000000:Int):Rat):=by
 cases h with
 | int u a b =>
  rw [← Rat.intCast_neg]
  exact ⟨int_le a,int_le b⟩
 | pair u l a b l0 l1 =>
  show -((1000000:Int):Rat)≤Rat.divInt u (l:Int)∧Rat.divInt u (l:Int)≤((1000000:Int):Rat)
  rw [Rat.divInt_eq_div]
  have p:(0:Rat) < (((l:Int)):Rat):=by
   have:(0:Int) < (l:Int):=by omega
   exact_mod_cast this
  refine ⟨le_div p ?_,div_le p ?_⟩
  ·rw [← Rat.intCast_neg,← Rat.intCast_mul]
   exact int_le (show -1000000 * (l:Int)≤u by omega)
  ·rw [← Rat.intCast_mul]
   exact int_le (show u≤1000000 * (l:Int) by omega)
theorem law_pair_ok {d:D} (h:Dv d):F__law_pair [some (.dat d)]=some (.ok (.dat (red (valOf d))) [none]):=by
 cases h with
 | int u a b =>
  have r:=ratio_ok u 1 (by decide) (by decide)
  rw [one_div] at r
  simp [F__law_pair,g__law_pair,isKind,r,valOf]
 | pair u l a b l0 l1 =>
  have r:=ratio_ok u (l:Int) (by omega) (by omega)
  simp [F__law_pair,g__law_pair,isKind,r,valOf]
inductive Dw:D→Prop
 | dv (d:D):Dv d→Dw d
 | one:Dw (.int 999999999)
 | two:Dw (.tup [.int (-999999999),.int 999999998])
theorem Dw.isV {d:D} (h:Dw d):IsV d:=by
 cases h with
 | dv _ h=>exact h.isV
 | one=>exact .int _
 | two=>exact .pair _ _ (by decide) (by decide)
theorem Dw.pair {d:D} (h:Dw d):F__law_pair [some (.dat d)]=some (.ok (.dat (red (valOf d))) [none]):=by
 cases h with
 | dv _ h=>exact law_pair_ok h
 | one =>
  have r:=ratio_ok 999999999 1 (by decide) (by decide)
  rw [one_div] at r
  simp [F__law_pair,g__law_pair,isKind,r,valOf]
 | two =>
  have r:=ratio_ok (-999999999) 999999998 (by decide) (by decide)
  simp [F__law_pair,g__law_pair,isKind,r,valOf]
def isI:D→Bool
 | .int _=>true
 | _=>false
def isVal:D→Bool
 | .int _=>true
 | .tup [.int _,.int q]=>decide (1≤q)
 | _=>false
inductive AnyV:D→Prop
 | non:AnyV .non
 | bl (b:Bool):AnyV (.bl b)
 | str (s:Str):AnyV (.str s)
 | int (z:Int):-1000000000≤z→z≤1000000000→AnyV (.int z)
 | lst (l:List D):l.length≤10→(∀ e∈l,AnyV e)→AnyV (.lst l)
 | tup (l:List D):l.length≤10→(∀ e∈l,AnyV e)→(∀ p q,l=[.int p,.int q]→1≤q→q.natAbs ∣ 27720 * 999999999)→AnyV (.tup l)
theorem is_int_any {d:D} (h:AnyV d):F_is_int [some (.dat d)]=some (.ok (.dat (.bl (isI d))) [none]):=by
 cases h <;> simp [F_is_int,g_is_int,isI,isKind]
theorem is_pair_tup (l:List D) (hl:l.length≤10):F_is_pair [some (.dat (.tup l))]=some (.ok (.dat (.bl (decide (l.length=2)))) [none]):=by
 have c:l.length≤100000:=by omega
 by_cases e:l.length=2
 ·have eI:(l.length:Int)=2:=by omega
  simp [F_is_pair,g_is_pair,isKind,c,e,eI]
 ·have eI:¬ (l.length:Int)=2:=by omega
  simp [F_is_pair,g_is_pair,isKind,c,e,eI]
theorem is_pair_no {d:D} (h:AnyV d) (n:∀ l,d≠.tup l):F_is_pair [some (.dat d)]=some (.ok (.dat (.bl false)) [none]):=by
 cases h with
 | tup l _ _ _=>exact absurd rfl (n l)
 | _=>simp [F_is_pair,g_is_pair,isKind]
theorem isVal_no {l:List D} (h:l.length≠2):isVal (.tup l)=false:=by
 match l,h with
 | [],_=>rfl
 | [x],_=>cases x <;> rfl
 | [_,_],h=>exact absurd rfl h
 | x :: y :: _ :: _,_=>cases x <;> first | rfl | (cases y <;> rfl)
theorem isVal_two (x y:D):isVal (.tup [x,y])=(isI x && (isI y && (match y with | .int q=>decide (1≤q) | _=>false))):=by
 cases x <;> cases y <;> rfl
theorem is_value_any {d:D} (h:AnyV d):F_is_value [some (.dat d)]=some (.ok (.dat (.bl (isVal d))) [none]):=by
 by_cases t:∃ l,d=.tup l
 ·obtain ⟨l,rfl⟩:=t
  cases h with
  | tup l hl he hq =>
   have ip:=is_pair_tup l hl
   by_cases e:l.length=2
   ·match l,e,he,ip,hl,hq with
    | [x,y],_,he,ip,_,_ =>
     have i1:=is_int_any (he x (by simp))
     have i2:=is_int_any (he y (by simp))
     rw [isVal_two]
     have a0:atI [x,y] 0=some x:=atI_nat (j:=0) rfl
     have a1:atI [x,y] 1=some y:=atI_nat (j:=1) rfl
     have ip:F_is_pair [some (.dat (.tup [x,y]))]=some (.ok (.dat (.bl true)) [none]):=ip
     cases y with
     | int q =>
      cases cx:isI x
      ·rw [cx] at i1
       simp [F_is_value,g_is_value,ip,i1,a0]
      ·rw [cx] at i1
       have i2:F_is_int [some (.dat (.int q))]=some (.ok (.dat (.bl true)) [none]):=i2
       simp [F_is_value,g_is_value,ip,i1,i2,a0,a1,isI]
     | _ =>
      cases cx:isI x <;> rw [cx] at i1 <;> simp [isI] at i2 ⊢ <;> simp [F_is_value,g_is_value,ip,i1,i2,a0,a1]
   ·rw [isVal_no e]
    rw [decide_eq_false e] at ip
    have ii:F_is_int [some (.dat (.tup l))]=some (.ok (.dat (.bl false)) [none]):=is_int_any (.tup l hl he hq)
    simp [F_is_value,g_is_value,ip,ii]
 ·have ip:=is_pair_no h fun l e=>t ⟨l,e⟩
  have ii:=is_int_any h
  have e:isVal d=isI d:=by
   cases h with
   | tup l _ _ _=>exact absurd ⟨l,rfl⟩ t
   | _=>rfl
  rw [e]
  simp [F_is_value,g_is_value,ip,ii]
theorem val_isV {d:D} (h:AnyV d) (v:isVal d=true):IsV d∧Big 1000000000 (27720 * 999999999) (valOf d):=by
 cases h with
 | int z a b=>exact ⟨.int z,Nat.one_dvd _,by rw [← Rat.intCast_neg]; exact int_le a,int_le b⟩
 | tup l hl he hq =>
  match l,hl,he,hq,v with
  | [.int p,.int q],_,he,hq,v =>
   have q1:1≤q:=of_decide_eq_true v
   have dq:=hq p q rfl q1
   have qs:q≤1000000000:=by
    cases he (.int q) (by simp) with
    | int _ a b=>exact b
   obtain ⟨pa,pb⟩:-1000000000≤p∧p≤1000000000:=by
    cases he (.int p) (by simp) with
    | int _ a b=>exact ⟨a,b⟩
   refine ⟨.pair p q (by omega) (by omega),Nat.dvd_trans (den_dvd (t:=p) (by omega)) dq,?_⟩
   show -((1000000000:Int):Rat)≤Rat.divInt p q∧Rat.divInt p q≤((1000000000:Int):Rat)
   rw [Rat.divInt_eq_div]
   have p0:(0:Rat) < (((q:Int)):Rat):=by
    have:(0:Int) < q:=by omega
    exact_mod_cast this
   refine ⟨le_div p0 ?_,div_le p0 ?_⟩
   ·rw [← Rat.intCast_neg,← Rat.intCast_mul]
    exact int_le (show -1000000000 * q≤p by omega)
   ·rw [← Rat.intCast_mul]
    exact int_le (show p≤1000000000 * q by omega)
 | _=>cases v
def wrongN (l:List D):Option Nat:=l.findIdx? fun e=>!isVal e
def dueD (d:D) (p:Nat):D:=match d with
 | .lst l=>if l.length=p then (match wrongN l with | none=>.non | some k=>.int (k:Int)) else .int 0
 | .tup l=>if l.length=p then (match wrongN l with | none=>.non | some k=>.int (k:Int)) else .int 0
 | _=>.int 0
theorem checked_loop {s':SV} {p:Nat}:∀ (l done:List D) (x2 x3:Option SV),(∀ e∈l,AnyV e)→∃ y2 y3,loopS (tgT [2,3]) b_checked_numbers_1 (l.zipIdx done.length |>.map fun q=>D.tup [.int (q.2:Int),q.1]) [some s',some (.dat (.int (p:Int))),x2,x3] =
   match wrongN l with
   | none=>some (.nx [some s',some (.dat (.int (p:Int))),y2,y3])
   | some k=>some (.exc 5 [("at",.int ((done.length+k:Nat):Int))] [some s',some (.dat (.int (p:Int))),y2,y3])
 | [],done,x2,x3,_=>⟨x2,x3,rfl⟩
 | e :: l,done,x2,x3,h=>by
  have iv:=is_value_any (h e List.mem_cons_self)
  cases c:isVal e with
  | false =>
   rw [c] at iv
   refine ⟨some (.dat (.int (done.length:Int))),some (.dat e),?_⟩
   have w:wrongN (e :: l)=some 0:=by unfold wrongN; rw [List.findIdx?_cons,c]; rfl
   rw [w,List.zipIdx_cons,List.map_cons,ev_loopS_cons]
   simp [b_checked_numbers_1,iv]
  | true =>
   rw [c] at iv
   obtain ⟨y2,y3,ih⟩:=checked_loop (s':=s') (p:=p) l (done++[e]) (some (.dat (.int (done.length:Int)))) (some (.dat e)) fun z hz=>h z (List.mem_cons_of_mem _ hz)
   refine ⟨y2,y3,?_⟩
   rw [List.length_append,List.length_singleton] at ih
   have w:wrongN (e :: l)=(wrongN l).map (·+1):=by unfold wrongN; rw [List.findIdx?_cons,c]; rfl
   rw [w,List.zipIdx_cons,List.map_cons,ev_loopS_cons]
   have e1:b_checked_numbers_1 [some s',some (.dat (.int (p:Int))),some (.dat (.int (done.length:Int))),some (.dat e)]=some (.nx [some s',some (.dat (.int (p:Int))),some (.dat (.int (done.length:Int))),some (.dat e)]):=by
    simp [b_checked_numbers_1,iv]
   have t:(tgT [2,3]) (.tup [.int (done.length:Int),e]) [some s',some (.dat (.int (p:Int))),x2,x3]=some [some s',some (.dat (.int (p:Int))),some (.dat (.int (done.length:Int))),some (.dat e)]:=by simp
   rw [t]
   dsimp only
   rw [e1]
   dsimp only
   rw [ih]
   cases wrongN l with
   | none=>rfl
   | some k =>
    simp only [Option.map_some]
    rw [show done.length+1+k=done.length+(k+1) by omega]
theorem enum_zip (l:List D):enumL l=(l.zipIdx 0).map fun q=>D.tup [.int (q.2:Int),q.1]:=by
 refine List.ext_getElem? fun i=>?_
 rw [List.getElem?_map,List.getElem?_zipIdx]
 cases h:l[i]? with
 | none =>
  have:=List.getElem?_eq_none_iff.mp h
  rw [List.getElem?_eq_none (by rw [enumL_length]; exact this)]
  rfl
 | some d=>rw [enumL_at h]; simp
theorem isv_any {d:D} {s:SV} (hs:s=.dat d∨∃ l,d=.lst l∧s=.lck (.lst l)) (h:AnyV d):F_is_sequence [some s]=some (.ok (.dat (.bl (match d with | .lst _=>true | .tup _=>true | _=>false))) [none]):=by
 rcases hs with rfl | ⟨l,rfl,rfl⟩
 ·cases h <;> simp [F_is_sequence,g_is_sequence,isKind]
 ·simp [F_is_sequence,g_is_sequence,isKind,MO.see]
theorem checked_bad {d:D} {s:SV} (hs:s=.dat d∨∃ l,d=.lst l∧s=.lck (.lst l)) (h:AnyV d) {p k:Nat} (e:dueD d p=.int (k:Int)):F_checked_numbers [some s,some (.dat (.int (p:Int)))]=some (.exc 5 [("at",.int (k:Int))] [none,none]):=by
 have sq:=isv_any hs h
 have bad:∀ (l:List D) (s:SV),(s=.dat (.lst l)∨s=.dat (.tup l)∨s=.lck (.lst l))→l.length≤10→(∀ e∈l,AnyV e)→(if l.length=p then (match wrongN l with | none=>D.non | some k=>.int (k:Int)) else .int 0)=.int (k:Int)→F_is_sequence [some s]=some (.ok (.dat (.bl true)) [none])→F_checked_numbers [some s,some (.dat (.int (p:Int)))]=some (.exc 5 [("at",.int (k:Int))] [none,none]):=by
  intro l s hs hl he e sq
  have c:l.length≤100000:=by omega
  by_cases lp:l.length=p
  ·rw [if_pos lp] at e
   have lI:(l.length:Int)=(p:Int):=by omega
   cases w:wrongN l with
   | none=>rw [w] at e; cases e
   | some k' =>
    rw [w] at e
    injection e with e
    have ek:k'=k:=by omega
    subst ek
    have go:∀ s',∃ y2 y3,loopS (tgT [2,3]) b_checked_numbers_1 (enumL l) [some s',some (.dat (.int (p:Int))),none,none]=some (.exc 5 [("at",.int (k':Int))] [some s',some (.dat (.int (p:Int))),y2,y3]):=fun s'=>by
     obtain ⟨y2,y3,lp⟩:=checked_loop (s':=s') (p:=p) l [] none none he
     rw [w] at lp
     rw [enum_zip]
     have z:([]:List D).length+k'=k':=by simp
     dsimp only at lp
     rw [z] at lp
     exact ⟨y2,y3,lp⟩
    rcases hs with rfl | rfl | rfl
    ·obtain ⟨y2,y3,e⟩:=go (.dat (.lst l))
     simp [F_checked_numbers,g_checked_numbers,sq,c,lp,lI,e]
    ·obtain ⟨y2,y3,e⟩:=go (.dat (.tup l))
     simp [F_checked_numbers,g_checked_numbers,sq,c,lp,lI,e]
    ·obtain ⟨y2,y3,e⟩:=go (.lck (.lst l))
     simp [F_checked_numbers,g_checked_numbers,sq,c,lp,lI,e,MO.see]
  ·rw [if_neg lp] at e
   injection e with e
   have lI:¬ (l.length:Int)=(p:Int):=by omega
   rw [← e]
   rcases hs with rfl | rfl | rfl <;> simp [F_checked_numbers,g_checked_numbers,sq,c,lp,lI,MO.see]
 cases h with
 | lst l hl he =>
  refine bad l s ?_ hl he e sq
  rcases hs with rfl | ⟨l',e',rfl⟩
  ·exact .inl rfl
  ·cases e'; exact .inr (.inr rfl)
 | tup l hl he hq =>
  refine bad l s ?_ hl he e sq
  rcases hs with rfl | ⟨l',e',rfl⟩
  ·exact .inr (.inl rfl)
  ·cases e'
 | _ =>
  have e:(D.int 0)=.int (k:Int):=e
  injection e with e
  have k0:k=0:=by omega
  subst k0
  rcases hs with rfl | ⟨l',e',_⟩
  ·simp [F_checked_numbers,g_checked_numbers,sq]
  ·cases e'
def goes (tks:Tks) (p:Nat) (row:List Str) (j:Nat):List Rat:=(ledQ tks (unit p j) row).getLast?.getD (unit p j)
theorem range_nth {p i:Nat} {d:D} (h:(rangeL 0 p)[i]?=some d):i < p∧d=.int (i:Int):=by
 have hi:i < p:=by
  have:=(List.getElem?_eq_some_iff.mp h).1
  rwa [rangeL_length] at this
 rw [range0,List.getElem?_map,List.getElem?_range hi] at h
 cases h
 exact ⟨hi,rfl⟩
def minR (x y:Rat):Rat:=if x < y then x else y
def sumMin (a b:List Rat):Rat:=((a.zip b).map fun p=>minR p.1 p.2).sum
def lackQ (a b:List Rat):Rat:=1+-sumMin a b
def LackLt (Q:List (List Rat)) (i:Nat) (y:Rat):Prop:=∃ a b,b < a∧a < i∧a < Q.length∧y=lackQ (Q.getD a []) (Q.getD b [])
def IsFactor (Q:List (List Rat)) (x:Rat):Prop:=0≤x∧(x=0∨LackLt Q Q.length x)∧∀ y,LackLt Q Q.length y→y≤x
theorem IsFactor.same {Q:List (List Rat)} {x y:Rat} (h:IsFactor Q x) (h':IsFactor Q y):x=y:=by
 obtain ⟨a,b,c⟩:=h
 obtain ⟨a',b',c'⟩:=h'
 have l1:x≤y:=by
  rcases b with rfl | b
  ·exact a'
  ·exact c' x b
 have l2:y≤x:=by
  rcases b' with rfl | b'
  ·exact a
  ·exact c y b'
 grind
theorem Drawn.nine {R:List (List Int)} {p:Nat} (d:Drawn R p 3):Drawn R p 9 :=
 ⟨d.many,d.len,fun r hr z hz=>by rcases d.nn r hr z hz with ⟨h1,h2⟩ | h; exact .inl ⟨h1,by omega⟩; exact .inr h,d.diag⟩
theorem nodup_le {α:Type} [DecidableEq α]:∀ {l m:List α},l.Nodup→(∀ x∈l,x∈m)→l.length≤m.length
 | [],m,_,_=>Nat.zero_le _
 | x :: l,m,n,h=>by
  have hx:=h x List.mem_cons_self
  rw [List.nodup_cons] at n
  have:=nodup_le (m:=m.erase x) n.2 fun y hy=>(List.mem_erase_of_ne (fun e=>n.1 (by rw [← e]; exact hy))).mpr (h y (List.mem_cons_of_mem _ hy))
  have lm:=List.length_erase_of_mem hx
  have l0:=List.length_pos_of_mem hx
  rw [List.length_cons]
  omega
theorem Fit.names {ns:List Str} {st:List (Str×Str)} {r:List Str} (f:Fit ns st r):∀ x∈r,x∈ns:=by
 intro x hx
 obtain ⟨i,hi⟩:=List.getElem?_of_mem hx
 exact (f i x hi).1
inductive HasL:SV→List D→Prop
 | dat (l:List D):HasL (.dat (.lst l)) l
 | own (l:List D):HasL (.own (.lst l)) l
inductive RetL:RV→List D→Prop
 | dat (l:List D):RetL (.dat (.lst l)) l
 | own (l:List D):RetL (.own (.lst l)) l
def IsSpr (q:List Rat) (x:Rat):Prop:=(∀ a∈q,∀ b∈q,a - b≤x)∧∃ a∈q,∃ b∈q,x=a - b
theorem IsSpr.same {q:List Rat} {x y:Rat} (h:IsSpr q x) (h':IsSpr q y):x=y:=by
 obtain ⟨a1,a,ha,b,hb,rfl⟩:=h
 obtain ⟨c1,c,hc,d,hd,rfl⟩:=h'
 have:=a1 c hc d hd
 have:=c1 a ha b hb
 grind
theorem IsSpr.nn {q:List Rat} {x:Rat} (h:IsSpr q x):0≤x:=by
 obtain ⟨a1,a,ha,b,hb,rfl⟩:=h
 have:=a1 a ha a ha
 grind
def Rows (n:Nat) (A:List (List Int)):Prop:=A.length=n∧∀ r∈A,r.length=n∧(∀ z∈r,0≤z)∧0 < r.sum
theorem Fine.rows {n M:Nat} {A:List (List Int)} (f:Fine n M A):Rows n A:=⟨f.len,fun r hr=>⟨by rw [f.g.len r hr,f.len],fun z hz=>(f.g.nn r hr z hz).1,f.g.sum_pos hr⟩⟩
@[simp] theorem mtp_len_10:mt_len_T 10=some F_Talk___len__:=rfl
@[simp] theorem mtp_heeds_10:mt_heeds_T 10=some F_Talk_heeds:=rfl
def natsD (l:List Nat):D:=.tup (l.map fun (j:Nat)=>D.int (j:Int))
def heedL (r:List Int):List Nat:=(List.range r.length).filter fun j=>decide (0 < r.getD j 0)
def meetB (a b:List Nat):Bool:=a.any fun x=>decide (x∈b)
def turnR (o:List Nat) (R:List (List Int)):List (List Int):=o.map fun a=>o.map fun b=>(R.getD a []).getD b 0
def turnT (o:List Nat) (tks:Tks):Tks:=tks.map fun t=>(t.1,turnR o t.2)
@[simp] theorem ev_loopL_nil (vs:List Nat) (tg:D→Sl→Option Sl) (ft:Ef Bool) (fe:DE) (acc:List (List D)) (ρ:Sl):loopL vs tg ft fe [] acc ρ=some (.ok (.own (.lls acc)) ρ):=rfl
theorem dEq_ints_nil {l:List Int}:dEq (.lst (l.map D.int)) (.lst [])=some l.isEmpty:=by
 obtain ⟨a,b,c⟩:=nums_ints l
 refine dEq_num (by simp [D.num,a]) rfl (by simp [D.pure,b]) rfl (by simp [D.deep,c]) (by decide) rfl ?_
 cases l <;> simp
def twoR (n i j:Nat) (v:Int):List (List Int):=(ident n).set i ((idRow n i).set j v)
def bothR (n i j:Nat) (v:Int):List (List Int):=(twoR n i j v).set j ((idRow n j).set i 1)
def lotsL:Nat→List (List Nat)
 | 1=>[[0]]
 | 2=>[[0],[0,1],[1]]
 | 3=>[[0],[0,1],[0,1,2],[0,2],[1],[1,2],[2]]
 | 4=>[[0],[0,1],[0,1,2],[0,1,2,3],[0,1,3],[0,2],[0,2,3],[0,3],[1],[1,2],[1,2,3],[1,3],[2],[2,3],[3]]
 | 5=>[[0],[0,1],[0,1,2],[0,1,2,3],[0,1,2,3,4],[0,1,2,4],[0,1,3],[0,1,3,4],[0,1,4],[0,2],[0,2,3],[0,2,3,4],[0,2,4],[0,3],[0,3,4],[0,4],[1],[1,2],[1,2,3],[1,2,3,4],[1,2,4],[1,3],[1,3,4],[1,4],[2],[2,3],[2,3,4],[2,4],[3],[3,4],[4]]
 | _=>[]
@[simp] theorem mtc_closes_10:mt_closes_T 10=some F_Talk_closes:=rfl
@[simp] theorem mtc_firm_10:mt_firm_T 10=some F_Talk_firm:=rfl
def natD (j:Nat):D:=.int (j:Int)
def closesB (A:List (List Int)) (l:List Nat):Bool:=l.all fun i=>(heedL (A.getD i [])).all fun j=>decide (j∈l)
def closedL (A:List (List Int)):List (List Nat):=(lotsL A.length).filter (closesB A)
theorem nats_ints (l:List Nat):l.map natD=(l.map fun (j:Nat)=>(j:Int)).map D.int:=by
 rw [List.map_map]
 rfl
theorem ints_nilN (l:List Nat):dEq (.lst (l.map natD)) (.lst [])=some l.isEmpty:=by
 rw [nats_ints,dEq_ints_nil]
 cases l <;> rfl
def Dig (z:Int):Prop:=0≤z∧z≤9
theorem Dig.cases {z:Int} (h:Dig z):z=0∨z=1∨z=2∨z=3∨z=4∨z=5∨z=6∨z=7∨z=8∨z=9:=by
 obtain ⟨a,b⟩:=h
 omega
structure Digs (R:List (List Int)):Prop where
 good:Good R
 few:R.length≤10
 dig:∀ r∈R,∀ z∈r,Dig z
theorem Digs.ne {R:List (List Int)} (d:Digs R):R≠[]:=fun e=>by
 have:=d.good.pos
 rw [e] at this
 exact absurd this (Nat.lt_irrefl _)
theorem Digs.tiny {R:List (List Int)} (d:Digs R):Tiny R :=
 ⟨d.few,fun r h=>by rw [d.good.len r h]; exact d.few,fun r h z hz=>by
  obtain ⟨a,b⟩:=d.dig r h z hz
  have:z.natAbs≤9:=by omega
  exact Nat.lt_of_le_of_lt this (by decide)⟩
end Sh
namespace Sh
open PySem PySem.Spec PyProof.Rows L2 Tk Pl PySem.StrLaws PySem.Builtin.Str
structure Low (x:Str):Prop where
 tl:∀ c∈TL.tl x,97≤c∧c≤122
 len:x.length≤6
 isn:F_is_name [some (.dat (.str x))]=some (.ok (.dat (.bl true)) [none])
theorem Low.sp {x:Str} (h:Low x):32∉TL.tl x:=fun m=>by have:=h.tl 32 m; omega
def tLine (x:Str) (R:List (List Int)):Str:=(("talk " : Str)++x)++(" " : Str)++txt R
def sLine (a b:Str):Str:=(("behind " : Str)++a)++(" " : Str)++b
theorem sLine_len {a b:Str} (ha:Low a) (hb:Low b):(sLine a b).length≤30:=by
 have:=ha.len
 have:=hb.len
 have e:("behind " : Str).length=7:=by decide +kernel
 unfold sLine
 rw [Str.length_append,Str.length_append,Str.length_append,e,space_len]
 omega
end Sh
namespace Sh
open PySem PySem.Spec PyProof.Rows L2 Tk Pl
end Sh
namespace Sh
open PySem PySem.Spec PyProof.Rows L2 Tk Pl PySem.StrLaws PySem.Builtin.Str
theorem dig_len {z:Int} (h:Dig z):(showI z).length=1:=by
 rcases h.cases with rfl | rfl | rfl | rfl | rfl | rfl | rfl | rfl | rfl | rfl <;> decide +kernel
theorem row_short {r:List Int} (h:∀ z∈r,Dig z) (l:r.length≤10):(txtRow r).length≤20:=by
 have j:=join_len (" " : Str) (r.map showI)
 have s:=sum_le (l:=(r.map showI).map (·.length)) (b:=1) (by
  intro x hx
  rw [List.map_map] at hx
  obtain ⟨z,hz,rfl⟩:=List.mem_map.mp hx
  exact Nat.le_of_eq (dig_len (h z hz)))
 rw [space_len] at j
 simp only [List.length_map] at j s
 unfold txtRow
 omega
theorem txt_short {R:List (List Int)} (d:Digs R):(txt R).length≤220:=by
 have j:=join_len (", " : Str) (R.map txtRow)
 have s:=sum_le (l:=(R.map txtRow).map (·.length)) (b:=20) (by
  intro x hx
  rw [List.map_map] at hx
  obtain ⟨r,hr,rfl⟩:=List.mem_map.mp hx
  exact row_short (d.dig r hr) (d.tiny.len r hr))
 have:=d.few
 rw [comma_len] at j
 simp only [List.length_map] at j s
 unfold txt
 omega
theorem tLine_short {x:Str} {R:List (List Int)} (h:Low x) (d:Digs R):(tLine x R).length≤232:=by
 have:=txt_short d
 have:=h.len
 have e:("talk " : Str).length=5:=by decide +kernel
 unfold tLine
 rw [Str.length_append,Str.length_append,Str.length_append,e,space_len]
 omega
def lns (tks:Tks) (sts:List (Str×Str)):List Str:=tks.map (fun t=>tLine t.1 t.2)++sts.map fun q=>sLine q.1 q.2
structure BText (tks:Tks) (sts:List (Str×Str)) (p:Nat):Prop where
 ne:tks≠[]
 few:tks.length≤10
 nod:(nmsOf tks).Nodup
 low:∀ x∈nmsOf tks,Low x
 sh:∀ x∈nmsOf tks,shortS x=true
 dig:∀ t∈tks,Digs t.2
 len:∀ t∈tks,t.2.length=p
 hp:p≤1000
 fewS:sts.length < 64
 nodS:sts.Nodup
 st:∀ q∈sts,q.1∈nmsOf tks∧q.2∈nmsOf tks
theorem nl_len:("\n" : Str).length=1:=by decide +kernel
section
variable {tks:Tks} {sts:List (Str×Str)} {p:Nat}
theorem BText.talkLow (b:BText tks sts p) {t:Str×List (List Int)} (h:t∈tks):Low t.1:=b.low _ (List.mem_map_of_mem h)
theorem lns_len (tks:Tks) (sts:List (Str×Str)):(lns tks sts).length=tks.length+sts.length:=by simp [lns]
end
theorem Low.nameB {x:Str} (h:Low x):nameB x=true:=by
 unfold Sh.nameB
 rw [h.isn]
 rfl
end Sh
namespace Sh
open PySem PySem.Spec PyProof.Rows L2 Tk Pl
def Low3 (z:Int):Prop:=0≤z∧z≤3
theorem Low3.dig {z:Int} (h:Low3 z):Dig z:=⟨h.1,Int.le_trans h.2 (by decide)⟩
def six:List Str:=["a","bb","left","right","zz","x"]
theorem low_of {x:Str} (h1:∀ c∈TL.tl x,97≤c∧c≤122) (h2:x.length≤6) (h3:F_is_name [some (.dat (.str x))]=some (.ok (.dat (.bl true)) [none])):Low x:=⟨h1,h2,h3⟩
theorem six_low:∀ x∈six,Low x:=fun x hx=>by
 simp only [six,List.mem_cons,List.not_mem_nil,or_false] at hx
 rcases hx with rfl | rfl | rfl | rfl | rfl | rfl
 all_goals exact low_of (by decide +kernel) (by decide +kernel) (by kernel_rfl)
def names14:List Str:=["a","bb","left","right","zz","x","up","talks","b","talk","behind","zzzzzz","ab","o"]
theorem n14_low:∀ x∈names14,Low x:=fun x hx=>by
 simp only [names14,List.mem_cons,List.not_mem_nil,or_false] at hx
 rcases hx with rfl | rfl | rfl | rfl | rfl | rfl | rfl | rfl | rfl | rfl | rfl | rfl | rfl | rfl
 all_goals exact low_of (by decide +kernel) (by decide +kernel) (by kernel_rfl)
theorem n14_ok:names14.Nodup∧∀ x∈names14,shortS x=true:=by decide +kernel
theorem six_14:∀ x∈six,x∈names14:=by decide +kernel
structure Drawn3 (n:Nat) (tks:Tks) (sts:List (Str×Str)):Prop where
 n0:0 < n
 n5:n≤5
 ne:tks≠[]
 few:tks.length≤5
 nod:(nmsOf tks).Nodup
 six:∀ x∈nmsOf tks,x∈Sh.six
 rows:∀ t∈tks,RowsOk t.2 n∧∀ r∈t.2,∀ z∈r,Low3 z
 fewS:sts.length≤25
 nodS:sts.Nodup
 st:∀ q∈sts,q.1∈nmsOf tks∧q.2∈nmsOf tks
inductive Rch (E:Str→List Str) (s:Str):Str→Prop
 | one {y:Str}:y∈E s→Rch E s y
 | more {x y:Str}:Rch E s x→y∈E x→Rch E s y
def visit (f w:List Str):List Str→List Str×List Str
 | []=>(f,w)
 | y :: r=>if y∈f then visit f w r else visit (f++[y]) (w++[y]) r
structure Vis3 (f w l f' w':List Str):Prop where
 nod:f.Nodup→f'.Nodup
 old:∀ x∈f,x∈f'
 all:∀ x∈l,x∈f'
 new:∀ x∈f',x∈f∨x∈l
 wait:∀ x∈w',x∈w∨x∈f'
 keep:∀ x∈w,x∈w'
 put:∀ x∈f',x∈f∨x∈w'
 many:w'.length+f.length=w.length+f'.length
theorem visit_ok:∀ (l f w:List Str),Vis3 f w l (visit f w l).1 (visit f w l).2
 | [],f,w=>⟨id,fun _ h=>h,fun _ h=>(by cases h),fun _ h=>.inl h,fun _ h=>.inl h,fun _ h=>h,fun _ h=>.inl h,rfl⟩
 | y :: r,f,w=>by
  unfold visit
  by_cases c:y∈f
  ·rw [if_pos c]
   have v:=visit_ok r f w
   exact ⟨v.nod,v.old,fun x hx=>by
    rcases List.mem_cons.mp hx with rfl | hx
    ·exact v.old _ c
    ·exact v.all x hx,fun x hx=>(v.new x hx).imp_right (List.mem_cons_of_mem _),v.wait,v.keep,v.put,v.many⟩
  ·rw [if_neg c]
   have v:=visit_ok r (f++[y]) (w++[y])
   refine ⟨fun h=>v.nod (List.nodup_append.mpr ⟨h,by simp,fun a ha b hb e=>c (by rw [← List.mem_singleton.mp hb,← e]; exact ha)⟩),fun x hx=>v.old x (List.mem_append_left _ hx),fun x hx=>?_,fun x hx=>?_,fun x hx=>?_,fun x hx=>v.keep x (List.mem_append_left _ hx),fun x hx=>?_,?_⟩
   ·rcases List.mem_cons.mp hx with rfl | hx
    ·exact v.old _ (List.mem_append_right _ (List.mem_singleton.mpr rfl))
    ·exact v.all x hx
   ·rcases v.new x hx with h | h
    ·rcases List.mem_append.mp h with h | h
     ·exact .inl h
     ·rw [List.mem_singleton.mp h]
      exact .inr List.mem_cons_self
    ·exact .inr (List.mem_cons_of_mem _ h)
   ·rcases v.wait x hx with h | h
    ·rcases List.mem_append.mp h with h | h
     ·exact .inl h
     ·rw [List.mem_singleton.mp h]
      exact .inr (v.old _ (List.mem_append_right _ (List.mem_singleton.mpr rfl)))
    ·exact .inr h
   ·rcases v.put x hx with h | h
    ·rcases List.mem_append.mp h with h | h
     ·exact .inl h
     ·rw [List.mem_singleton.mp h]
      exact .inr (v.keep _ (List.mem_append_right _ (List.mem_singleton.mpr rfl)))
    ·exact .inr h
   ·have:=v.many
    simp only [List.length_append,List.length_cons,List.length_nil] at this
    omega
structure Walk (E:Str→List Str) (s:Str) (f w:List Str):Prop where
 nod:f.Nodup
 sure:∀ x∈f,Rch E s x
 from_:∀ x∈w,x=s∨x∈f
 done:∀ x,x=s∨x∈f→x∈w∨∀ y∈E x,y∈f
theorem Walk.go {E:Str→List Str} {s p:Str} {f w:List Str} (k:Walk E s f w) (h:w.getLast?=some p):Walk E s (visit f w.dropLast (E p)).1 (visit f w.dropLast (E p)).2:=by
 have v:=visit_ok (E p) f w.dropLast
 have ew:w=w.dropLast++[p]:=by
  obtain ⟨ys,rfl⟩:=List.getLast?_eq_some_iff.mp h
  rw [List.dropLast_concat]
 have pw:p∈w:=by rw [ew]; exact List.mem_append_right _ (List.mem_singleton.mpr rfl)
 have rp:∀ y∈E p,Rch E s y:=fun y hy=>by
  rcases k.from_ p pw with rfl | h
  ·exact .one hy
  ·exact .more (k.sure p h) hy
 refine ⟨v.nod k.nod,fun x hx=>?_,fun x hx=>?_,fun x hx=>?_⟩
 ·rcases v.new x hx with h | h
  ·exact k.sure x h
  ·exact rp x h
 ·rcases v.wait x hx with h | h
  ·rcases k.from_ x (List.dropLast_subset w h) with h | h
   ·exact .inl h
   ·exact .inr (v.old x h)
  ·exact .inr h
 ·by_cases old:x=s∨x∈f
  ·rcases k.done x old with h | h
   ·rw [ew] at h
    rcases List.mem_append.mp h with h | h
    ·exact .inl (v.keep x h)
    ·rw [List.mem_singleton.mp h]
     exact .inr v.all
   ·exact .inr fun y hy=>v.old y (h y hy)
  ·have hx:x∈(visit f w.dropLast (E p)).1:=hx.resolve_left fun e=>old (.inl e)
   rcases v.put x hx with h | h
   ·exact absurd (.inr h) old
   ·exact .inl h
end Sh
namespace Pl
open PySem PySem.Spec PyProof.Rows L2 Tk Ns
@[simp] theorem ev_look (r1 r2:RV) (ρ:Sl):gLook r1 r2 ρ=(match dicOf r1 ρ,r2.see ρ with
 | some (k,l),some y=>(if keyOk k y then (match dGet l y with
   | some d=>some (.ok (.dat d) ρ)
   | none=>none)
  else none)
 | _,_=>none):=rfl
@[simp] theorem ev_din (r1 r2:RV) (ρ:Sl):gDIn r1 r2 ρ=(match r1.see ρ,dicOf r2 ρ with
 | some y,some (k,l)=>(if keyOk k y then some (.ok (.dat (.bl (dGet l y).isSome)) ρ) else none)
 | _,_=>none):=rfl
@[simp] theorem ev_dnotin (r1 r2:RV) (ρ:Sl):gDNotIn r1 r2 ρ=(match r1.see ρ,dicOf r2 ρ with
 | some y,some (k,l)=>(if keyOk k y then some (.ok (.dat (.bl !(dGet l y).isSome)) ρ) else none)
 | _,_=>none):=rfl
@[simp] theorem ev_dDc (k:KK) (vs:List Nat) (fi:Ef Wk) (tg:D→Sl→Option Sl) (ft:Ef Bool) (fk fe:DE) (ρ:Sl):dDc k vs fi tg ft fk fe ρ=bindE fi (fun w=>lockedE w.2 fun ρ=>loopD k vs tg ft (froze fk) (froze fe) w.1 [] (wipeR ρ vs)) ρ:=rfl
@[simp] theorem ev_lockE (f:DE) (ρ:Sl):lockE f ρ=bindE f lockR ρ:=rfl
@[simp] theorem dicOf_dat (k:KK) (ks vs:List D) (ρ:Sl):dicOf (.dat (.dic k ks vs)) ρ=some (k,ks.zip vs):=rfl
@[simp] theorem dicOf_ownD (k:KK) (l:List (D×D)) (ρ:Sl):dicOf (.own (.dct k l)) ρ=some (k,l):=rfl
@[simp] theorem dicOf_bor (i:Nat) (ρ:Sl):dicOf (.bor i) ρ=(match ρ[i]? with
  | some (some (.dat (.dic k ks vs)))=>some (k,ks.zip vs)
  | some (some (.own (.dct k l)))=>some (k,l)
  | some (some (.lck (.dct k l)))=>some (k,l)
  | _=>none):=rfl
@[simp] theorem dicOf_shr (i:Nat) (ρ:Sl):dicOf (.shr i) ρ=(match ρ[i]? with
  | some (some (.dat (.dic k ks vs)))=>some (k,ks.zip vs)
  | some (some (.own (.dct k l)))=>some (k,l)
  | some (some (.lck (.dct k l)))=>some (k,l)
  | _=>none):=rfl
mutual
theorem kEq_refl:∀ (a:D) (k:NestedKey),nestD a=some k→kEq a a=true
 | a,k,h=>by rw [kEq_nest a a k k h h]; simp
end
def isT:Option Out→Bool
 | some (.rt (.dat (.bl true)) _)=>true
 | _=>false
end Pl
namespace Sh
open PySem PySem.Spec PyProof.Rows L2 Tk Pl
def Ein (st:List (Str×Str)) (nl:List Str) (x:Str):List Str:=(behindL st x).filter fun y=>decide (y∈nl)
theorem ein_in {st:List (Str×Str)} {nl:List Str}:∀ x,∀ y∈Ein st nl x,y∈nl:=fun x y h=>of_decide_eq_true (List.mem_filter.mp h).2
section
variable {st:List (Str×Str)} {nl:List Str} {x:Str}
end
section
variable {n:Nat} {tks:Tks} {sts:List (Str×Str)} {nl:List Str}
end
theorem mem_ein {st:List (Str×Str)} {nl:List Str} {a y:Str}:y∈Ein st nl a↔(a,y)∈st∧y∈nl:=by
 unfold Ein
 rw [List.mem_filter,mem_behind,decide_eq_true_iff]
def subs:List Str→List (List Str)
 | []=>[[]]
 | x :: r=>subs r++(subs r).map (x :: ·)
def sixS:List Str:=["a","bb","left","right","x","zz"]
def unStr:D→Option Str
 | .str x=>some x
 | _=>none
def unStrs:List D→Option (List Str)
 | []=>some []
 | d :: l=>match unStr d,unStrs l with
  | some x,some xs=>some (x :: xs)
  | _,_=>none
def unTup:D→Option (List Str)
 | .tup l=>unStrs l
 | _=>none
def unTups:List D→Option (List (List Str))
 | []=>some []
 | d :: l=>match unTup d,unTups l with
  | some x,some xs=>some (x :: xs)
  | _,_=>none
def partsP (S:List Str):Option (List (List Str)):=match F_parts_of [some (.dat (.lst (S.map D.str)))] with
 | some (.ok (.own (.lst a)) [none])=>unTups a
 | _=>none
def partOk (S:List Str) (l:List Str):Bool:=l.all (fun x=>decide (x∈S)) && decide l.Nodup
def srtQ (S:List Str):Bool:=strictD (sortD (S.map D.str)) && decide (unStrs (sortD (S.map D.str))=some S)
def chkQ (S:List Str):Bool:=match partsP S with
 | some a=>a.all (partOk S) && (decide (a.length≤100) && (((subs S).all fun l=>l.isEmpty || decide (l∈a)) && ((a.all fun l=>!l.isEmpty) && (decide a.Nodup && (decide (4 < S.length) || decide (a.length≤15))))))
 | none=>false
structure UniP (U:List Str):Prop where
 nod:U.Nodup
 all:(subs U).all (fun S=>decide (5 < S.length) || (srtQ S && chkQ S))=true
theorem sixS_nodup:sixS.Nodup:=by decide +kernel
theorem six_perm:∀ x∈six,x∈sixS:=by decide +kernel
theorem six_uni:UniP sixS:=⟨sixS_nodup,by kernel_rfl⟩
structure UN (nl:List Str):Prop where
 nod:nl.Nodup
 few:nl.length≤5
 uni:∃ U,UniP U∧∀ x∈nl,x∈U
section
variable {nl:List Str}
theorem UN.sub (u:UN nl) {ml:List Str} (nd:ml.Nodup) (h:∀ x∈ml,x∈nl):UN ml:=⟨nd,Nat.le_trans (nodup_le nd h) u.few,by
 obtain ⟨U,hU,hx⟩:=u.uni
 exact ⟨U,hU,fun x m=>hx x (h x m)⟩⟩
end
def comm (tks:Tks) (q:Str×Str):Bool:=decide (comp (look tks q.1) (look tks q.2)=comp (look tks q.2) (look tks q.1))
@[simp] theorem mts_eq_10:mt_eq_T 10=some F_Talk___eq__:=rfl
section
variable {n:Nat} {tks:Tks} {sts:List (Str×Str)}
end
structure Bk (n:Nat) (T:Tks) (st:List (Str×Str)):Prop where
 n0:0 < n
 n5:n≤5
 ne:T≠[]
 few:T.length≤5
 nod:(nmsOf T).Nodup
 six:∀ x∈nmsOf T,x∈names14
 uni:∃ U,UniP U∧∀ x∈nmsOf T,x∈U
 len:∀ t∈T,t.2.length=n
 sq:∀ t∈T,∀ r∈t.2,r.length=n
 fewS:st.length≤50
 nodS:st.Nodup
 st_:∀ q∈st,q.1∈nmsOf T∧q.2∈nmsOf T
theorem Drawn3.bk {n:Nat} {tks:Tks} {sts sts':List (Str×Str)} (d:Drawn3 n tks sts) (pm:sts'.Perm sts):Bk n (tks.map nrm) sts':=by
 have nn:=nmsOf_nrm tks
 refine ⟨d.n0,d.n5,fun w=>d.ne (List.map_eq_nil_iff.mp w),by rw [List.length_map]; exact d.few,by rw [nn]; exact d.nod,by rw [nn]; exact fun x hx=>six_14 x (d.six x hx),by rw [nn]; exact ⟨sixS,six_uni,fun x hx=>six_perm x (d.six x hx)⟩,fun t ht=>?_,fun t ht r hr=>?_,by have:=pm.length_eq; have:=d.fewS; omega,pm.nodup_iff.mpr d.nodS,fun q hq=>by rw [nn]; exact d.st q (pm.subset hq)⟩
 ·obtain ⟨u,hu,rfl⟩:=List.mem_map.mp ht
  show (u.2.map norm).length=n
  rw [List.length_map,(d.rows u hu).1.many]
 ·obtain ⟨u,hu,rfl⟩:=List.mem_map.mp ht
  obtain ⟨q,hq,rfl⟩:=List.mem_map.mp hr
  exact (List.length_map ..).trans ((d.rows u hu).1.len q hq)
theorem names_bTps (T:Tks):namesOf (bTpsN T)=nmsOf T:=by
 show (bTpsN T).map (·.1)=T.map (·.1)
 unfold bTpsN
 rw [List.map_map]
 rfl
section
variable {n:Nat} {T:Tks} {st:List (Str×Str)}
theorem Bk.ok (b:Bk n T st):BookOk (bTpsN T) st:=by
 have:=b.few
 have:=b.fewS
 refine ⟨by unfold bTpsN; rw [List.length_map]; omega,by omega,fun x hx=>n14_ok.2 x (b.six x (by rwa [names_bTps] at hx)),fun q hq=>?_⟩
 rw [names_bTps]
 exact b.st_ q hq
theorem Bk.nameB (b:Bk n T st):∀ x∈nmsOf T,Sh.nameB x=true:=fun x hx=>(n14_low x (b.six x hx)).nameB
theorem Bk.short (b:Bk n T st):∀ x∈nmsOf T,shortS x=true:=fun x hx=>n14_ok.2 x (b.six x hx)
@[simp] theorem ev_cm (c:Nat) (F:DE) (fl:Ef (List RV)) (ρ:Sl):dCm c F fl ρ=bindE fl (fun rs=>gCallF F (.dat (.cls c) :: rs)) ρ:=rfl
@[simp] theorem mtc_with_step_11:mt_with_step_B 11=some F_Book_with_step:=rfl
end
section
variable {n:Nat} {tks:Tks} {sts:List (Str×Str)}
theorem Drawn3.hn (d:Drawn3 n tks sts):n∈[1,2,3,4,5]:=by
 have:=d.n0
 have:=d.n5
 simp only [List.mem_cons,List.not_mem_nil,or_false]
 omega
end
@[simp] theorem ev_dDl (vs:List Nat) (fi:Ef Wk) (tg:D→Sl→Option Sl) (fk:DE) (ρ:Sl):dDl vs fi tg fk ρ=bindE fi (fun w=>lockedE w.2 fun ρ=>loopDl vs tg (froze fk) w.1 [] (wipeR ρ vs)) ρ:=rfl
theorem lots_nodup:∀ n∈[1,2,3,4,5],(lotsL n).Nodup:=by decide +kernel
theorem dl_1 (x0:Option SV):loopDl [1] (tgN 1) (froze (dVar 1)) ((lotsL 1).map natsD) [] [x0,none,none,none,none]=some (.ok (.own (.dls .T ((lotsL 1).map fun l=>(natsD l,[])))) [x0,none,none,none,none]):=by kernel_rfl
theorem dl_2 (x0:Option SV):loopDl [1] (tgN 1) (froze (dVar 1)) ((lotsL 2).map natsD) [] [x0,none,none,none,none]=some (.ok (.own (.dls .T ((lotsL 2).map fun l=>(natsD l,[])))) [x0,none,none,none,none]):=by kernel_rfl
theorem dl_3 (x0:Option SV):loopDl [1] (tgN 1) (froze (dVar 1)) ((lotsL 3).map natsD) [] [x0,none,none,none,none]=some (.ok (.own (.dls .T ((lotsL 3).map fun l=>(natsD l,[])))) [x0,none,none,none,none]):=by kernel_rfl
theorem dl_4 (x0:Option SV):loopDl [1] (tgN 1) (froze (dVar 1)) ((lotsL 4).map natsD) [] [x0,none,none,none,none]=some (.ok (.own (.dls .T ((lotsL 4).map fun l=>(natsD l,[])))) [x0,none,none,none,none]):=by kernel_rfl
theorem dl_5 (x0:Option SV):loopDl [1] (tgN 1) (froze (dVar 1)) ((lotsL 5).map natsD) [] [x0,none,none,none,none]=some (.ok (.own (.dls .T ((lotsL 5).map fun l=>(natsD l,[])))) [x0,none,none,none,none]):=by kernel_rfl
theorem dl_all {n:Nat} (h:n∈[1,2,3,4,5]) (x0:Option SV):loopDl [1] (tgN 1) (froze (dVar 1)) ((lotsL n).map natsD) [] [x0,none,none,none,none]=some (.ok (.own (.dls .T ((lotsL n).map fun l=>(natsD l,[])))) [x0,none,none,none,none]):=by
 simp only [List.mem_cons,List.not_mem_nil,or_false] at h
 rcases h with rfl | rfl | rfl | rfl | rfl
 ·exact dl_1 x0
 ·exact dl_2 x0
 ·exact dl_3 x0
 ·exact dl_4 x0
 ·exact dl_5 x0
def closeN (T:Tks) (l:List Nat):List Str:=(T.filter fun t=>closesB t.2 l).map (·.1)
section
variable {n:Nat} {T:Tks} {st:List (Str×Str)}
theorem Bk.hn (b:Bk n T st):n∈[1,2,3,4,5]:=by
 have:=b.n0
 have:=b.n5
 simp only [List.mem_cons,List.not_mem_nil,or_false]
 omega
@[simp] theorem mtc_people_11:mt_people_B 11=some F_Book_people:=rfl
end
@[simp] theorem ev_dKeys (f:DE) (ρ:Sl):dKeys f ρ=bindE f (fun r ρ=>match dicD r ρ with
 | some (ks,_)=>some (.ok (ks,[]) ρ)
 | none=>none) ρ:=rfl
@[simp] theorem ev_dItms (f:DE) (ρ:Sl):dItms f ρ=bindE f (fun r ρ=>match dicD r ρ with
 | some (ks,vs)=>some (.ok (zipL ks vs,[]) ρ)
 | none=>none) ρ:=rfl
@[simp] theorem dicD_dat (k:KK) (ks vs:List D) (ρ:Sl):dicD (.dat (.dic k ks vs)) ρ=some (ks,vs):=rfl
def ltB (a b:List Nat):Bool:=HT.lexLt (a.map fun (j:Nat)=>(j:Int)) (b.map fun (j:Nat)=>(j:Int))
def apartB (a b:List Nat):Bool:=ltB a b && !meetB a b
abbrev AP:=List Nat×List Nat×List Str
def bothN (T:Tks) (a b:List Nat):List Str:=(closeN T a).filter fun x=>decide (x∈closeN T b)
def apRow (n:Nat) (T:Tks) (a:List Nat):List AP:=((lotsL n).filter (apartB a)).map fun b=>(a,b,bothN T a b)
def apL (n:Nat) (T:Tks):List AP:=(lotsL n).flatMap (apRow n T)
section
variable {n:Nat} {T:Tks} {st:List (Str×Str)}
theorem closeN_in {l:List Nat}:∀ x∈closeN T l,x∈nmsOf T:=fun x hx=>by
 obtain ⟨t,ht,rfl⟩:=List.mem_map.mp hx
 exact List.mem_map_of_mem (List.mem_filter.mp ht).1
end
def lastS (r:List Str):Str:=r.getLast?.getD Str.empty
def headS (r:List Str):Str:=r.head?.getD Str.empty
inductive Path (E:Str→List Str):List Str→Prop
 | one (x:Str):Path E [x]
 | more {r:List Str} (y:Str):Path E r→y∈E (lastS r)→Path E (r++[y])
theorem Path.ne {E:Str→List Str} {r:List Str} (h:Path E r):r≠[]:=by
 cases h with
 | one x=>simp
 | more y _ _=>simp
theorem Path.mono {E E':Str→List Str} (s:∀ a,∀ y∈E a,y∈E' a) {r:List Str} (h:Path E r):Path E' r:=by
 induction h with
 | one x=>exact .one x
 | more y _ hy ih=>exact .more y ih (s _ _ hy)
def isR (E:Str→List Str) (r:List Str):Bool:=decide (headS r∈E (lastS r))
def grow (E:Str→List Str) (rows:List (List Str)):List (List Str):=rows.flatMap fun row=>(E (lastS row)).map fun y=>row++[y]
section
variable {E:Str→List Str} {nl:List Str}
end
structure RowIn (nl r:List Str) (m:Nat):Prop where
 ne:r≠[]
 sub:∀ x∈r,x∈nl
 len:r.length≤m
section
variable {st:List (Str×Str)} {nl:List Str}
end
section
variable {n:Nat} {T:Tks} {st:List (Str×Str)}
end
@[simp] theorem ev_tgX (hs:List (D→Sl→Option Sl)) (d:D) (ρ:Sl):tgX hs d ρ=(match d with
 | .tup ds=>setX hs ds ρ
 | _=>none):=rfl
abbrev SP:=List Str×List Nat×List Nat
section
variable {n:Nat} {T:Tks} {st:List (Str×Str)}
theorem closeN_nodup (b:Bk n T st) (l:List Nat):(closeN T l).Nodup:=b.nod.sublist (List.Sublist.map _ List.filter_sublist)
theorem bothN_fine (b:Bk n T st) (p q:List Nat):(∀ x∈bothN T p q,x∈nmsOf T)∧(bothN T p q).Nodup∧(bothN T p q).length≤T.length:=by
 have nd:(bothN T p q).Nodup:=(closeN_nodup b p).sublist List.filter_sublist
 have sub:∀ x∈bothN T p q,x∈nmsOf T:=fun x hx=>closeN_in x (List.mem_filter.mp hx).1
 refine ⟨sub,nd,?_⟩
 have:=nodup_le nd sub
 rwa [List.length_map] at this
theorem apL_mem {p:AP}:p∈apL n T↔p.1∈lotsL n∧p.2.1∈lotsL n∧apartB p.1 p.2.1=true∧p.2.2=bothN T p.1 p.2.1:=by
 unfold apL apRow
 rw [List.mem_flatMap]
 constructor
 ·rintro ⟨a,ha,h⟩
  obtain ⟨c,hc,rfl⟩:=List.mem_map.mp h
  obtain ⟨h1,h2⟩:=List.mem_filter.mp hc
  exact ⟨ha,h1,h2,rfl⟩
 ·rintro ⟨h1,h2,h3,h4⟩
  refine ⟨p.1,h1,List.mem_map.mpr ⟨p.2.1,List.mem_filter.mpr ⟨h2,h3⟩,?_⟩⟩
  rw [← h4]
end
section
variable {n:Nat} {T:Tks} {st:List (Str×Str)}
end
section
variable {E E':Str→List Str} {U:List Str}
end
section
variable {n:Nat} {tks:Tks} {sts st:List (Str×Str)} {ps:List (List Str)}
end
@[simp] theorem mts_10:mt_str_T 10=some F_Talk___str__:=rfl
section
variable {T:Tks} {st:List (Str×Str)} {p:Nat}
theorem BText.sum (b:BText T st p):((lns T st).map (·.length)).sum+(lns T st).length * ("\n" : Str).length≤10000:=by
 have s:((lns T st).map (·.length)).sum≤T.length * 232+st.length * 30:=by
  unfold lns
  rw [List.map_append,List.sum_append,List.map_map,List.map_map]
  have s1:=sum_le (l:=T.map ((·.length) ∘ fun t=>tLine t.1 t.2)) (b:=232) (by
   intro x hx
   obtain ⟨t,ht,rfl⟩:=List.mem_map.mp hx
   exact tLine_short (b.talkLow ht) (b.dig t ht))
  have s2:=sum_le (l:=st.map ((·.length) ∘ fun q=>sLine q.1 q.2)) (b:=30) (by
   intro x hx
   obtain ⟨q,hq,rfl⟩:=List.mem_map.mp hx
   exact sLine_len (b.low _ (b.st q hq).1) (b.low _ (b.st q hq).2))
  rw [List.length_map] at s1 s2
  omega
 have:=b.few
 have:=b.fewS
 rw [nl_len,lns_len]
 omega
end
section
variable {n:Nat} {tks:Tks} {sts st:List (Str×Str)}
end
section
variable {n:Nat} {tks:Tks} {sts:List (Str×Str)}
end
section
variable {n:Nat} {tks:Tks} {sts:List (Str×Str)}
end
inductive ListAt:SV→List D→Prop
 | dat (l:List D):ListAt (.dat (.lst l)) l
 | own (l:List D):ListAt (.own (.lst l)) l
section
variable {n:Nat} {tks:Tks} {sts:List (Str×Str)} {nl:List Str}
end
section
variable {sts st:List (Str×Str)}
end
abbrev RK:=List (Str×Nat)
def keysR (L:RK):List Str:=L.map (·.1)
structure RInv (E:Str→List Str) (nl:List Str) (L:RK) (left:List Str) (m:Nat):Prop where
 nd:(keysR L).Nodup
 ndl:left.Nodup
 sub:∀ x∈left,x∈nl
 mem:∀ x∈nl,(x∈keysR L↔x∉left)
 key:∀ x∈keysR L,x∈nl
 low:∀ q∈L,q.2 < m
 fall:∀ q∈L,∀ y∈E q.1,∃ r∈L,r.1=y∧r.2 < q.2
section
variable {st:List (Str×Str)} {nl:List Str}
end
section
variable {n:Nat} {T:Tks} {st:List (Str×Str)} {nl:List Str}
abbrev EN4:=List Nat×List Nat×Str×Nat
end
section
variable {n:Nat} {T:Tks} {st:List (Str×Str)}
theorem apL_fine (b:Bk n T st) (t5:T.length≤5):∀ p∈apL n T,(∀ x∈p.2.2,x∈nmsOf T)∧p.2.2.Nodup∧p.2.2.length≤5:=fun p hp=>by
 obtain ⟨_,_,_,e⟩:=apL_mem.mp hp
 obtain ⟨a,c,d⟩:=bothN_fine b p.1 p.2.1
 rw [e]
 exact ⟨a,c,by omega⟩
end
abbrev KY:=List Nat×List Nat×Str
def keyE (e:EN4):KY:=(e.1,e.2.1,e.2.2.1)
def rkE (Es:List EN4) (k:KY):Nat:=((Es.find? fun e=>decide (keyE e=k)).map (·.2.2.2)).getD 0
theorem rkE_at {Es:List EN4} (nd:(Es.map keyE).Nodup) {e:EN4} (he:e∈Es):rkE Es (keyE e)=e.2.2.2:=by
 have:Es.find? (fun e'=>decide (keyE e'=keyE e))=some e:=by
  induction Es with
  | nil=>cases he
  | cons r Es ih =>
   have nd2:=List.nodup_cons.mp nd
   rw [List.find?_cons]
   rcases List.mem_cons.mp he with e1 | h'
   ·rw [e1]
    simp
   ·have ne:¬ keyE r=keyE e:=fun w=>by
     have m:keyE e∈Es.map keyE:=List.mem_map_of_mem h'
     rw [← w] at m
     exact nd2.1 m
    rw [decide_eq_false ne]
    exact ih nd2.2 h'
 unfold rkE
 rw [this]
 rfl
section
variable {n:Nat} {T:Tks} {st:List (Str×Str)} {Es:List EN4}
end
def toldL (n:Nat) (T:Tks):List KY:=(apL n T).flatMap fun p=>p.2.2.map fun x=>(p.1,p.2.1,x)
structure Right (n:Nat) (T:Tks) (st:List (Str×Str)) (Es:List EN4):Prop where
 key:∀ k∈toldL n T,k∈Es.map keyE
 nd:(Es.map keyE).Nodup
 len:Es.length=(toldL n T).length
 fall:∀ p∈apL n T,∀ x∈p.2.2,∀ y∈Ein st p.2.2 x,rkE Es (p.1,p.2.1,y) < rkE Es (p.1,p.2.1,x)
 sm:∀ e∈Es,e.1.length≤1000∧e.2.1.length≤1000
section
variable {n:Nat} {T:Tks} {st:List (Str×Str)} {Es:List EN4}
theorem told_mem {k:KY}:k∈toldL n T↔∃ p∈apL n T,k.1=p.1∧k.2.1=p.2.1∧k.2.2∈p.2.2:=by
 unfold toldL
 rw [List.mem_flatMap]
 constructor
 ·rintro ⟨p,hp,h⟩
  obtain ⟨x,hx,rfl⟩:=List.mem_map.mp h
  exact ⟨p,hp,rfl,rfl,hx⟩
 ·rintro ⟨p,hp,h1,h2,h3⟩
  exact ⟨p,hp,List.mem_map.mpr ⟨k.2.2,h3,by rw [← h1,← h2]⟩⟩
end
section
variable {n:Nat} {T:Tks} {st st':List (Str×Str)} {Es:List EN4}
theorem told_nodup (b:Bk n T st):(toldL n T).Nodup:=by
 have ap:(apL n T).Pairwise fun p q=>p.1≠q.1∨p.2.1≠q.2.1:=by
  unfold apL
  rw [List.pairwise_flatMap]
  refine ⟨fun a ha=>?_,?_⟩
  ·unfold apRow
   rw [List.pairwise_map]
   have nd:((lotsL n).filter (apartB a)).Nodup:=(lots_nodup n b.hn).sublist List.filter_sublist
   exact List.Pairwise.imp (fun h=>.inr h) nd
  ·refine List.Pairwise.imp (fun {a c} h x hx y hy=>.inl ?_) (lots_nodup n b.hn)
   unfold apRow at hx hy
   obtain ⟨_,_,rfl⟩:=List.mem_map.mp hx
   obtain ⟨_,_,rfl⟩:=List.mem_map.mp hy
   exact h
 unfold toldL List.Nodup
 rw [List.pairwise_flatMap]
 refine ⟨fun p hp=>?_,?_⟩
 ·rw [List.pairwise_map]
  exact List.Pairwise.imp (fun h e=>h (by injection e with _ e; injection e)) (apL_fine b b.few p hp).2.1
 ·refine List.Pairwise.imp (fun {p q} h x hx y hy e=>?_) ap
  obtain ⟨u,_,rfl⟩:=List.mem_map.mp hx
  obtain ⟨v,_,rfl⟩:=List.mem_map.mp hy
  injection e with e1 e2
  injection e2 with e2 _
  exact h.elim (fun h=>h e1) fun h=>h e2
theorem rk_mem {k:KY} (nd:(Es.map keyE).Nodup) (h:k∈Es.map keyE):∃ e∈Es,keyE e=k∧rkE Es k=e.2.2.2:=by
 obtain ⟨e,he,ek⟩:=List.mem_map.mp h
 exact ⟨e,he,ek,by rw [← ek]; exact rkE_at nd he⟩
def offT (x:Str) (T:Tks):Tks:=T.filter fun t=>!decide (t.1=x)
def offS (x:Str) (st:List (Str×Str)):List (Str×Str):=st.filter fun q=>!(decide (x=q.1) || decide (x=q.2))
def offE (x:Str) (Es:List EN4):List EN4:=Es.filter fun e=>!decide (e.2.2.1=x)
theorem closeN_off (x:Str) (l:List Nat):closeN (offT x T) l=(closeN T l).filter fun y=>!decide (y=x):=by
 unfold closeN offT
 rw [List.filter_map,List.filter_filter,List.filter_filter]
 congr 1
 refine List.filter_congr fun t _=>?_
 rw [Bool.and_comm]
 rfl
theorem bothN_off (x:Str) (p q:List Nat):bothN (offT x T) p q=(bothN T p q).filter fun y=>!decide (y=x):=by
 unfold bothN
 rw [closeN_off,closeN_off,List.filter_filter,List.filter_filter]
 refine List.filter_congr fun y _=>?_
 by_cases c:y=x
 ·simp [c]
 ·simp [c]
theorem apL_off (x:Str):apL n (offT x T)=(apL n T).map fun p=>(p.1,p.2.1,p.2.2.filter fun y=>!decide (y=x)):=by
 unfold apL
 rw [List.map_flatMap]
 congr 1
 funext a
 unfold apRow
 rw [List.map_map]
 refine List.map_congr_left fun q _=>?_
 show (a,q,bothN (offT x T) a q)=(a,q,(bothN T a q).filter fun y=>!decide (y=x))
 rw [bothN_off]
theorem told_off (x:Str):toldL n (offT x T)=(toldL n T).filter fun k=>!decide (k.2.2=x):=by
 unfold toldL
 rw [apL_off,List.flatMap_map,List.filter_flatMap]
 congr 1
 funext p
 rw [List.filter_map]
 rfl
theorem keys_off (x:Str):(offE x Es).map keyE=(Es.map keyE).filter fun k=>!decide (k.2.2=x):=by
 unfold offE
 rw [List.filter_map]
 rfl
theorem Right.perm (R:Right n T st Es) (b:Bk n T st):(Es.map keyE).Perm (toldL n T):=by
 have tn:=told_nodup b
 refine (List.perm_ext_iff_of_nodup R.nd tn).mpr fun k=>⟨fun hk=>?_,R.key k⟩
 refine Classical.byContradiction fun no=>?_
 have:=nodup_le (List.nodup_cons.mpr ⟨no,tn⟩) (m:=Es.map keyE) fun y hy=>by
  rcases List.mem_cons.mp hy with rfl | hy
  ·exact hk
  ·exact R.key y hy
 rw [List.length_cons,List.length_map,R.len] at this
 omega
theorem Right.off (R:Right n T st Es) (b:Bk n T st) (x:Str) (h:∀ q∈st',q∈st):Right n (offT x T) st' (offE x Es):=by
 have ko:=keys_off (Es:=Es) x
 have to:=told_off (n:=n) (T:=T) x
 have nd:((offE x Es).map keyE).Nodup:=by rw [ko]; exact R.nd.sublist List.filter_sublist
 have rk:∀ k∈(offE x Es).map keyE,rkE (offE x Es) k=rkE Es k:=fun k hk=>by
  obtain ⟨e,he,ek,er⟩:=rk_mem nd hk
  rw [er,← ek,rkE_at R.nd (List.mem_filter.mp he).1]
 have key:∀ k∈toldL n (offT x T),k∈(offE x Es).map keyE:=fun k hk=>by
  rw [to] at hk
  rw [ko]
  obtain ⟨h1,h2⟩:=List.mem_filter.mp hk
  exact List.mem_filter.mpr ⟨R.key k h1,h2⟩
 refine ⟨key,nd,?_,fun p hp u hu y hy=>?_,fun e he=>R.sm e (List.mem_filter.mp he).1⟩
 ·have e1:(offE x Es).length=((offE x Es).map keyE).length:=(List.length_map ..).symm
  rw [e1,ko,to]
  exact ((R.perm b).filter _).length_eq
 ·rw [rk (p.1,p.2.1,y) (key _ (told_mem.mpr ⟨p,hp,rfl,rfl,ein_in _ y hy⟩)),rk (p.1,p.2.1,u) (key _ (told_mem.mpr ⟨p,hp,rfl,rfl,hu⟩))]
  rw [apL_off] at hp
  obtain ⟨q,hq,rfl⟩:=List.mem_map.mp hp
  have hu':=(List.mem_filter.mp hu).1
  have hy':=mem_ein.mp hy
  exact R.fall q hq u hu' y (mem_ein.mpr ⟨h _ hy'.1,(List.mem_filter.mp hy'.2).1⟩)
theorem Bk.off (b:Bk n T st) {x:Str} (ne:offT x T≠[]) (pm:st'.Perm (offS x st)):Bk n (offT x T) st':=by
 have sub:∀ t∈offT x T,t∈T:=fun t ht=>(List.mem_filter.mp ht).1
 have nm:∀ y,y∈nmsOf (offT x T)↔y∈nmsOf T∧y≠x:=fun y=>by
  constructor
  ·intro h
   obtain ⟨t,ht,rfl⟩:=List.mem_map.mp h
   obtain ⟨h1,h2⟩:=List.mem_filter.mp ht
   rw [Bool.not_eq_true',decide_eq_false_iff_not] at h2
   exact ⟨List.mem_map_of_mem h1,h2⟩
  ·rintro ⟨h,e⟩
   obtain ⟨t,ht,rfl⟩:=List.mem_map.mp h
   exact List.mem_map_of_mem (List.mem_filter.mpr ⟨ht,by rw [Bool.not_eq_true',decide_eq_false_iff_not]; exact e⟩)
 have fl:(offT x T).length≤T.length:=List.length_filter_le _ _
 have fs:(offS x st).length≤st.length:=List.length_filter_le _ _
 refine ⟨b.n0,b.n5,ne,by have:=b.few; omega,b.nod.sublist (List.Sublist.map _ List.filter_sublist),fun y hy=>b.six y ((nm y).mp hy).1,by obtain ⟨U,hU,hx⟩:=b.uni; exact ⟨U,hU,fun y hy=>hx y ((nm y).mp hy).1⟩,fun t ht=>b.len t (sub t ht),fun t ht=>b.sq t (sub t ht),by rw [pm.length_eq]; have:=b.fewS; omega,pm.nodup_iff.mpr (b.nodS.sublist List.filter_sublist),fun q hq=>?_⟩
 obtain ⟨h1,h2⟩:=List.mem_filter.mp (pm.subset hq)
 rw [Bool.not_eq_true',Bool.or_eq_false_iff,decide_eq_false_iff_not,decide_eq_false_iff_not] at h2
 exact ⟨(nm _).mpr ⟨(b.st_ q h1).1,fun e=>h2.1 e.symm⟩,(nm _).mpr ⟨(b.st_ q h1).2,fun e=>h2.2 e.symm⟩⟩
end
section
variable {n:Nat} {T:Tks} {st:List (Str×Str)}
@[simp] theorem mtc_without_11:mt_without_B 11=some F_Book_without:=rfl
end
def nine:List Str:=["a","b","left","right","talk","behind","zzzzzz","ab","o"]
structure BNine (tks:Tks) (sts:List (Str×Str)) (p:Nat):Prop where
 ne:tks≠[]
 few:tks.length≤5
 nod:(nmsOf tks).Nodup
 nine_:∀ x∈nmsOf tks,x∈nine
 rows:∀ t∈tks,Drawn t.2 p 3
 fewS:sts.length≤25
 nodS:sts.Nodup
 st:∀ q∈sts,q.1∈nmsOf tks∧q.2∈nmsOf tks
structure LotD (n:Nat) (l:List Nat) (ld:D):Prop where
 isl:F_is_lot [some (.dat ld),some (.dat (.int (n:Int)))]=some (.ok (.dat (.bl true)) [none,none])
 mem:∀ k:Nat,dIn (.int (k:Int)) ld=some (decide (k∈l))
section
variable {n:Nat} {T:Tks} {st:List (Str×Str)}
@[simp] theorem mtf_firm_10:mt_firm_T 10=some F_Talk_firm:=rfl
end
structure Sq (b n:Nat) (R:List (List Int)):Prop where
 len:R.length=n
 row:∀ r∈R,r.length=n
 few:∀ r∈R,∀ z∈r,z.natAbs < 2 ^ b
theorem getD_mem {r:List Int} {i:Nat} (h:i < r.length):r.getD i 0∈r:=by
 rw [List.getD_eq_getElem?_getD,List.getElem?_eq_getElem h]
 exact List.getElem_mem h
inductive SeesD:SV→List D→Prop
 | lst (l:List D):SeesD (.dat (.lst l)) l
 | tup (l:List D):SeesD (.dat (.tup l)) l
abbrev Tab:=Nat→Nat→Int
def rsm:Nat→(Nat→Int)→Int
 | 0,_=>0
 | k+1,f=>rsm k f+f k
theorem rsm_shift (f:Nat→Int):∀ k,rsm (k+1) f=f 0+rsm k (fun j=>f (j+1))
 | 0=>by simp [rsm]
 | k+1=>by
  have ih:=rsm_shift f k
  show rsm (k+1) f+f (k+1)=f 0+(rsm k (fun j=>f (j+1))+f (k+1))
  omega
theorem rsm_le {f:Nat→Int}:∀ k,(∀ j,j < k→f j≤0)→rsm k f≤0∧(rsm k f=0→∀ j,j < k→f j=0)
 | 0,_=>⟨Int.le_refl _,fun _ j h=>absurd h (by omega)⟩
 | k+1,h=>by
  obtain ⟨h1,h2⟩:=rsm_le k fun j hj=>h j (by omega)
  have h3:=h k (by omega)
  refine ⟨by show rsm k f+f k≤0; omega,fun e j hj=>?_⟩
  have e:rsm k f+f k=0:=e
  by_cases c:j=k
  ·subst c; omega
  ·exact h2 (by omega) j (by omega)
structure MM (k:Nat) (a:Tab):Prop where
 off:∀ i j,i < k→j < k→i≠j→a i j≤0
 row:∀ i,i < k→0≤rsm k (a i)
inductive Ex (k:Nat) (a:Tab):Nat→Prop
 | out {i:Nat}:i < k→0 < rsm k (a i)→Ex k a i
 | step {i j:Nat}:i < k→j < k→i≠j→a i j < 0→Ex k a j→Ex k a i
theorem Ex.lt {k:Nat} {a:Tab} {i:Nat} (h:Ex k a i):i < k:=by cases h <;> assumption
section
variable {k:Nat} {a:Tab}
theorem MM.diag (h:MM (k+1) a):0≤a 0 0∧(a 0 0=0→∀ j,j < k+1→a 0 j=0):=by
 have r:=h.row 0 (by omega)
 rw [rsm_shift] at r
 obtain ⟨h1,h2⟩:=rsm_le (f:=fun j=>a 0 (j+1)) k fun j hj=>h.off 0 (j+1) (by omega) (by omega) (by omega)
 refine ⟨by omega,fun e j hj=>?_⟩
 match j with
 | 0=>exact e
 | j+1=>exact h2 (by omega) j (by omega)
end
abbrev wAt (R:List (List Int)) (p q:Nat):Int:=(R.getD p []).getD q 0
section
variable {m n i:Nat} {R:List (List Int)}
inductive Lead (n:Nat) (R:List (List Int)) (i:Nat):Nat→Prop
 | one {p:Nat}:p < n→p≠i→0 < wAt R p i→Lead n R i p
 | more {p q:Nat}:p < n→p≠i→0 < wAt R p q→Lead n R i q→Lead n R i p
theorem Lead.lt {p:Nat} (h:Lead n R i p):p < n∧p≠i:=by cases h <;> exact ⟨by assumption,by assumption⟩
inductive RchN (n:Nat) (R:List (List Int)) (p:Nat):Nat→Prop
 | self:RchN n R p p
 | more {q x:Nat}:RchN n R p q→q < n→x < n→0 < wAt R q x→RchN n R p x
noncomputable instance (p q:Nat):Decidable (RchN n R p q):=Classical.propDecidable _
end
structure Ends4 (m n:Nat) (R:List (List Int)):Prop where
 en:n=m+1
 n5:n≤5
 sq:Sq 200 n R
 sm:∀ r∈R,r.sum.natAbs < 2 ^ 200
 nn:∀ r∈R,∀ z∈r,0≤z
 pos:∀ i,i < n→0 < wAt R i i
section
variable {m n:Nat} {R:List (List Int)}
theorem Ends4.hn (e:Ends4 m n R):n∈[1,2,3,4,5]:=by
 have:=e.en
 have:=e.n5
 simp only [List.mem_cons,List.not_mem_nil,or_false]
 omega
theorem Ends4.mem (e:Ends4 m n R) {p:Nat} (hp:p < n):R.getD p []∈R:=by
 rw [List.getD_eq_getElem?_getD,List.getElem?_eq_getElem (by rw [e.sq.len]; exact hp)]
 exact List.getElem_mem _
theorem Ends4.row (e:Ends4 m n R):∀ p,p < n→(R.getD p []).length=n:=fun p hp=>e.sq.row _ (e.mem hp)
theorem Ends4.at (e:Ends4 m n R) (p q:Nat):0≤wAt R p q:=by
 by_cases hp:p < n
 ·have m1:=e.mem hp
  by_cases hq:q < (R.getD p []).length
  ·exact e.nn _ m1 _ (getD_mem hq)
  ·unfold wAt
   rw [List.getD_eq_getElem?_getD (l:=R.getD p []),List.getElem?_eq_none (by omega)]
   exact Int.le_refl _
 ·unfold wAt
  rw [List.getD_eq_getElem?_getD (l:=R),List.getElem?_eq_none (by rw [e.sq.len]; omega)]
  exact Int.le_refl _
end
def rsq:Nat→(Nat→Rat)→Rat
 | 0,_=>0
 | k+1,f=>rsq k f+f k
theorem rsq_congr {f g:Nat→Rat}:∀ k,(∀ j,j < k→f j=g j)→rsq k f=rsq k g
 | 0,_=>rfl
 | k+1,h=>by
  show rsq k f+f k=rsq k g+g k
  rw [rsq_congr k fun j hj=>h j (by omega),h k (by omega)]
theorem rsq_add (f g:Nat→Rat):∀ k,rsq k (fun j=>f j+g j)=rsq k f+rsq k g
 | 0=>by show (0:Rat)=0+0; grind
 | k+1=>by
  have ih:=rsq_add f g k
  show rsq k (fun j=>f j+g j)+(f k+g k)=rsq k f+f k+(rsq k g+g k)
  rw [ih]
  grind
theorem rsq_sub (f g:Nat→Rat):∀ k,rsq k (fun j=>f j - g j)=rsq k f - rsq k g
 | 0=>by show (0:Rat)=0 - 0; grind
 | k+1=>by
  have ih:=rsq_sub f g k
  show rsq k (fun j=>f j - g j)+(f k - g k)=rsq k f+f k - (rsq k g+g k)
  rw [ih]
  grind
theorem rsq_mul (c:Rat) (f:Nat→Rat):∀ k,rsq k (fun j=>c * f j)=c * rsq k f
 | 0=>by simp [rsq]
 | k+1=>by
  have ih:=rsq_mul c f k
  show rsq k (fun j=>c * f j)+c * f k=c * (rsq k f+f k)
  rw [ih]
  grind
abbrev Mat:=Nat→Nat→Rat
structure Stoch (n:Nat) (P:Mat):Prop where
 nn:∀ i j,i < n→j < n→0≤P i j
 one:∀ i,i < n→rsq n (P i)=1
def KeptF (n:Nat) (P:Mat) (x:Nat→Rat):Prop:=∀ j,j < n→rsq n (fun i=>x i * P i j)=x j
theorem KeptF.neg {n:Nat} {P:Mat} {x:Nat→Rat} (k:KeptF n P x):KeptF n P (fun i=>-x i):=fun j hj=>by
 have e:=rsq_mul (-1) (fun i=>x i * P i j) n
 rw [k j hj] at e
 have e2:rsq n (fun i=>-x i * P i j)=rsq n (fun i=>-1 * (x i * P i j)):=rsq_congr n fun i _=>by grind
 rw [e2,e]
 grind
theorem KeptF.sub {n:Nat} {P:Mat} {x y:Nat→Rat} (k:KeptF n P x) (k2:KeptF n P y):KeptF n P (fun i=>x i - y i):=fun j hj=>by
 have e:rsq n (fun i=>(x i - y i) * P i j)=rsq n (fun i=>x i * P i j - y i * P i j):=rsq_congr n fun i _=>by grind
 rw [e,rsq_sub,k j hj,k2 j hj]
theorem KeptF.scale {n:Nat} {P:Mat} {x:Nat→Rat} (c:Rat) (k:KeptF n P x):KeptF n P (fun i=>c * x i):=fun j hj=>by
 have e:rsq n (fun i=>c * x i * P i j)=rsq n (fun i=>c * (x i * P i j)):=rsq_congr n fun i _=>by grind
 rw [e,rsq_mul,k j hj]
section
variable {m n:Nat} {R:List (List Int)}
end
section
variable {m n:Nat} {R:List (List Int)}
end
section
variable {m n:Nat} {R:List (List Int)}
end
section
variable {n:Nat} {T:Tks} {st:List (Str×Str)}
theorem Bk.cl (b:Bk n T st) {t:Str×List (List Int)} (ht:t∈T):closedL t.2=(lotsL n).filter (closesB t.2):=by
 unfold closedL
 rw [b.len t ht]
end
section
variable {n:Nat} {T:Tks} {st:List (Str×Str)}
end
end Sh
namespace Sh
open PySem PySem.Spec PyProof.Rows L2 Tk Pl Ns
section
variable {n:Nat} {T:Tks} {st:List (Str×Str)}
end
section
variable {m n:Nat} {R:List (List Int)}
end
section
variable {n:Nat} {tks:Tks} {sts st:List (Str×Str)}
end
end Sh
namespace Sh
open PySem PySem.Spec PyProof.Rows L2 Tk Pl
def fiveS:List Str:=["a","left","right","talks","up"]
theorem five_uni:UniP fiveS:=⟨by decide +kernel,by kernel_rfl⟩
theorem five_in:∀ x∈five,x∈fiveS∧x∈names14:=by decide +kernel
section
variable {n:Nat} {tks:Tks} {sts st:List (Str×Str)}
theorem BFive.bk (f:BFive tks sts n) (n0:0 < n) (n5:n≤5) (pm:st.Perm sts):Bk n (tks.map nrm) st:=by
 have nn:=nmsOf_nrm tks
 refine ⟨n0,n5,fun w=>f.ne (List.map_eq_nil_iff.mp w),by rw [List.length_map]; exact f.few,by rw [nn]; exact f.nod,by rw [nn]; exact fun x hx=>(five_in x (f.five_ x hx)).2,by rw [nn]; exact ⟨fiveS,five_uni,fun x hx=>(five_in x (f.five_ x hx)).1⟩,fun t ht=>?_,fun t ht r hr=>?_,by have:=pm.length_eq; have:=f.fewS; omega,pm.nodup_iff.mpr f.nodS,fun q hq=>by rw [nn]; exact f.st q (pm.subset hq)⟩
 ·obtain ⟨u,hu,rfl⟩:=List.mem_map.mp ht
  show (u.2.map norm).length=n
  rw [List.length_map,(f.rows u hu).many]
 ·obtain ⟨u,hu,rfl⟩:=List.mem_map.mp ht
  obtain ⟨q,hq,rfl⟩:=List.mem_map.mp hr
  exact (List.length_map ..).trans ((f.rows u hu).len q hq)
end
section
variable {n:Nat} {T:Tks} {st:List (Str×Str)} {nl:List Str}
end
section
variable {n:Nat} {tks:Tks} {sts st:List (Str×Str)}
end
section
variable {n:Nat} {tks:Tks} {sts st:List (Str×Str)}
end
def Bn (k:Nat) (r:Rat):Prop:=r.num.natAbs < 2 ^ k∧r.den < 2 ^ k
theorem pick_sees (a b c:Int) {s:SV} {l:List D} (hs:Sees s l) (h0:0 < l.length) (h1:l.length≤10000):∃ x a' b' c',x∈l∧F__law_pick [bx a b c,some s]=some (.ok (.dat x) [bx a' b' c',none]):=by
 obtain ⟨d,a',b',c',d1,e⟩:=take_nat a b c l.length (by omega) (by omega)
 have hl:d < l.length:=by omega
 refine ⟨l[d],a',b',c',List.getElem_mem hl,?_⟩
 have at1:atI l (d:Int)=some l[d]:=atI_nat (List.getElem?_eq_getElem hl)
 unfold bx at e ⊢
 cases hs <;> simp [F__law_pick,g__law_pick,e,at1]
@[simp] theorem mtz_names_11:mt_names_B 11=some F_Book_names:=rfl
@[simp] theorem mtz_behind_11:mt_behind_B 11=some F_Book_behind:=rfl
section
variable {n:Nat} {tks:Tks} {sts st:List (Str×Str)}
theorem nodup_len:∀ {l l':List Str},l.Nodup→(∀ x∈l,x∈l')→l.length≤l'.length
 | [],_,_,_=>Nat.zero_le _
 | x :: l,l',nd,h=>by
  have nd2:=List.nodup_cons.mp nd
  have hx:=h x List.mem_cons_self
  have ih:=nodup_len (l':=l'.erase x) nd2.2 fun y hy=>(List.mem_erase_of_ne (fun e=>nd2.1 (by rw [← e]; exact hy))).mpr (h y (List.mem_cons_of_mem _ hy))
  rw [List.length_erase_of_mem hx] at ih
  have:=List.length_pos_of_mem hx
  rw [List.length_cons]
  omega
structure RingN (tks:Tks) (st:List (Str×Str)) (f:List Str):Prop where
 rg:Ring (nmsOf tks) st f
 nod:f.Nodup
 nms:∀ x∈f,x∈nmsOf tks
theorem RingN.few {f:List Str} (r:RingN tks st f):f.length≤tks.length:=by
 have:=nodup_len r.nod r.nms
 rwa [List.length_map] at this
end
def nineS:List Str:=["a","ab","b","behind","left","o","right","talk","zzzzzz"]
def okN (S:List Str):Bool:=decide (4 < S.length) || (srtQ S && chkQ S)
theorem nine_1:((subs nineS).take 130).all okN=true:=by kernel_rfl
theorem nine_2:(((subs nineS).drop 130).take 130).all okN=true:=by kernel_rfl
theorem nine_3:((((subs nineS).drop 130).drop 130).take 130).all okN=true:=by kernel_rfl
theorem nine_4:((((subs nineS).drop 130).drop 130).drop 130).all okN=true:=by kernel_rfl
theorem all_cut {α:Type} {f:α→Bool} {l:List α} (k:Nat) (h1:(l.take k).all f=true) (h2:(l.drop k).all f=true):l.all f=true:=by
 rw [← List.take_append_drop k l,List.all_append,h1,h2]
 rfl
theorem nine_all:(subs nineS).all okN=true:=all_cut 130 nine_1 (all_cut 130 nine_2 (all_cut 130 nine_3 nine_4))
theorem subs_iff {S:List Str}:∀ {l:List Str},S∈subs l↔S.Sublist l
 | []=>by
  unfold subs
  rw [List.mem_singleton,List.sublist_nil]
 | x :: r=>by
  have ih:=fun {S:List Str}=>subs_iff (S:=S) (l:=r)
  unfold subs
  rw [List.mem_append,List.mem_map,List.sublist_cons_iff]
  constructor
  ·rintro (h | ⟨S',h,rfl⟩)
   ·exact .inl (ih.mp h)
   ·exact .inr ⟨S',rfl,ih.mp h⟩
  ·rintro (h | ⟨S',rfl,h⟩)
   ·exact .inl (ih.mpr h)
   ·exact .inr ⟨S',ih.mpr h,rfl⟩
theorem nine_part {U:List Str} (h:U.Sublist nineS) (h4:U.length≤4):UniP U:=by
 refine ⟨h.nodup (by decide +kernel),List.all_eq_true.mpr fun S hS=>?_⟩
 have sl:=subs_iff.mp hS
 have c:=List.all_eq_true.mp nine_all S (subs_iff.mpr (sl.trans h))
 unfold okN at c
 rw [Bool.or_eq_true,decide_eq_true_iff] at c ⊢
 rcases c with c | c
 ·have:=sl.length_le
  omega
 ·exact .inr c
theorem nine_univ {N:List Str} (nd:N.Nodup) (h:∀ x∈N,x∈nineS) (h4:N.length≤4):∃ U,UniP U∧∀ x∈N,x∈U:=by
 refine ⟨nineS.filter fun x=>decide (x∈N),nine_part List.filter_sublist ?_,fun x hx=>List.mem_filter.mpr ⟨h x hx,decide_eq_true hx⟩⟩
 refine Nat.le_trans (nodup_len (List.filter_sublist.nodup (by decide +kernel)) fun x hx=>of_decide_eq_true (List.mem_filter.mp hx).2) h4
theorem nine_in:∀ x∈nine,x∈nineS∧x∈names14:=by decide +kernel
theorem BNine.bk {n:Nat} {tks:Tks} {sts st:List (Str×Str)} (f:BNine tks sts n) (t4:tks.length≤4) (n0:0 < n) (n5:n≤5) (pm:st.Perm sts):Bk n (tks.map nrm) st:=by
 have nn:=nmsOf_nrm tks
 refine ⟨n0,n5,fun w=>f.ne (List.map_eq_nil_iff.mp w),by rw [List.length_map]; exact f.few,by rw [nn]; exact f.nod,by rw [nn]; exact fun x hx=>(nine_in x (f.nine_ x hx)).2,by rw [nn]; exact nine_univ f.nod (fun x hx=>(nine_in x (f.nine_ x hx)).1) (by rw [List.length_map]; exact t4),fun t ht=>?_,fun t ht r hr=>?_,by have:=pm.length_eq; have:=f.fewS; omega,pm.nodup_iff.mpr f.nodS,fun q hq=>by rw [nn]; exact f.st q (pm.subset hq)⟩
 ·obtain ⟨u,hu,rfl⟩:=List.mem_map.mp ht
  show (u.2.map norm).length=n
  rw [List.length_map,(f.rows u hu).many]
 ·obtain ⟨u,hu,rfl⟩:=List.mem_map.mp ht
  obtain ⟨q,hq,rfl⟩:=List.mem_map.mp hr
  exact (List.length_map ..).trans ((f.rows u hu).len q hq)
theorem law_value4_ok (a b c:Int):∃ (d:D) (a' b' c':Int),Dv d∧F__law_value_v2 [bx a b c]=some (.ok (.dat d) [bx a' b' c']):=by
 obtain ⟨n,a1,b1,c1,hn,e1⟩:=take_nat a b c 21 (by decide) (by decide)
 obtain ⟨n2,a0,b0,c0,hn2,e0⟩:=take_nat a1 b1 c1 2001 (by decide) (by decide)
 obtain ⟨x,a2,b2,c2,hx,e2⟩:=pick_ok a0 b0 c0 [.int ((n:Int) - 10),.int 0,.int 7,.int ((n2:Int) - 1000)] (by simp) (by simp)
 obtain ⟨u,rfl,u0,u1⟩:∃ u,x=.int u∧-1000000≤u∧u≤(1000000:Int):=by
  simp only [List.mem_cons,List.not_mem_nil,or_false] at hx
  rcases hx with rfl | rfl | rfl | rfl <;> exact ⟨_,rfl,by omega,by omega⟩
 obtain ⟨k,a3,b3,c3,hk,e3⟩:=take_nat a2 b2 c2 2 (by decide) (by decide)
 obtain ⟨l,a4,b4,c4,hl,e4⟩:=take_nat a3 b3 c3 12 (by decide) (by decide)
 unfold bx at *
 by_cases hk0:k=0
 ·subst hk0
  refine ⟨.int u,a3,b3,c3,.int u u0 u1,?_⟩
  simp [F__law_value_v2,g__law_value_v2,e1,e0,e2,e3]
 ·refine ⟨.tup [.int u,.int ((1+l:Nat):Int)],a4,b4,c4,.pair u (1+l) u0 u1 (by omega) (by omega),?_⟩
  have el:(((1+l:Nat)):Int)=1+(l:Int):=by omega
  rw [el]
  simp [F__law_value_v2,g__law_value_v2,e1,e0,e2,e3,e4,hk0]
def wordsA:List D:=[.str "",.str "a",.str "left",.str "talk",.str "behind",.str "1 1",.str "1",.str "1 0, 1 1",.str "7 8",.str "abcdefg",.str "A",.str "\n"]
def plainA:List D:=[.non,.bl true,.bl false,.int 0,.int 1,.int 2,.int (-1),.int 999999999,.lst [.int 1],.tup [.int 1,.int 2],.tup [.int 1,.int 0],.lst [.int 1,.int 1]]
def AnyA (d:D):Prop:=AnyV d∧∀ z,d=.int z→z=0∨z=1∨z=2∨z=-1∨z=999999999
theorem anyA_int {z:Int} (h:z=0∨z=1∨z=2∨z=-1∨z=999999999):AnyA (.int z):=⟨.int z (by omega) (by omega),fun y e=>by cases e; exact h⟩
theorem anyA_words:∀ d∈wordsA,AnyA d:=fun d hd=>by
 have:∃ s,d=.str s:=by
  simp only [wordsA,List.mem_cons,List.not_mem_nil,or_false] at hd
  rcases hd with rfl | rfl | rfl | rfl | rfl | rfl | rfl | rfl | rfl | rfl | rfl | rfl <;> exact ⟨_,rfl⟩
 obtain ⟨s,rfl⟩:=this
 exact ⟨.str s,fun z e=>by cases e⟩
theorem anyV_ints {l:List Int} (h:∀ z∈l,-1000≤z∧z≤1000):∀ e∈l.map D.int,AnyV e:=fun e he=>by
 obtain ⟨z,hz,rfl⟩:=List.mem_map.mp he
 obtain ⟨a,b⟩:=h z hz
 exact .int z (by omega) (by omega)
theorem anyV_lst {l:List Int} (hl:l.length≤10) (h:∀ z∈l,-1000≤z∧z≤1000):AnyV (.lst (l.map D.int)):=.lst _ (by rw [List.length_map]; exact hl) (anyV_ints h)
theorem anyV_two (p q:Int) (hp:-1000≤p∧p≤1000) (hq:q≤12∧-1000≤q):AnyV (.tup [.int p,.int q]):=.tup _ (by simp) (fun e he=>by
  simp only [List.mem_cons,List.not_mem_nil,or_false] at he
  rcases he with rfl | rfl
  ·exact .int _ (by omega) (by omega)
  ·exact .int _ (by omega) (by omega)) fun p' q' e q1=>by
 injection e with e1 e2
 injection e2 with e2 _
 injection e2 with e2
 subst e2
 obtain ⟨k,rfl⟩:=Int.eq_ofNat_of_zero_le (show 0≤q by omega)
 rw [Int.natAbs_natCast]
 exact Nat.dvd_trans (dvd12 (by omega) (by omega)) (Nat.dvd_mul_right _ _)
theorem anyA_plain:∀ d∈plainA,AnyA d:=fun d hd=>by
 simp only [plainA,List.mem_cons,List.not_mem_nil,or_false] at hd
 rcases hd with rfl | rfl | rfl | rfl | rfl | rfl | rfl | rfl | rfl | rfl | rfl | rfl
 ·exact ⟨.non,fun z e=>by cases e⟩
 ·exact ⟨.bl _,fun z e=>by cases e⟩
 ·exact ⟨.bl _,fun z e=>by cases e⟩
 ·exact anyA_int (by omega)
 ·exact anyA_int (by omega)
 ·exact anyA_int (by omega)
 ·exact anyA_int (by omega)
 ·exact anyA_int (by omega)
 ·exact ⟨anyV_lst (l:=[1]) (by simp) (by simp),fun z e=>by cases e⟩
 ·exact ⟨anyV_two 1 2 (by omega) (by omega),fun z e=>by cases e⟩
 ·exact ⟨anyV_two 1 0 (by omega) (by omega),fun z e=>by cases e⟩
 ·exact ⟨anyV_lst (l:=[1,1]) (by simp) (by simp),fun z e=>by cases e⟩
theorem anyA_tup {l:List D} (hl:l.length≤10) (h:∀ e∈l,AnyA e):AnyA (.tup l):=⟨.tup l hl (fun e he=>(h e he).1) fun p q e q1=>by
  have:=(h (.int q) (by rw [e]; simp)).2 q rfl
  rcases this with rfl | rfl | rfl | rfl | rfl
  ·omega
  ·exact ⟨_,(Nat.one_mul _).symm⟩
  ·exact ⟨13860 * 999999999,by decide⟩
  ·omega
  ·exact ⟨27720,by decide⟩,fun z e=>by cases e⟩
theorem anyA_lst {l:List D} (hl:l.length≤10) (h:∀ e∈l,AnyA e):AnyA (.lst l):=⟨.lst l hl fun e he=>(h e he).1,fun z e=>by cases e⟩
def RetD (r:RV) (v:D):Prop:=r=.dat v∨∃ l,v=.lst l∧r=.own (.lst l)
theorem any_okA:∀ (d j:Nat) (a b c:Int),j < d→j≤6→∃ (v:D) (r:RV) (a' b' c':Int),AnyA v∧RetD r v∧deepF S__law_any_v2 d [bx a b c,some (.dat (.int (j:Int)))]=some (.ok r [bx a' b' c',none])
 | 0,j,a,b,c,h,_=>absurd h (by omega)
 | d+1,j,a,b,c,h,h6=>by
  obtain ⟨t,a1,b1,c1,t14,e1⟩:=take_nat a b c 14 (by decide) (by decide)
  by_cases go:t < 4∧0 < j
  ·obtain ⟨t4,j0⟩:=go
   have t4I:(t:Int) < 4:=by omega
   have j0I:(0:Int) < (j:Int):=by omega
   obtain ⟨m,a2,b2,c2,m3,e2⟩:=take_nat a1 b1 c1 3 (by decide) (by decide)
   have jm:((j - 1:Nat):Int)=(j:Int) - 1:=by omega
   obtain ⟨acc,ρ',⟨a3,b3,c3,rfl,al,ao⟩,lp⟩:=loopC_at (vs:=[6]) (tg:=tgN 6) (ft:=yesT) (fe:=froze (dFn (deepF S__law_any_v2 d) (dCons (dVar 0) (dCons (dBin gSub (dVar 1) (retE (.dat (.int 1)))) (dNil))))) (rangeL 0 m)
    (fun i acc ρ=>∃ a b c:Int,ρ=[bx a b c,some (.dat (.int (j:Int))),some (.dat (.int (t:Int))),none,none,none,none]∧acc.length=i∧∀ e∈acc,AnyA e) (by
    rintro i dd acc ρ hd ⟨a,b,c,rfl,hl,ho⟩
    obtain ⟨v,r,a',b',c',hv,hr,e⟩:=any_okA d (j - 1) a b c (by omega) (by omega)
    rw [jm] at e
    obtain ⟨hi,rfl⟩:=range_nth hd
    refine ⟨_,_,rfl,.inl ⟨rfl,v,[bx a' b' c',some (.dat (.int (j:Int))),some (.dat (.int (t:Int))),none,none,none,some (.dat (.int (i:Int)))],?_,by omega,a',b',c',rfl,by simp [hl],fun x hx=>?_⟩⟩
    ·generalize deepF S__law_any_v2 d=R at *
     unfold bx at e ⊢
     rcases hr with rfl | ⟨l,rfl,rfl⟩
     ·simp [e]
     ·simp [e]
    ·rcases List.mem_append.mp hx with hx | hx
     ·exact ho x hx
     ·rw [List.mem_singleton.mp hx]
      exact hv) (ρ:=[bx a2 b2 c2,some (.dat (.int (j:Int))),some (.dat (.int (t:Int))),none,none,none,none]) ⟨a2,b2,c2,rfl,rfl,fun e h=>by cases h⟩
   rw [rangeL_length] at al
   have mI:m≤100000:=by omega
   have aI:acc.length≤100000:=by omega
   by_cases u0:t < 2
   ·have u0I:(t:Int) < 2:=by omega
    refine ⟨.lst acc,.own (.lst acc),a3,b3,c3,anyA_lst (by omega) ao,.inr ⟨acc,rfl,rfl⟩,?_⟩
    unfold deepF
    unfold bx at e1 e2 lp
    generalize deepF S__law_any_v2 d=R at *
    unfold bx
    simp [S__law_any_v2,g__law_any_v2,e1,j0,j0I,t4,t4I,e2,lp,u0,u0I,mI]
   ·have u0I:¬ (t:Int) < 2:=by omega
    refine ⟨.tup acc,.dat (.tup acc),a3,b3,c3,anyA_tup (by omega) ao,.inl rfl,?_⟩
    unfold deepF
    unfold bx at e1 e2 lp
    generalize deepF S__law_any_v2 d=R at *
    unfold bx
    simp [S__law_any_v2,g__law_any_v2,e1,j0,j0I,t4,t4I,e2,lp,u0,u0I,mI,aI]
  ·have pw:∀ a b c:Int,∃ x a' b' c',x∈wordsA∧F__law_pick [bx a b c,some (.lck (.lst wordsA))]=some (.ok (.dat x) [bx a' b' c',none]):=fun a b c=>pick_sees a b c (.lck _) (by decide) (by decide)
   have pp:∀ a b c:Int,∃ x a' b' c',x∈plainA∧F__law_pick [bx a b c,some (.lck (.lst plainA))]=some (.ok (.dat x) [bx a' b' c',none]):=fun a b c=>pick_sees a b c (.lck _) (by decide) (by decide)
   have pw10:cPow 10 9=true:=by decide
   by_cases t9:t < 9
   ·have t9I:(t:Int) < 9:=by omega
    obtain ⟨x,a2,b2,c2,hx,e⟩:=pw a1 b1 c1
    refine ⟨x,.dat x,a2,b2,c2,anyA_words x hx,.inl rfl,?_⟩
    unfold deepF
    unfold bx wordsA at e
    unfold bx at e1
    generalize deepF S__law_any_v2 d=R
    unfold bx
    by_cases t4:t < 4
    ·have j0:¬ 0 < j:=fun h=>go ⟨t4,h⟩
     obtain rfl:j=0:=by omega
     have t4I:(t:Int) < 4:=by omega
     simp [S__law_any_v2,g__law_any_v2,e1,e,t9,t9I,t4,t4I,pw10]
    ·have t4I:¬ (t:Int) < 4:=by omega
     simp [S__law_any_v2,g__law_any_v2,e1,e,t9,t9I,t4,t4I,pw10]
   ·have t9I:¬ (t:Int) < 9:=by omega
    have t4:¬ t < 4:=by omega
    have t4I:¬ (t:Int) < 4:=by omega
    obtain ⟨x,a2,b2,c2,hx,e⟩:=pp a1 b1 c1
    refine ⟨x,.dat x,a2,b2,c2,anyA_plain x hx,.inl rfl,?_⟩
    unfold deepF
    unfold bx plainA at e
    unfold bx at e1
    generalize deepF S__law_any_v2 d=R
    unfold bx
    simp [S__law_any_v2,g__law_any_v2,e1,e,t9,t9I,t4,t4I,pw10]
theorem any5 (a b c:Int) (j:Nat) (hj:j≤4):∃ (v:D) (r:RV) (a' b' c':Int),AnyA v∧RetD r v∧F__law_any_v2 [bx a b c,some (.dat (.int (j:Int)))]=some (.ok r [bx a' b' c',none]):=any_okA 5 j a b c (by omega) (by omega)
def SlotD (s:Option SV) (v:D):Prop:=s=some (.dat v)∨∃ l,v=.lst l∧s=some (.own (.lst l))
theorem deep_turn (a b c:Int) {s:Option SV} {v:D} (hs:SlotD s v) (hv:AnyV v) (x2:Option SV):∃ (s':Option SV) (v':D) (a' b' c':Int),SlotD s' v'∧AnyV v'∧b__law_deep_1 [bx a b c,s,x2]=some (.nx [bx a' b' c',s',x2]):=by
 obtain ⟨t,a1,b1,c1,t2,e1⟩:=take_nat a b c 2 (by decide) (by decide)
 by_cases t0:t=0
 ·subst t0
  refine ⟨some (.own (.lst [v])),.lst [v],a1,b1,c1,.inr ⟨[v],rfl,rfl⟩,.lst _ (by simp) (fun e he=>by rw [List.mem_singleton.mp he]; exact hv),?_⟩
  unfold bx at e1 ⊢
  rcases hs with rfl | ⟨l,rfl,rfl⟩
  ·simp [b__law_deep_1,e1]
  ·simp [b__law_deep_1,e1]
 ·refine ⟨some (.dat (.tup [v])),.tup [v],a1,b1,c1,.inl rfl,.tup _ (by simp) (fun e he=>by rw [List.mem_singleton.mp he]; exact hv) (fun p q e=>by cases e),?_⟩
  unfold bx at e1 ⊢
  rcases hs with rfl | ⟨l,rfl,rfl⟩
  ·simp [b__law_deep_1,e1,t0]
  ·simp [b__law_deep_1,e1,t0]
theorem deep5 (a b c:Int):∃ (v:D) (r:RV) (a' b' c':Int),AnyV v∧RetD r v∧F__law_deep [bx a b c]=some (.ok r [bx a' b' c']):=by
 obtain ⟨v,r,a1,b1,c1,hv,hr,e1⟩:=any5 a b c 0 (by omega)
 have e1:F__law_any_v2 [bx a b c,some (.dat (.int 0))]=some (.ok r [bx a1 b1 c1,none]):=e1
 -- the leaf
 obtain ⟨s,w,hs,hw,e2⟩:∃ (s:Option SV) (w:D),SlotD s w∧AnyV w∧seqS (sSet 1 1 (dFn F__law_any_v2 (dCons (dVar 0) (dCons (retE (.dat (.int 0))) (dNil))))) (sSet 1 1 (dIfE (asB (dIsi2 "list" "tuple" (dVar 1))) (retE (.dat (.int 0))) (dVar 1))) [bx a b c,none,none]=some (.nx [bx a1 b1 c1,s,none]):=by
  unfold bx at e1 ⊢
  rcases hr with rfl | ⟨l,rfl,rfl⟩
  ·cases hv.1 with
   | lst l _ _=>exact ⟨_,.int 0,.inl rfl,.int 0 (by omega) (by omega),by simp [e1,isKind]⟩
   | tup l _ _ _=>exact ⟨_,.int 0,.inl rfl,.int 0 (by omega) (by omega),by simp [e1,isKind]⟩
   | non=>exact ⟨_,.non,.inl rfl,.non,by simp [e1,isKind]⟩
   | bl q=>exact ⟨_,.bl q,.inl rfl,.bl q,by simp [e1,isKind]⟩
   | str q=>exact ⟨_,.str q,.inl rfl,.str q,by simp [e1,isKind]⟩
   | int q h1 h2=>exact ⟨_,.int q,.inl rfl,.int q h1 h2,by simp [e1,isKind]⟩
  ·exact ⟨_,.int 0,.inl rfl,.int 0 (by omega) (by omega),by simp [e1,isKind]⟩
 obtain ⟨ρ',⟨s',v',z2,a2,b2,c2,hs',hv',rfl⟩,lp⟩:=loopS_at (tg:=tgN 2) (body:=b__law_deep_1) (rangeL 0 7) (fun _ ρ=>∃ (s:Option SV) (v:D) (z2:Option SV) (a b c:Int),SlotD s v∧AnyV v∧ρ=[bx a b c,s,z2]) (by
  rintro i d ρ hd ⟨s,v,z2,a,b,c,hs,hv,rfl⟩
  obtain ⟨hi,rfl⟩:=range_nth hd
  obtain ⟨s',v',a',b',c',hs',hv',e⟩:=deep_turn a b c hs hv (some (.dat (.int (i:Int))))
  exact ⟨_,_,rfl,.inl e,s',v',_,a',b',c',hs',hv',rfl⟩) (ρ:=[bx a1 b1 c1,s,none]) ⟨s,w,none,a1,b1,c1,hs,hw,rfl⟩
 have tf:=turns_fi 7 (by decide) [bx a1 b1 c1,s,none]
 have tf:dRange1 (retE (.dat (.int 7))) [bx a1 b1 c1,s,none]=_:=tf
 have q3:(sFor (dRange1 (retE (.dat (.int 7)))) (tgN 2) (b__law_deep_1)) [bx a1 b1 c1,s,none]=some (.nx [bx a2 b2 c2,s',z2]):=by
  unfold bx at *
  rcases hs with rfl | ⟨l,rfl,rfl⟩ <;> simp [lp]
 have split:∀ (g1 g2 g3:DS) (ρ:Sl),seqS g1 (seqS g2 g3) ρ=seqS (seqS g1 g2) g3 ρ:=fun g1 g2 g3 ρ=>by
  unfold seqS
  cases h:g1 ρ with
  | none=>rfl
  | some o=>cases o <;> rfl
 have gq:g__law_deep [bx a b c,none,none]=sRet (dVar 1) [bx a2 b2 c2,s',z2]:=by
  unfold g__law_deep
  rw [split,seq_nx e2,seq_nx q3]
 rcases hs' with rfl | ⟨l,rfl,rfl⟩
 ·refine ⟨v',.dat v',a2,b2,c2,hv',.inl rfl,?_⟩
  show callF 3 1 g__law_deep [bx a b c]=_
  unfold callF
  rw [if_pos (show ([bx a b c]:Sl).length=1 from rfl),show ([bx a b c]++List.replicate (3 - 1) none:Sl)=[bx a b c,none,none] from rfl,gq]
  unfold bx
  simp
 ·refine ⟨.lst l,.own (.lst l),a2,b2,c2,hv',.inr ⟨l,rfl,rfl⟩,?_⟩
  show callF 3 1 g__law_deep [bx a b c]=_
  unfold callF
  rw [if_pos (show ([bx a b c]:Sl).length=1 from rfl),show ([bx a b c]++List.replicate (3 - 1) none:Sl)=[bx a b c,none,none] from rfl,gq]
  unfold bx
  simp
theorem law_value_any {d:D} (h:AnyV d):F__law_is_value [some (.dat d)]=some (.ok (.dat (.bl (isVal d))) [none]):=by
 by_cases t:∃ l,d=.tup l
 ·obtain ⟨l,rfl⟩:=t
  cases h with
  | tup l hl he hq =>
   have c:l.length≤100000:=by omega
   by_cases e:l.length=2
   ·match l,e,he,hl,hq with
    | [x,y],_,he,_,_ =>
     have i1:=is_int_any (he x (by simp))
     have i2:=is_int_any (he y (by simp))
     rw [isVal_two]
     have a0:atI [x,y] 0=some x:=atI_nat (j:=0) rfl
     have a1:atI [x,y] 1=some y:=atI_nat (j:=1) rfl
     cases y with
     | int q =>
      cases cx:isI x
      ·rw [cx] at i1
       simp [F__law_is_value,g__law_is_value,isKind,i1,a0]
      ·rw [cx] at i1
       have i2:F_is_int [some (.dat (.int q))]=some (.ok (.dat (.bl true)) [none]):=i2
       have iq:decide (0 < q)=decide (1≤q):=decide_eq_decide.mpr (by omega)
       simp [F__law_is_value,g__law_is_value,isKind,i1,i2,a0,a1,isI,iq]
       try omega
     | _ =>
      cases cx:isI x <;> rw [cx] at i1 <;> simp [isI] at i2 ⊢ <;> simp [F__law_is_value,g__law_is_value,isKind,i1,i2,a0,a1]
   ·rw [isVal_no e]
    have eI:¬ (l.length:Int)=2:=by omega
    simp [F__law_is_value,g__law_is_value,isKind,c,e,eI]
 ·have ii:=is_int_any h
  have e:isVal d=isI d:=by
   cases h with
   | tup l _ _ _=>exact absurd ⟨l,rfl⟩ t
   | _=>rfl
  rw [e]
  cases h with
  | tup l _ _ _=>exact absurd ⟨l,rfl⟩ t
  | _=>simp [F__law_is_value,g__law_is_value,isKind,ii]
theorem wrong_zip:∀ (l:List D) (k:Nat),(((l.zipIdx k).filter fun q=>!isVal q.1).map (·.2)).head?=(wrongN l).map (·+k)
 | [],k=>rfl
 | e :: l,k=>by
  rw [List.zipIdx_cons,List.filter_cons]
  cases c:isVal e with
  | false =>
   have w:wrongN (e :: l)=some 0:=by unfold wrongN; rw [List.findIdx?_cons,c]; rfl
   rw [w]
   simp
  | true =>
   have w:wrongN (e :: l)=(wrongN l).map (·+1):=by unfold wrongN; rw [List.findIdx?_cons,c]; rfl
   rw [w]
   have ih:=wrong_zip l (k+1)
   simp only [Bool.not_true,Bool.false_eq_true,if_false]
   rw [ih,Option.map_map]
   cases wrongN l with
   | none=>rfl
   | some j=>simp; omega
theorem due5 {d:D} {s:SV} (hs:s=.dat d∨∃ l,d=.lst l∧s=.lck (.lst l)) (h:AnyV d) (p:Nat):F__law_due [some s,some (.dat (.int (p:Int)))]=some (.ok (.dat (dueD d p)) [none,none]):=by
 have seq:∀ (l:List D) (s:SV),(s=.dat (.lst l)∨s=.dat (.tup l)∨s=.lck (.lst l))→l.length≤10→(∀ e∈l,AnyV e)→F__law_due [some s,some (.dat (.int (p:Int)))]=some (.ok (.dat (if l.length=p then (match wrongN l with | none=>D.non | some k=>.int (k:Int)) else .int 0)) [none,none]):=by
  intro l s hs hl he
  have c:l.length≤100000:=by omega
  by_cases lp:l.length=p
  ·have lI:(l.length:Int)=(p:Int):=by omega
   rw [if_pos lp]
   have cl:∀ s':SV,loopC [3,4] (tgT [3,4]) (dNotT (asB (dFn F__law_is_value (dCons (dLend (dVar 4)) (dNil))))) (froze (dVar 3)) (enumL l) [] [some s',some (.dat (.int (p:Int))),none,none,none]=some (.ok (.own (.lst ((((l.zipIdx 0).filter fun q=>!isVal q.1).map (·.2)).map natD))) [some s',some (.dat (.int (p:Int))),none,none,none]):=fun s'=>by
    have:=loopC_enc (vs:=[3,4]) (tg:=tgT [3,4]) (ft:=(dNotT (asB (dFn F__law_is_value (dCons (dLend (dVar 4)) (dNil)))))) (fe:=froze (dVar 3)) (ρ:=[some s',some (.dat (.int (p:Int))),none,none,none]) (fun q:D×Nat=>D.tup [.int (q.2:Int),q.1]) (fun q=>!isVal q.1) (fun q=>natD q.2) (l.zipIdx 0) [] (by
     intro q hq
     have qm:q.1∈l:=by
      obtain ⟨i,hi⟩:=List.getElem?_of_mem hq
      rw [List.getElem?_zipIdx] at hi
      cases hh:l[i]? with
      | none=>rw [hh] at hi; cases hi
      | some y=>rw [hh] at hi; cases hi; exact List.mem_of_getElem? hh
     have iv:=law_value_any (he q.1 qm)
     refine ⟨[some s',some (.dat (.int (p:Int))),none,some (.dat (.int (q.2:Int))),some (.dat q.1)],by simp,rfl,?_,fun _=>by simp [natD]⟩
     generalize isVal q.1=bq at *
     cases bq <;> simp [iv]) (by rw [List.length_nil,List.length_zipIdx]; omega)
    rw [List.nil_append,← enum_zip] at this
    rw [this,List.map_map]
    rfl
   have wz:=wrong_zip l 0
   have dn:=ints_nilN ((((l.zipIdx 0).filter fun q=>!isVal q.1).map (·.2)))
   generalize (((l.zipIdx 0).filter fun q=>!isVal q.1).map (·.2))=P at *
   have fin:∀ x:Option SV,seqS (sSet 2 2 (dLc [3,4] (dEnum (dVar 0)) (tgT [3,4]) (dNotT (asB (dFn F__law_is_value (dCons (dLend (dVar 4)) (dNil))))) (dVar 3))) (sRet (dIfE (asB (dBin gNe (dVar 2) (dLst (dNil)))) (dBin gIx (dVar 2) (retE (.dat (.int 0)))) (retE (.dat .non)))) [x,some (.dat (.int (p:Int))),none,none,none]=seqS (sSet 2 2 (dLc [3,4] (dEnum (dVar 0)) (tgT [3,4]) (dNotT (asB (dFn F__law_is_value (dCons (dLend (dVar 4)) (dNil))))) (dVar 3))) (sRet (dIfE (asB (dBin gNe (dVar 2) (dLst (dNil)))) (dBin gIx (dVar 2) (retE (.dat (.int 0)))) (retE (.dat .non)))) [x,some (.dat (.int (p:Int))),none,none,none]:=fun _=>rfl
   clear fin
   cases w:wrongN l with
   | none =>
    rw [w] at wz
    have pn:P=[]:=by cases P with | nil=>rfl | cons a P=>cases wz
    subst pn
    have cl:∀ s':SV,loopC [3,4] (tgT [3,4]) (dNotT (asB (dFn F__law_is_value (dCons (dLend (dVar 4)) (dNil))))) (froze (dVar 3)) (enumL l) [] [some s',some (.dat (.int (p:Int))),none,none,none]=some (.ok (.own (.lst [])) [some s',some (.dat (.int (p:Int))),none,none,none]):=cl
    have dn:dEq (.lst []) (.lst [])=some true:=dn
    rcases hs with rfl | rfl | rfl
    ·have cl:=cl (.dat (.lst l))
     simp [F__law_due,g__law_due,isKind,c,lp,lI,cl,dn]
    ·have cl:=cl (.dat (.tup l))
     simp [F__law_due,g__law_due,isKind,c,lp,lI,cl,dn]
    ·have cl:=cl (.lck (.lst l))
     simp [F__law_due,g__law_due,isKind,c,lp,lI,cl,dn,MO.see]
   | some k =>
    rw [w] at wz
    obtain ⟨P',rfl⟩:∃ P',P=k :: P':=by
     cases P with
     | nil=>cases wz
     | cons a P =>
      have:a=k:=by simpa using wz
      exact ⟨P,by rw [this]⟩
    have a0:atI ((k :: P').map natD) 0=some (.int (k:Int)):=atI_nat (j:=0) rfl
    have dn:dEq (.lst ((k :: P').map natD)) (.lst [])=some false:=dn
    generalize (k :: P').map natD=PD at *
    rcases hs with rfl | rfl | rfl
    ·have cl:=cl (.dat (.lst l))
     simp [F__law_due,g__law_due,isKind,c,lp,lI,cl,dn,a0]
    ·have cl:=cl (.dat (.tup l))
     simp [F__law_due,g__law_due,isKind,c,lp,lI,cl,dn,a0]
    ·have cl:=cl (.lck (.lst l))
     simp [F__law_due,g__law_due,isKind,c,lp,lI,cl,dn,a0,MO.see]
  ·have lI:¬ (l.length:Int)=(p:Int):=by omega
   rw [if_neg lp]
   rcases hs with rfl | rfl | rfl <;> simp [F__law_due,g__law_due,isKind,c,lp,lI,MO.see]
 cases h with
 | lst l hl he =>
  refine seq l s ?_ hl he
  rcases hs with rfl | ⟨l',e',rfl⟩
  ·exact .inl rfl
  ·cases e'; exact .inr (.inr rfl)
 | tup l hl he hq =>
  refine seq l s ?_ hl he
  rcases hs with rfl | ⟨l',e',rfl⟩
  ·exact .inr (.inl rfl)
  ·cases e'
 | _ =>
  rcases hs with rfl | ⟨l',e',_⟩
  ·simp [F__law_due,g__law_due,isKind,dueD]
  ·cases e'
theorem room5:Room (27720 * 999999999) 1000000000 1:=⟨by decide,by decide,by decide⟩
theorem wrong_all {l:List D} (w:wrongN l=none):∀ e∈l,isVal e=true:=fun e he=>by
 unfold wrongN at w
 have:=List.findIdx?_eq_none_iff.mp w e he
 simpa using this
theorem refused5 {R:List (List Int)} {n:Nat} (f:Fine n N15 R) (n5:n≤5) {d:D} {s:SV} (hs:s=.dat d∨∃ l,d=.lst l∧s=.lck (.lst l)) (h:AnyV d):F__law_refused_v2 [some (.dat (talkD R)),some s]=some (.ok (.dat (dueD d n)) [none,none]):=by
 have rl:(R.map rowT).length=n:=by rw [List.length_map,f.len]
 have rl5:(R.map rowT).length≤100000:=by omega
 by_cases g:dueD d n=.non
 ·obtain ⟨l,hl,w,sl,ha⟩:∃ l,l.length=n∧wrongN l=none∧Sees s l∧∀ e∈l,AnyV e:=by
   cases h with
   | lst l _ he =>
    unfold dueD at g
    dsimp only at g
    split at g
    ·rename_i c
     split at g
     ·rename_i w
      rcases hs with rfl | ⟨l',e',rfl⟩
      ·exact ⟨l,c,w,.lst _,he⟩
      ·cases e'; exact ⟨l,c,w,.lck _,he⟩
     ·cases g
    ·cases g
   | tup l _ he _ =>
    unfold dueD at g
    dsimp only at g
    split at g
    ·rename_i c
     split at g
     ·rename_i w
      rcases hs with rfl | ⟨l',e',rfl⟩
      ·exact ⟨l,c,w,.tup _,he⟩
      ·cases e'
     ·cases g
    ·cases g
   | _=>cases g
  have wa:=wrong_all w
  have ld:=led1_okB room5 f sl (fun v hv=>(val_isV (ha v hv) (wa v hv)).1) hl rfl (t:=0) (fun q hq=>by
   obtain ⟨v,hv,rfl⟩:=List.mem_map.mp hq
   have:=(val_isV (ha v hv) (wa v hv)).2
   rwa [Nat.pow_zero,Nat.mul_one]) (by decide)
  rw [g]
  unfold talkD at *
  generalize valsD (act R (l.map valOf))=out at *
  generalize R.map rowT=T at *
  cases sl <;> simp [F__law_refused_v2,g__law_refused_v2,sTryAs,ld]
 ·obtain ⟨k,ek⟩:∃ k:Nat,dueD d n=.int (k:Int):=by
   cases h with
   | lst l _ _ =>
    unfold dueD at *
    dsimp only at *
    split
    ·split
     ·rename_i c _ w
      rw [if_pos c,w] at g
      exact absurd rfl g
     ·exact ⟨_,rfl⟩
    ·exact ⟨0,rfl⟩
   | tup l _ _ _ =>
    unfold dueD at *
    dsimp only at *
    split
    ·split
     ·rename_i c _ w
      rw [if_pos c,w] at g
      exact absurd rfl g
     ·exact ⟨_,rfl⟩
    ·exact ⟨0,rfl⟩
   | _=>exact ⟨0,rfl⟩
  have e:=checked_bad hs h ek
  have le:F_Talk_led [some (.dat (talkD R)),some s]=some (.exc 5 [("at",.int (k:Int))] [none,none]):=by
   unfold talkD
   rw [← rl] at e
   generalize R.map rowT=T at *
   rcases hs with rfl | ⟨l',rfl,rfl⟩
   ·simp [F_Talk_led,g_Talk_led,rl5,e]
   ·simp [F_Talk_led,g_Talk_led,rl5,e]
  rw [ek]
  unfold talkD at *
  generalize R.map rowT=T at *
  rcases hs with rfl | ⟨l',rfl,rfl⟩
  ·simp [F__law_refused_v2,g__law_refused_v2,sTryAs,le,fAt]
  ·simp [F__law_refused_v2,g__law_refused_v2,sTryAs,le,fAt]
end Sh
namespace K05
open PySem PySem.Spec PyProof.Rows L2 Tk Pl Sh
abbrev s__law_box:Stmt:=topOf PySem.Challenge.pw_talkmeans_k05_numbers_that_are_refused 31
abbrev N__law_box:List Str:=["_law_script","_law_k","_law_cell","_law_seed","_law_wide"]
abbrev P__law_box:List Str:=["_law_script","_law_k"]
theorem ok__law_box {P:Program} {w:World} {K:PySem.W.Frag} {mg:Str→Option Value} {base:Heap} {C:Cl} {f:Addr} {fd:FuncData} (F0:Fun K "_law_box" "_law_box" s__law_box f fd) (mf:mg "_law_box" = some (.ref f))
  (m_len:mg "len" = none)
  (m_abs:mg "abs" = none)
  (m_int:mg "int" = none):DefOk P w K mg base C 1 "_law_box" P__law_box F__law_box:=by
 have sc:FnScope N__law_box P__law_box (defScope s__law_box):=⟨rfl,rfl,rfl,by decide +kernel,rfl,by decide +kernel,by decide +kernel⟩
 refine ⟨⟨f,fd,def_ok (N:=N__law_box) (ps:=P__law_box) (g:=g__law_box) F0 sc rfl fun cdv A outer s H E B hr hn=>?_,F0.binds fun _ _ _ _ _ _ us hl=>match us,hl with | [_,_],_=>rfl,F0.kp,mf⟩⟩
 have tk:=takes_of (X:=(cxOf (L2.CX P w) P w K mg base N__law_box "_law_box" (defScope s__law_box) f cdv A outer s H E)) rfl rfl rfl rfl
 have hp:=passes_of (X:=(cxOf (L2.CX P w) P w K mg base N__law_box "_law_box" (defScope s__law_box) f cdv A outer s H E)) rfl
 have hu:=hr.units
 exact pds_cons (pds_set (i:=2) (np:=2) hn sc.nd rfl (.inl rfl) (pd_bin op_addA o_add (pd_bin op_mulA o_mul (pd_int) (pd_var (pv 1))) (pd_int)))
  (pds_cons (pds_if (pdt_cmp op_lt o_lt (pd_var (pv 1)) (pd_callB call_len o_len (by rfl) m_len (by decide +kernel) (pda_cons (pd_var (pv 0)) (pda_nil))) (nomark _))
   (pds_one (pds_set (i:=2) (np:=2) hn sc.nd rfl (.inl rfl) (pd_callB call_abs o_abs (by rfl) m_abs (by decide +kernel) (pda_cons (pd_callTy call_int1 o_int (by rfl) m_int (by decide +kernel) (pda_cons (pd_ixR ix_seq o_ix (pd_var (pv 0)) (pd_var (pv 1)) (fun _ _=>rfl)) (pda_nil))) (pda_nil)))))
   (pds_one (pds_if (pdt_cmp op_gt o_gt (pd_callB call_len o_len (by rfl) m_len (by decide +kernel) (pda_cons (pd_var (pv 0)) (pda_nil))) (pd_int) (nomark _))
   (pds_one (pds_set (i:=2) (np:=2) hn sc.nd rfl (.inl rfl) (pd_bin op_addA o_add (pd_var (pv 2)) (pd_bin op_mulA o_mul (pd_bin op_mod o_mod (pd_callTy call_int1 o_int (by rfl) m_int (by decide +kernel) (pda_cons (pd_ixR ix_seq o_ix (pd_var (pv 0)) (pd_bin op_mod o_mod (pd_callTy call_int1 o_int (by rfl) m_int (by decide +kernel) (pda_cons (pd_var (pv 1)) (pda_nil))) (pd_callB call_len o_len (by rfl) m_len (by decide +kernel) (pda_cons (pd_var (pv 0)) (pda_nil)))) (fun _ _=>rfl)) (pda_nil))) (pd_int)) (pd_int)))))
   (pds_nil))))
  (pds_cons (pds_set (i:=3) (np:=2) hn sc.nd rfl (.inl rfl) (pd_bin op_addA o_add (pd_bin op_mod o_mod (pd_callTy call_int1 o_int (by rfl) m_int (by decide +kernel) (pda_cons (pd_bin op_addA o_add (pd_bin op_addA o_add (pd_bin op_mulA o_mul (pd_bin op_mod o_mod (pd_callTy call_int1 o_int (by rfl) m_int (by decide +kernel) (pda_cons (pd_var (pv 2)) (pda_nil))) (pd_int)) (pd_int)) (pd_bin op_mulA o_mul (pd_int) (pd_var (pv 1)))) (pd_int)) (pda_nil))) (pd_int)) (pd_int)))
  (pds_cons (pds_set (i:=4) (np:=2) hn sc.nd rfl (.inl rfl) (pd_if (pdt_cmp op_ge o_ge (pd_var (pv 2)) (pd_bin op_pow o_pow (pd_int) (pd_int)) (nomark _)) (pd_var (pv 2)) (pd_int)))
  (pds_one (pds_ret (pd_lst (pda_cons (pd_frz (pd_var (pv 4))) (pda_cons (pd_frz (pd_var (pv 3))) (pda_cons (pd_int) (pda_nil))))))))))
abbrev s__law_take:Stmt:=topOf PySem.Challenge.pw_talkmeans_k05_numbers_that_are_refused 32
abbrev N__law_take:List Str:=["_law_box_here","_law_many","_law_digit","_law_near"]
abbrev P__law_take:List Str:=["_law_box_here","_law_many"]
theorem ok__law_take {P:Program} {w:World} {K:PySem.W.Frag} {mg:Str→Option Value} {base:Heap} {C:Cl} {f:Addr} {fd:FuncData} (F0:Fun K "_law_take" "_law_take" s__law_take f fd) (mf:mg "_law_take" = some (.ref f))
  (m_int:mg "int" = none):DefOk P w K mg base C 1 "_law_take" P__law_take F__law_take:=by
 have sc:FnScope N__law_take P__law_take (defScope s__law_take):=⟨rfl,rfl,rfl,by decide +kernel,rfl,by decide +kernel,by decide +kernel⟩
 refine ⟨⟨f,fd,def_ok (N:=N__law_take) (ps:=P__law_take) (g:=g__law_take) F0 sc rfl fun cdv A outer s H E B hr hn=>?_,F0.binds fun _ _ _ _ _ _ us hl=>match us,hl with | [_,_],_=>rfl,F0.kp,mf⟩⟩
 have tk:=takes_of (X:=(cxOf (L2.CX P w) P w K mg base N__law_take "_law_take" (defScope s__law_take) f cdv A outer s H E)) rfl rfl rfl rfl
 have hp:=passes_of (X:=(cxOf (L2.CX P w) P w K mg base N__law_take "_law_take" (defScope s__law_take) f cdv A outer s H E)) rfl
 have hu:=hr.units
 exact pds_cons (pds_if (pdt_cmp op_gt o_gt (pd_ixR ix_seq o_ix (pd_var (pv 0)) (pd_int) (fun _ _=>rfl)) (pd_int) (nomark _))
   (pds_cons (pds_set (i:=2) (np:=2) hn sc.nd rfl (.inl rfl) (pd_bin op_mod o_mod (pd_callTy call_int1 o_int (by rfl) m_int (by decide +kernel) (pda_cons (pd_ixR ix_seq o_ix (pd_var (pv 0)) (pd_int) (fun _ _=>rfl)) (pda_nil))) (pd_var (pv 1))))
  (pds_cons (pds_store (pd_bin op_fdivW o_fdiv (pd_ixR ix_seq o_ix (pd_var (pv 0)) (pd_int) (fun _ _=>rfl)) (pd_var (pv 1))) (pd_var (pv 0)) (pd_int))
  (pds_one (pds_ret (pd_var (pv 2))))))
   (pds_nil))
  (pds_cons (pds_store (pd_bin op_addA o_add (pd_ixR ix_seq o_ix (pd_var (pv 0)) (pd_int) (fun _ _=>rfl)) (pd_int)) (pd_var (pv 0)) (pd_int))
  (pds_cons (pds_set (i:=3) (np:=2) hn sc.nd rfl (.inl rfl) (pd_bin op_mod o_mod (pd_callTy call_int1 o_int (by rfl) m_int (by decide +kernel) (pda_cons (pd_bin op_mulA o_mul (pd_bin op_addA o_add (pd_ixR ix_seq o_ix (pd_var (pv 0)) (pd_int) (fun _ _=>rfl)) (pd_bin op_mulA o_mul (pd_int) (pd_ixR ix_seq o_ix (pd_var (pv 0)) (pd_int) (fun _ _=>rfl)))) (pd_int)) (pda_nil))) (pd_int)))
  (pds_cons (pds_store (pd_bin op_addA o_add (pd_bin op_mod o_mod (pd_callTy call_int1 o_int (by rfl) m_int (by decide +kernel) (pda_cons (pd_bin op_addA o_add (pd_bin op_mulA o_mul (pd_var (pv 3)) (pd_int)) (pd_int)) (pda_nil))) (pd_int)) (pd_int)) (pd_var (pv 0)) (pd_int))
  (pds_one (pds_ret (pd_bin op_mod o_mod (pd_callTy call_int1 o_int (by rfl) m_int (by decide +kernel) (pda_cons (pd_bin op_fdivW o_fdiv (pd_bin op_addA o_add (pd_bin op_mulA o_mul (pd_var (pv 3)) (pd_int)) (pd_ixR ix_seq o_ix (pd_var (pv 0)) (pd_int) (fun _ _=>rfl))) (pd_int)) (pda_nil))) (pd_var (pv 1))))))))
abbrev s_is_sequence:Stmt:=topOf PySem.Challenge.pw_talkmeans_k05_numbers_that_are_refused 11
abbrev N_is_sequence:List Str:=["value"]
abbrev P_is_sequence:List Str:=["value"]
theorem ok_is_sequence {P:Program} {w:World} {K:PySem.W.Frag} {mg:Str→Option Value} {base:Heap} {C:Cl} {f:Addr} {fd:FuncData} (F0:Fun K "is_sequence" "is_sequence" s_is_sequence f fd) (mf:mg "is_sequence" = some (.ref f))
  (m_isinstance:mg "isinstance" = none)
  (m_list:mg "list" = none)
  (m_tuple:mg "tuple" = none):DefOk P w K mg base C 1 "is_sequence" P_is_sequence F_is_sequence:=by
 have sc:FnScope N_is_sequence P_is_sequence (defScope s_is_sequence):=⟨rfl,rfl,rfl,by decide +kernel,rfl,by decide +kernel,by decide +kernel⟩
 refine ⟨⟨f,fd,def_ok (N:=N_is_sequence) (ps:=P_is_sequence) (g:=g_is_sequence) F0 sc rfl fun cdv A outer s H E B hr hn=>?_,F0.binds fun _ _ _ _ _ _ us hl=>match us,hl with | [_],_=>rfl,F0.kp,mf⟩⟩
 have tk:=takes_of (X:=(cxOf (L2.CX P w) P w K mg base N_is_sequence "is_sequence" (defScope s_is_sequence) f cdv A outer s H E)) rfl rfl rfl rfl
 have hp:=passes_of (X:=(cxOf (L2.CX P w) P w K mg base N_is_sequence "is_sequence" (defScope s_is_sequence) f cdv A outer s H E)) rfl
 have hu:=hr.units
 exact pds_one (pds_ret (pd_isi2 (m := "list") (m' := "tuple") rfl m_isinstance rfl m_list (by decide +kernel) rfl m_tuple (by decide +kernel) (pd_var (pv 0))))
abbrev s_is_int:Stmt:=topOf PySem.Challenge.pw_talkmeans_k05_numbers_that_are_refused 8
abbrev N_is_int:List Str:=["value"]
abbrev P_is_int:List Str:=["value"]
theorem ok_is_int {P:Program} {w:World} {K:PySem.W.Frag} {mg:Str→Option Value} {base:Heap} {C:Cl} {f:Addr} {fd:FuncData} (F0:Fun K "is_int" "is_int" s_is_int f fd) (mf:mg "is_int" = some (.ref f))
  (m_isinstance:mg "isinstance" = none)
  (m_int:mg "int" = none)
  (m_bool:mg "bool" = none):DefOk P w K mg base C 1 "is_int" P_is_int F_is_int:=by
 have sc:FnScope N_is_int P_is_int (defScope s_is_int):=⟨rfl,rfl,rfl,by decide +kernel,rfl,by decide +kernel,by decide +kernel⟩
 refine ⟨⟨f,fd,def_ok (N:=N_is_int) (ps:=P_is_int) (g:=g_is_int) F0 sc rfl fun cdv A outer s H E B hr hn=>?_,F0.binds fun _ _ _ _ _ _ us hl=>match us,hl with | [_],_=>rfl,F0.kp,mf⟩⟩
 have tk:=takes_of (X:=(cxOf (L2.CX P w) P w K mg base N_is_int "is_int" (defScope s_is_int) f cdv A outer s H E)) rfl rfl rfl rfl
 have hp:=passes_of (X:=(cxOf (L2.CX P w) P w K mg base N_is_int "is_int" (defScope s_is_int) f cdv A outer s H E)) rfl
 have hu:=hr.units
 exact pds_one (pds_ret (pd_and (pd_callB call_isi o_isi (by rfl) m_isinstance (by decide +kernel) (pda_cons (pd_var (pv 0)) (pda_cons (pd_ty rfl m_int (by decide +kernel)) (pda_nil)))) (pd_one (pd_not (pd_callB call_isi o_isi (by rfl) m_isinstance (by decide +kernel) (pda_cons (pd_var (pv 0)) (pda_cons (pd_ty rfl m_bool (by decide +kernel)) (pda_nil))))))))
abbrev s_is_number:Stmt:=topOf PySem.Challenge.pw_talkmeans_k05_numbers_that_are_refused 9
abbrev N_is_number:List Str:=["value"]
abbrev P_is_number:List Str:=["value"]
theorem ok_is_number {P:Program} {w:World} {K:PySem.W.Frag} {mg:Str→Option Value} {base:Heap} {C:Cl} {f:Addr} {fd:FuncData} (F0:Fun K "is_number" "is_number" s_is_number f fd) (mf:mg "is_number" = some (.ref f))
  (h_is_int:DefOk P w K mg base C 1 "is_int" P_is_int F_is_int):DefOk P w K mg base C 2 "is_number" P_is_number F_is_number:=by
 have sc:FnScope N_is_number P_is_number (defScope s_is_number):=⟨rfl,rfl,rfl,by decide +kernel,rfl,by decide +kernel,by decide +kernel⟩
 refine ⟨⟨f,fd,def_ok (N:=N_is_number) (ps:=P_is_number) (g:=g_is_number) F0 sc rfl fun cdv A outer s H E B hr hn=>?_,F0.binds fun _ _ _ _ _ _ us hl=>match us,hl with | [_],_=>rfl,F0.kp,mf⟩⟩
 have tk:=takes_of (X:=(cxOf (L2.CX P w) P w K mg base N_is_number "is_number" (defScope s_is_number) f cdv A outer s H E)) rfl rfl rfl rfl
 have hp:=passes_of (X:=(cxOf (L2.CX P w) P w K mg base N_is_number "is_number" (defScope s_is_number) f cdv A outer s H E)) rfl
 have hu:=hr.units
 exact pds_one (pds_ret (pd_and (pd_fn h_is_int (hr.mono (by decide)) tk rfl (pda_cons (pd_lend (pd_var (pv 0))) (pda_nil))) (pd_one (pd_cmp op_ge o_ge (pd_var (pv 0)) (pd_int) (nomark _)))))
abbrev s_is_row_of:Stmt:=topOf PySem.Challenge.pw_talkmeans_k05_numbers_that_are_refused 25
abbrev N_is_row_of:List Str:=["row","person","people","weight"]
abbrev P_is_row_of:List Str:=["row","person","people"]
theorem ok_is_row_of {P:Program} {w:World} {K:PySem.W.Frag} {mg:Str→Option Value} {base:Heap} {C:Cl} {f:Addr} {fd:FuncData} (F0:Fun K "is_row_of" "is_row_of" s_is_row_of f fd) (mf:mg "is_row_of" = some (.ref f))
  (h_is_sequence:DefOk P w K mg base C 1 "is_sequence" P_is_sequence F_is_sequence)
  (m_len:mg "len" = none)
  (m_all:mg "all" = none)
  (h_is_number:DefOk P w K mg base C 2 "is_number" P_is_number F_is_number):DefOk P w K mg base C 3 "is_row_of" P_is_row_of F_is_row_of:=by
 have sc:FnScope N_is_row_of P_is_row_of (defScope s_is_row_of):=⟨rfl,rfl,rfl,by decide +kernel,rfl,by decide +kernel,by decide +kernel⟩
 refine ⟨⟨f,fd,def_ok (N:=N_is_row_of) (ps:=P_is_row_of) (g:=g_is_row_of) F0 sc rfl fun cdv A outer s H E B hr hn=>?_,F0.binds fun _ _ _ _ _ _ us hl=>match us,hl with | [_,_,_],_=>rfl,F0.kp,mf⟩⟩
 have tk:=takes_of (X:=(cxOf (L2.CX P w) P w K mg base N_is_row_of "is_row_of" (defScope s_is_row_of) f cdv A outer s H E)) rfl rfl rfl rfl
 have hp:=passes_of (X:=(cxOf (L2.CX P w) P w K mg base N_is_row_of "is_row_of" (defScope s_is_row_of) f cdv A outer s H E)) rfl
 have hu:=hr.units
 exact pds_cons (pds_if (pdt_w (pdw_or (pdt_not (pdt_val (pd_fn h_is_sequence (hr.mono (by decide)) tk rfl (pda_cons (pd_lend (pd_var (pv 0))) (pda_nil))))) (pdw_one_or (pdt_cmp (op_neA hu) o_ne (pd_callB call_len o_len (by rfl) m_len (by decide +kernel) (pda_cons (pd_var (pv 0)) (pda_nil))) (pd_var (pv 2)) (nomark _)))))
   (pds_one (pds_ret (pd_bl)))
   (pds_nil))
  (pds_one (pds_ret (pd_and (pd_callB (cr_all rfl) o_all (by rfl) m_all (by decide +kernel) (pda_cons (pd_lc (own:=[("weight",3)]) (js:=[3]) (by rfl) sc.nd (pdi_seq (pd_var (pv 0))) (blkOk_by (N:=N_is_row_of) (sc:=defScope s_is_row_of) (by decide +kernel)) (by decide) (fun _ _ _ _ _=>pdg_name (pg_name (i:=3) sc.nd rfl (.inl rfl))) (fun _ _ _ _ _=>pts_yes) (fun _ _ _ _ _=>pd_fn h_is_number (hr.mono (by decide)) takes0 rfl (pda_cons (pd_lend (pd_var (pv 3))) (pda_nil)))) (pda_nil))) (pd_one (pd_cmp op_gt o_gt (pd_ixR ix_seq o_ix (pd_var (pv 0)) (pd_var (pv 1)) (fun _ _=>rfl)) (pd_int) (nomark _))))))
abbrev s_first_wrong_row:Stmt:=topOf PySem.Challenge.pw_talkmeans_k05_numbers_that_are_refused 24
abbrev N_first_wrong_row:List Str:=["rows","at","row"]
abbrev P_first_wrong_row:List Str:=["rows"]
theorem ok_first_wrong_row {P:Program} {w:World} {K:PySem.W.Frag} {mg:Str→Option Value} {base:Heap} {C:Cl} {f:Addr} {fd:FuncData} (F0:Fun K "first_wrong_row" "first_wrong_row" s_first_wrong_row f fd) (mf:mg "first_wrong_row" = some (.ref f))
  (h_is_sequence:DefOk P w K mg base C 1 "is_sequence" P_is_sequence F_is_sequence)
  (m_len:mg "len" = none)
  (m_enumerate:mg "enumerate" = none)
  (h_is_row_of:DefOk P w K mg base C 3 "is_row_of" P_is_row_of F_is_row_of):DefOk P w K mg base C 4 "first_wrong_row" P_first_wrong_row F_first_wrong_row:=by
 have sc:FnScope N_first_wrong_row P_first_wrong_row (defScope s_first_wrong_row):=⟨rfl,rfl,rfl,by decide +kernel,rfl,by decide +kernel,by decide +kernel⟩
 refine ⟨⟨f,fd,def_ok (N:=N_first_wrong_row) (ps:=P_first_wrong_row) (g:=g_first_wrong_row) F0 sc rfl fun cdv A outer s H E B hr hn=>?_,F0.binds fun _ _ _ _ _ _ us hl=>match us,hl with | [_],_=>rfl,F0.kp,mf⟩⟩
 have tk:=takes_of (X:=(cxOf (L2.CX P w) P w K mg base N_first_wrong_row "first_wrong_row" (defScope s_first_wrong_row) f cdv A outer s H E)) rfl rfl rfl rfl
 have hp:=passes_of (X:=(cxOf (L2.CX P w) P w K mg base N_first_wrong_row "first_wrong_row" (defScope s_first_wrong_row) f cdv A outer s H E)) rfl
 have hu:=hr.units
 exact pds_cons (pds_if (pdt_w (pdw_or (pdt_not (pdt_val (pd_fn h_is_sequence (hr.mono (by decide)) tk rfl (pda_cons (pd_lend (pd_var (pv 0))) (pda_nil))))) (pdw_one_or (pdt_cmp (op_eqA hu) o_eq (pd_callB call_len o_len (by rfl) m_len (by decide +kernel) (pda_cons (pd_var (pv 0)) (pda_nil))) (pd_int) (nomark _)))))
   (pds_one (pds_ret (pd_int)))
   (pds_nil))
  (pds_cons (pds_for (js:=[1,2]) hp rfl (pdi_enum (by rfl) m_enumerate (pd_var (pv 0))) (pdg_tup rfl (pdgs_cons (pg_name (i:=1) sc.nd rfl (.inl rfl)) (pdgs_cons (pg_name (i:=2) sc.nd rfl (.inl rfl)) (pdgs_nil))))
   (pds_one (pds_if (pdt_not (pdt_val (pd_fn h_is_row_of (hr.mono (by decide)) tk rfl (pda_cons (pd_lend (pd_var (pv 2))) (pda_cons (pd_lend (pd_var (pv 1))) (pda_cons (pd_callB call_len o_len (by rfl) m_len (by decide +kernel) (pda_cons (pd_var (pv 0)) (pda_nil))) (pda_nil)))))))
   (pds_one (pds_ret (pd_var (pv 1))))
   (pds_nil))))
  (pds_one (pds_ret (pd_non))))
abbrev s_common_divisor:Stmt:=topOf PySem.Challenge.pw_talkmeans_k05_numbers_that_are_refused 14
abbrev N_common_divisor:List Str:=["numbers","divisor","number"]
abbrev P_common_divisor:List Str:=["numbers"]
theorem ok_common_divisor {P:Program} {w:World} {K:PySem.W.Frag} {mg:Str→Option Value} {base:Heap} {C:Cl} {f:Addr} {fd:FuncData} (F0:Fun K "common_divisor" "common_divisor" s_common_divisor f fd) (mf:mg "common_divisor" = some (.ref f))
  (m_gcd:mg "gcd" = some (.builtin "math.gcd")):DefOk P w K mg base C 1 "common_divisor" P_common_divisor F_common_divisor:=by
 have sc:FnScope N_common_divisor P_common_divisor (defScope s_common_divisor):=⟨rfl,rfl,rfl,by decide +kernel,rfl,by decide +kernel,by decide +kernel⟩
 refine ⟨⟨f,fd,def_ok (N:=N_common_divisor) (ps:=P_common_divisor) (g:=g_common_divisor) F0 sc rfl fun cdv A outer s H E B hr hn=>?_,F0.binds fun _ _ _ _ _ _ us hl=>match us,hl with | [_],_=>rfl,F0.kp,mf⟩⟩
 have tk:=takes_of (X:=(cxOf (L2.CX P w) P w K mg base N_common_divisor "common_divisor" (defScope s_common_divisor) f cdv A outer s H E)) rfl rfl rfl rfl
 have hp:=passes_of (X:=(cxOf (L2.CX P w) P w K mg base N_common_divisor "common_divisor" (defScope s_common_divisor) f cdv A outer s H E)) rfl
 have hu:=hr.units
 exact pds_cons (pds_set (i:=1) (np:=1) hn sc.nd rfl (.inl rfl) (pd_int))
  (pds_cons (pds_for (js:=[2]) hp rfl (pdi_seq (pd_var (pv 0))) (pdg_name (pg_name (i:=2) sc.nd rfl (.inl rfl)))
   (pds_one (pds_set (i:=1) (np:=1) hn sc.nd rfl (.inl rfl) (pd_callM cr_gcd o_gcd rfl m_gcd (pda_cons (pd_var (pv 1)) (pda_cons (pd_var (pv 2)) (pda_nil)))))))
  (pds_one (pds_ret (pd_var (pv 1)))))
abbrev s_normal_row:Stmt:=topOf PySem.Challenge.pw_talkmeans_k05_numbers_that_are_refused 26
abbrev N_normal_row:List Str:=["row","divisor","weight"]
abbrev P_normal_row:List Str:=["row"]
theorem ok_normal_row {P:Program} {w:World} {K:PySem.W.Frag} {mg:Str→Option Value} {base:Heap} {C:Cl} {f:Addr} {fd:FuncData} (F0:Fun K "normal_row" "normal_row" s_normal_row f fd) (mf:mg "normal_row" = some (.ref f))
  (h_common_divisor:DefOk P w K mg base C 1 "common_divisor" P_common_divisor F_common_divisor)
  (m_tuple:mg "tuple" = none):DefOk P w K mg base C 2 "normal_row" P_normal_row F_normal_row:=by
 have sc:FnScope N_normal_row P_normal_row (defScope s_normal_row):=⟨rfl,rfl,rfl,by decide +kernel,rfl,by decide +kernel,by decide +kernel⟩
 refine ⟨⟨f,fd,def_ok (N:=N_normal_row) (ps:=P_normal_row) (g:=g_normal_row) F0 sc rfl fun cdv A outer s H E B hr hn=>?_,F0.binds fun _ _ _ _ _ _ us hl=>match us,hl with | [_],_=>rfl,F0.kp,mf⟩⟩
 have tk:=takes_of (X:=(cxOf (L2.CX P w) P w K mg base N_normal_row "normal_row" (defScope s_normal_row) f cdv A outer s H E)) rfl rfl rfl rfl
 have hp:=passes_of (X:=(cxOf (L2.CX P w) P w K mg base N_normal_row "normal_row" (defScope s_normal_row) f cdv A outer s H E)) rfl
 have hu:=hr.units
 exact pds_cons (pds_set (i:=1) (np:=1) hn sc.nd rfl (.inr rfl) (pd_fn h_common_divisor (hr.mono (by decide)) tk rfl (pda_cons (pd_lend (pd_var (pv 0))) (pda_nil))))
  (pds_one (pds_ret (pd_callTy call_tuple_of o_tupOf (by rfl) m_tuple (by decide +kernel) (pda_cons (pd_lc (own:=[("weight",2)]) (js:=[2]) (by rfl) sc.nd (pdi_seq (pd_var (pv 0))) (blkOk_by (N:=N_normal_row) (sc:=defScope s_normal_row) (by decide +kernel)) (by decide) (fun _ _ _ _ _=>pdg_name (pg_name (i:=2) sc.nd rfl (.inl rfl))) (fun _ _ _ _ _=>pts_yes) (fun _ _ _ _ _=>pd_bin op_fdivW o_fdiv (pd_var (pv 2)) (pd_var (pv 1)))) (pda_nil)))))
abbrev s_Talk___init__:Stmt:=inClass (topOf PySem.Challenge.pw_talkmeans_k05_numbers_that_are_refused 23) 0
abbrev N_Talk___init__:List Str:=["self","rows","wrong","row"]
abbrev P_Talk___init__:List Str:=["self","rows"]
theorem ok_Talk___init__ {P:Program} {w:World} {K:PySem.W.Frag} {mg:Str→Option Value} {base:Heap} {C:Cl} {f:Addr} {fd:FuncData} (F0:Fun K "__init__" "Talk.__init__" s_Talk___init__ f fd)
  (h_first_wrong_row:DefOk P w K mg base C 4 "first_wrong_row" P_first_wrong_row F_first_wrong_row)
  (rs_InvalidTalk:RaiseOk P w K mg base C 1 "InvalidTalk" 1 "at")
  (fl_rows:FldOk K C att "rows")
  (m_tuple:mg "tuple" = none)
  (h_normal_row:DefOk P w K mg base C 2 "normal_row" P_normal_row F_normal_row):FOk P w K mg base C 5 f P_Talk___init__ F_Talk___init__:=by
 have sc:FnScope N_Talk___init__ P_Talk___init__ (defScope s_Talk___init__):=⟨rfl,rfl,rfl,by decide +kernel,rfl,by decide +kernel,by decide +kernel⟩
 refine ⟨⟨fd,def_ok (N:=N_Talk___init__) (ps:=P_Talk___init__) (g:=g_Talk___init__) F0 sc rfl fun cdv A outer s H E B hr hn=>?_,F0.binds fun _ _ _ _ _ _ us hl=>match us,hl with | [_,_],_=>rfl⟩⟩
 have tk:=takes_of (X:=(cxOf (L2.CX P w) P w K mg base N_Talk___init__ "Talk.__init__" (defScope s_Talk___init__) f cdv A outer s H E)) rfl rfl rfl rfl
 have hp:=passes_of (X:=(cxOf (L2.CX P w) P w K mg base N_Talk___init__ "Talk.__init__" (defScope s_Talk___init__) f cdv A outer s H E)) rfl
 have hu:=hr.units
 exact pds_cons (pds_set (i:=2) (np:=2) hn sc.nd rfl (.inl rfl) (pd_fn h_first_wrong_row (hr.mono (by decide)) tk rfl (pda_cons (pd_lend (pd_var (pv 1))) (pda_nil))))
  (pds_cons (pds_if (pdt_cmp op_notN o_notN (pd_var (pv 2)) (pd_non) (nomark _))
   (pds_one (pds_raise1 rs_InvalidTalk rfl (hr.mono (by decide)) tk rfl (pd_var (pv 2))))
   (pds_nil))
  (pds_one (pds_fld fl_rows (pd_var (pv 0)) (pd_callTy call_tuple_of o_tupOf (by rfl) m_tuple (by decide +kernel) (pda_cons (pd_lc (own:=[("row",3)]) (js:=[3]) (by rfl) sc.nd (pdi_seq (pd_var (pv 1))) (blkOk_by (N:=N_Talk___init__) (sc:=defScope s_Talk___init__) (by decide +kernel)) (by decide) (fun _ _ _ _ _=>pdg_name (pg_name (i:=3) sc.nd rfl (.inl rfl))) (fun _ _ _ _ _=>pts_yes) (fun _ _ _ _ _=>pd_fn h_normal_row (hr.mono (by decide)) takes0 rfl (pda_cons (pd_lend (pd_var (pv 3))) (pda_nil)))) (pda_nil))))))
abbrev s__law_pick:Stmt:=topOf PySem.Challenge.pw_talkmeans_k05_numbers_that_are_refused 33
abbrev N__law_pick:List Str:=["_law_box_here","_law_some"]
abbrev P__law_pick:List Str:=["_law_box_here","_law_some"]
theorem ok__law_pick {P:Program} {w:World} {K:PySem.W.Frag} {mg:Str→Option Value} {base:Heap} {C:Cl} {f:Addr} {fd:FuncData} (F0:Fun K "_law_pick" "_law_pick" s__law_pick f fd) (mf:mg "_law_pick" = some (.ref f))
  (h__law_take:DefOk P w K mg base C 1 "_law_take" P__law_take F__law_take)
  (m_len:mg "len" = none):DefOk P w K mg base C 2 "_law_pick" P__law_pick F__law_pick:=by
 have sc:FnScope N__law_pick P__law_pick (defScope s__law_pick):=⟨rfl,rfl,rfl,by decide +kernel,rfl,by decide +kernel,by decide +kernel⟩
 refine ⟨⟨f,fd,def_ok (N:=N__law_pick) (ps:=P__law_pick) (g:=g__law_pick) F0 sc rfl fun cdv A outer s H E B hr hn=>?_,F0.binds fun _ _ _ _ _ _ us hl=>match us,hl with | [_,_],_=>rfl,F0.kp,mf⟩⟩
 have tk:=takes_of (X:=(cxOf (L2.CX P w) P w K mg base N__law_pick "_law_pick" (defScope s__law_pick) f cdv A outer s H E)) rfl rfl rfl rfl
 have hp:=passes_of (X:=(cxOf (L2.CX P w) P w K mg base N__law_pick "_law_pick" (defScope s__law_pick) f cdv A outer s H E)) rfl
 have hu:=hr.units
 exact pds_one (pds_ret (pd_ixR ix_seq o_ix (pd_var (pv 1)) (pd_fn h__law_take (hr.mono (by decide)) tk rfl (pda_cons (pd_var (pv 0)) (pda_cons (pd_callB call_len o_len (by rfl) m_len (by decide +kernel) (pda_cons (pd_var (pv 1)) (pda_nil))) (pda_nil)))) (fun _ _=>rfl)))
abbrev s__law_rows:Stmt:=topOf PySem.Challenge.pw_talkmeans_k05_numbers_that_are_refused 34
abbrev N__law_rows:List Str:=["_law_box_here","_law_people","_law_top","_law_found","_law_i","_law_row","_law_j"]
abbrev P__law_rows:List Str:=["_law_box_here","_law_people","_law_top"]
theorem ok__law_rows {P:Program} {w:World} {K:PySem.W.Frag} {mg:Str→Option Value} {base:Heap} {C:Cl} {f:Addr} {fd:FuncData} (F0:Fun K "_law_rows" "_law_rows" s__law_rows f fd) (mf:mg "_law_rows" = some (.ref f))
  (m_range:mg "range" = none)
  (h__law_pick:DefOk P w K mg base C 2 "_law_pick" P__law_pick F__law_pick)
  (h__law_take:DefOk P w K mg base C 1 "_law_take" P__law_take F__law_take):DefOk P w K mg base C 3 "_law_rows" P__law_rows F__law_rows:=by
 have sc:FnScope N__law_rows P__law_rows (defScope s__law_rows):=⟨rfl,rfl,rfl,by decide +kernel,rfl,by decide +kernel,by decide +kernel⟩
 refine ⟨⟨f,fd,def_ok (N:=N__law_rows) (ps:=P__law_rows) (g:=g__law_rows) F0 sc rfl fun cdv A outer s H E B hr hn=>?_,F0.binds fun _ _ _ _ _ _ us hl=>match us,hl with | [_,_,_],_=>rfl,F0.kp,mf⟩⟩
 have tk:=takes_of (X:=(cxOf (L2.CX P w) P w K mg base N__law_rows "_law_rows" (defScope s__law_rows) f cdv A outer s H E)) rfl rfl rfl rfl
 have hp:=passes_of (X:=(cxOf (L2.CX P w) P w K mg base N__law_rows "_law_rows" (defScope s__law_rows) f cdv A outer s H E)) rfl
 have hu:=hr.units
 exact pds_cons (pds_set (i:=3) (np:=3) hn sc.nd rfl (.inl rfl) (pd_lst (pda_nil)))
  (pds_cons (pds_for (js:=[4]) hp rfl (pdi_range1 (by rfl) m_range (pd_var (pv 1))) (pdg_name (pg_name (i:=4) sc.nd rfl (.inl rfl)))
   (pds_cons (pds_setLc (i:=5) (np:=3) (own:=[("_law_j",6)]) (js:=[6]) hn rfl sc.nd rfl rfl (sw_true rfl rfl rfl (by decide +kernel)) (pdi_range1 (by rfl) m_range (pd_var (pv 1))) (blkOk_by (N:=N__law_rows) (sc:=defScope s__law_rows) (by decide +kernel)) (by decide) (fun _ _ _ _ _=>pdg_name (pg_name (i:=6) sc.nd rfl (.inl rfl))) (fun _ _ _ _ _=>pts_yes) (fun _ _ _ _ _=>pd_fn h__law_pick (hr.mono (by decide)) takes0 rfl (pda_cons (pd_var (pv 0)) (pda_cons (pd_lend (pd_lst (pda_cons (pd_int) (pda_cons (pd_int) (pda_cons (pd_int) (pda_cons (pd_frz (pd_fn h__law_take (hr.mono (by decide)) takes0 rfl (pda_cons (pd_var (pv 0)) (pda_cons (pd_lend (pd_bin op_addA o_add (pd_var (pv 2)) (pd_int))) (pda_nil))))) (pda_nil))))))) (pda_nil)))))
  (pds_cons (pds_store (pd_bin op_addA o_add (pd_int) (pd_fn h__law_take (hr.mono (by decide)) tk rfl (pda_cons (pd_var (pv 0)) (pda_cons (pd_lend (pd_var (pv 2))) (pda_nil))))) (pd_var (pv 5)) (pd_var (pv 4)))
  (pds_one (pds_expr (pd_bm PySem.F.plainAttrs_list PySem.F.slot_list_append PySem.F.type_list_append mt_append o_append (pd_var (pv 3)) (pda_cons (pd_frz (pd_var (pv 5))) (pda_nil))))))))
  (pds_one (pds_ret (pd_var (pv 3)))))
abbrev s__law_value:Stmt:=topOf PySem.Challenge.pw_talkmeans_k05_numbers_that_are_refused 35
abbrev N__law_value:List Str:=["_law_box_here","_law_upper"]
abbrev P__law_value:List Str:=["_law_box_here"]
theorem ok__law_value {P:Program} {w:World} {K:PySem.W.Frag} {mg:Str→Option Value} {base:Heap} {C:Cl} {f:Addr} {fd:FuncData} (F0:Fun K "_law_value" "_law_value" s__law_value f fd) (mf:mg "_law_value" = some (.ref f))
  (h__law_pick:DefOk P w K mg base C 2 "_law_pick" P__law_pick F__law_pick)
  (h__law_take:DefOk P w K mg base C 1 "_law_take" P__law_take F__law_take):DefOk P w K mg base C 3 "_law_value" P__law_value F__law_value_v2:=by
 have sc:FnScope N__law_value P__law_value (defScope s__law_value):=⟨rfl,rfl,rfl,by decide +kernel,rfl,by decide +kernel,by decide +kernel⟩
 refine ⟨⟨f,fd,def_ok (N:=N__law_value) (ps:=P__law_value) (g:=g__law_value_v2) F0 sc rfl fun cdv A outer s H E B hr hn=>?_,F0.binds fun _ _ _ _ _ _ us hl=>match us,hl with | [_],_=>rfl,F0.kp,mf⟩⟩
 have tk:=takes_of (X:=(cxOf (L2.CX P w) P w K mg base N__law_value "_law_value" (defScope s__law_value) f cdv A outer s H E)) rfl rfl rfl rfl
 have hp:=passes_of (X:=(cxOf (L2.CX P w) P w K mg base N__law_value "_law_value" (defScope s__law_value) f cdv A outer s H E)) rfl
 have hu:=hr.units
 exact pds_cons (pds_set (i:=1) (np:=1) hn sc.nd rfl (.inl rfl) (pd_fn h__law_pick (hr.mono (by decide)) tk rfl (pda_cons (pd_var (pv 0)) (pda_cons (pd_lend (pd_lst (pda_cons (pd_bin op_sub o_sub (pd_fn h__law_take (hr.mono (by decide)) tk rfl (pda_cons (pd_var (pv 0)) (pda_cons (pd_int) (pda_nil)))) (pd_int)) (pda_cons (pd_int) (pda_cons (pd_int) (pda_cons (pd_bin op_sub o_sub (pd_fn h__law_take (hr.mono (by decide)) tk rfl (pda_cons (pd_var (pv 0)) (pda_cons (pd_int) (pda_nil)))) (pd_int)) (pda_nil))))))) (pda_nil)))))
  (pds_one (pds_ret (pd_if (pdt_cmp (op_eqA hu) o_eq (pd_fn h__law_take (hr.mono (by decide)) tk rfl (pda_cons (pd_var (pv 0)) (pda_cons (pd_int) (pda_nil)))) (pd_int) (nomark _)) (pd_var (pv 1)) (pd_tup (pda_cons (pd_frz (pd_var (pv 1))) (pda_cons (pd_frz (pd_bin op_addA o_add (pd_int) (pd_fn h__law_take (hr.mono (by decide)) tk rfl (pda_cons (pd_var (pv 0)) (pda_cons (pd_int) (pda_nil)))))) (pda_nil)))))))
abbrev s_is_pair:Stmt:=topOf PySem.Challenge.pw_talkmeans_k05_numbers_that_are_refused 12
abbrev N_is_pair:List Str:=["value"]
abbrev P_is_pair:List Str:=["value"]
theorem ok_is_pair {P:Program} {w:World} {K:PySem.W.Frag} {mg:Str→Option Value} {base:Heap} {C:Cl} {f:Addr} {fd:FuncData} (F0:Fun K "is_pair" "is_pair" s_is_pair f fd) (mf:mg "is_pair" = some (.ref f))
  (m_isinstance:mg "isinstance" = none)
  (m_tuple:mg "tuple" = none)
  (m_len:mg "len" = none):DefOk P w K mg base C 1 "is_pair" P_is_pair F_is_pair:=by
 have sc:FnScope N_is_pair P_is_pair (defScope s_is_pair):=⟨rfl,rfl,rfl,by decide +kernel,rfl,by decide +kernel,by decide +kernel⟩
 refine ⟨⟨f,fd,def_ok (N:=N_is_pair) (ps:=P_is_pair) (g:=g_is_pair) F0 sc rfl fun cdv A outer s H E B hr hn=>?_,F0.binds fun _ _ _ _ _ _ us hl=>match us,hl with | [_],_=>rfl,F0.kp,mf⟩⟩
 have tk:=takes_of (X:=(cxOf (L2.CX P w) P w K mg base N_is_pair "is_pair" (defScope s_is_pair) f cdv A outer s H E)) rfl rfl rfl rfl
 have hp:=passes_of (X:=(cxOf (L2.CX P w) P w K mg base N_is_pair "is_pair" (defScope s_is_pair) f cdv A outer s H E)) rfl
 have hu:=hr.units
 exact pds_one (pds_ret (pd_and (pd_callB call_isi o_isi (by rfl) m_isinstance (by decide +kernel) (pda_cons (pd_var (pv 0)) (pda_cons (pd_ty rfl m_tuple (by decide +kernel)) (pda_nil)))) (pd_one (pd_cmp (op_eqA hu) o_eq (pd_callB call_len o_len (by rfl) m_len (by decide +kernel) (pda_cons (pd_var (pv 0)) (pda_nil))) (pd_int) (nomark _)))))
abbrev s_is_value:Stmt:=topOf PySem.Challenge.pw_talkmeans_k05_numbers_that_are_refused 13
abbrev N_is_value:List Str:=["value"]
abbrev P_is_value:List Str:=["value"]
theorem ok_is_value {P:Program} {w:World} {K:PySem.W.Frag} {mg:Str→Option Value} {base:Heap} {C:Cl} {f:Addr} {fd:FuncData} (F0:Fun K "is_value" "is_value" s_is_value f fd) (mf:mg "is_value" = some (.ref f))
  (h_is_pair:DefOk P w K mg base C 1 "is_pair" P_is_pair F_is_pair)
  (h_is_int:DefOk P w K mg base C 1 "is_int" P_is_int F_is_int):DefOk P w K mg base C 2 "is_value" P_is_value F_is_value:=by
 have sc:FnScope N_is_value P_is_value (defScope s_is_value):=⟨rfl,rfl,rfl,by decide +kernel,rfl,by decide +kernel,by decide +kernel⟩
 refine ⟨⟨f,fd,def_ok (N:=N_is_value) (ps:=P_is_value) (g:=g_is_value) F0 sc rfl fun cdv A outer s H E B hr hn=>?_,F0.binds fun _ _ _ _ _ _ us hl=>match us,hl with | [_],_=>rfl,F0.kp,mf⟩⟩
 have tk:=takes_of (X:=(cxOf (L2.CX P w) P w K mg base N_is_value "is_value" (defScope s_is_value) f cdv A outer s H E)) rfl rfl rfl rfl
 have hp:=passes_of (X:=(cxOf (L2.CX P w) P w K mg base N_is_value "is_value" (defScope s_is_value) f cdv A outer s H E)) rfl
 have hu:=hr.units
 exact pds_cons (pds_if (pdt_val (pd_fn h_is_pair (hr.mono (by decide)) tk rfl (pda_cons (pd_lend (pd_var (pv 0))) (pda_nil))))
   (pds_one (pds_ret (pd_and (pd_fn h_is_int (hr.mono (by decide)) tk rfl (pda_cons (pd_ixR ix_seq o_ix (pd_var (pv 0)) (pd_int) (fun _ _=>rfl)) (pda_nil))) (pd_and (pd_fn h_is_int (hr.mono (by decide)) tk rfl (pda_cons (pd_ixR ix_seq o_ix (pd_var (pv 0)) (pd_int) (fun _ _=>rfl)) (pda_nil))) (pd_one (pd_cmp op_ge o_ge (pd_ixR ix_seq o_ix (pd_var (pv 0)) (pd_int) (fun _ _=>rfl)) (pd_int) (nomark _)))))))
   (pds_nil))
  (pds_one (pds_ret (pd_fn h_is_int (hr.mono (by decide)) tk rfl (pda_cons (pd_lend (pd_var (pv 0))) (pda_nil)))))
abbrev s_lowest:Stmt:=topOf PySem.Challenge.pw_talkmeans_k05_numbers_that_are_refused 16
abbrev N_lowest:List Str:=["top","bottom","divisor"]
abbrev P_lowest:List Str:=["top","bottom"]
theorem ok_lowest {P:Program} {w:World} {K:PySem.W.Frag} {mg:Str→Option Value} {base:Heap} {C:Cl} {f:Addr} {fd:FuncData} (F0:Fun K "lowest" "lowest" s_lowest f fd) (mf:mg "lowest" = some (.ref f))
  (m_gcd:mg "gcd" = some (.builtin "math.gcd")):DefOk P w K mg base C 1 "lowest" P_lowest F_lowest:=by
 have sc:FnScope N_lowest P_lowest (defScope s_lowest):=⟨rfl,rfl,rfl,by decide +kernel,rfl,by decide +kernel,by decide +kernel⟩
 refine ⟨⟨f,fd,def_ok (N:=N_lowest) (ps:=P_lowest) (g:=g_lowest) F0 sc rfl fun cdv A outer s H E B hr hn=>?_,F0.binds fun _ _ _ _ _ _ us hl=>match us,hl with | [_,_],_=>rfl,F0.kp,mf⟩⟩
 have tk:=takes_of (X:=(cxOf (L2.CX P w) P w K mg base N_lowest "lowest" (defScope s_lowest) f cdv A outer s H E)) rfl rfl rfl rfl
 have hp:=passes_of (X:=(cxOf (L2.CX P w) P w K mg base N_lowest "lowest" (defScope s_lowest) f cdv A outer s H E)) rfl
 have hu:=hr.units
 exact pds_cons (pds_set (i:=2) (np:=2) hn sc.nd rfl (.inl rfl) (pd_callM cr_gcd o_gcd rfl m_gcd (pda_cons (pd_var (pv 0)) (pda_cons (pd_var (pv 1)) (pda_nil)))))
  (pds_one (pds_ret (pd_tup (pda_cons (pd_bin op_fdivW o_fdiv (pd_var (pv 0)) (pd_var (pv 2))) (pda_cons (pd_bin op_fdivW o_fdiv (pd_var (pv 1)) (pd_var (pv 2))) (pda_nil))))))
abbrev s_as_pair:Stmt:=topOf PySem.Challenge.pw_talkmeans_k05_numbers_that_are_refused 17
abbrev N_as_pair:List Str:=["value"]
abbrev P_as_pair:List Str:=["value"]
theorem ok_as_pair {P:Program} {w:World} {K:PySem.W.Frag} {mg:Str→Option Value} {base:Heap} {C:Cl} {f:Addr} {fd:FuncData} (F0:Fun K "as_pair" "as_pair" s_as_pair f fd) (mf:mg "as_pair" = some (.ref f))
  (h_is_pair:DefOk P w K mg base C 1 "is_pair" P_is_pair F_is_pair)
  (h_lowest:DefOk P w K mg base C 1 "lowest" P_lowest F_lowest):DefOk P w K mg base C 2 "as_pair" P_as_pair F_as_pair:=by
 have sc:FnScope N_as_pair P_as_pair (defScope s_as_pair):=⟨rfl,rfl,rfl,by decide +kernel,rfl,by decide +kernel,by decide +kernel⟩
 refine ⟨⟨f,fd,def_ok (N:=N_as_pair) (ps:=P_as_pair) (g:=g_as_pair) F0 sc rfl fun cdv A outer s H E B hr hn=>?_,F0.binds fun _ _ _ _ _ _ us hl=>match us,hl with | [_],_=>rfl,F0.kp,mf⟩⟩
 have tk:=takes_of (X:=(cxOf (L2.CX P w) P w K mg base N_as_pair "as_pair" (defScope s_as_pair) f cdv A outer s H E)) rfl rfl rfl rfl
 have hp:=passes_of (X:=(cxOf (L2.CX P w) P w K mg base N_as_pair "as_pair" (defScope s_as_pair) f cdv A outer s H E)) rfl
 have hu:=hr.units
 exact pds_cons (pds_if (pdt_val (pd_fn h_is_pair (hr.mono (by decide)) tk rfl (pda_cons (pd_lend (pd_var (pv 0))) (pda_nil))))
   (pds_one (pds_ret (pd_fn h_lowest (hr.mono (by decide)) tk rfl (pda_cons (pd_ixR ix_seq o_ix (pd_var (pv 0)) (pd_int) (fun _ _=>rfl)) (pda_cons (pd_ixR ix_seq o_ix (pd_var (pv 0)) (pd_int) (fun _ _=>rfl)) (pda_nil))))))
   (pds_nil))
  (pds_one (pds_ret (pd_tup (pda_cons (pd_frz (pd_var (pv 0))) (pda_cons (pd_int) (pda_nil))))))
abbrev s_checked_numbers:Stmt:=topOf PySem.Challenge.pw_talkmeans_k05_numbers_that_are_refused 18
abbrev N_checked_numbers:List Str:=["numbers","people","at","value"]
abbrev P_checked_numbers:List Str:=["numbers","people"]
theorem ok_checked_numbers {P:Program} {w:World} {K:PySem.W.Frag} {mg:Str→Option Value} {base:Heap} {C:Cl} {f:Addr} {fd:FuncData} (F0:Fun K "checked_numbers" "checked_numbers" s_checked_numbers f fd) (mf:mg "checked_numbers" = some (.ref f))
  (h_is_sequence:DefOk P w K mg base C 1 "is_sequence" P_is_sequence F_is_sequence)
  (m_len:mg "len" = none)
  (rs_InvalidNumbers:RaiseOk P w K mg base C 1 "InvalidNumbers" 5 "at")
  (m_enumerate:mg "enumerate" = none)
  (h_is_value:DefOk P w K mg base C 2 "is_value" P_is_value F_is_value)
  (m_tuple:mg "tuple" = none)
  (h_as_pair:DefOk P w K mg base C 2 "as_pair" P_as_pair F_as_pair):DefOk P w K mg base C 3 "checked_numbers" P_checked_numbers F_checked_numbers:=by
 have sc:FnScope N_checked_numbers P_checked_numbers (defScope s_checked_numbers):=⟨rfl,rfl,rfl,by decide +kernel,rfl,by decide +kernel,by decide +kernel⟩
 refine ⟨⟨f,fd,def_ok (N:=N_checked_numbers) (ps:=P_checked_numbers) (g:=g_checked_numbers) F0 sc rfl fun cdv A outer s H E B hr hn=>?_,F0.binds fun _ _ _ _ _ _ us hl=>match us,hl with | [_,_],_=>rfl,F0.kp,mf⟩⟩
 have tk:=takes_of (X:=(cxOf (L2.CX P w) P w K mg base N_checked_numbers "checked_numbers" (defScope s_checked_numbers) f cdv A outer s H E)) rfl rfl rfl rfl
 have hp:=passes_of (X:=(cxOf (L2.CX P w) P w K mg base N_checked_numbers "checked_numbers" (defScope s_checked_numbers) f cdv A outer s H E)) rfl
 have hu:=hr.units
 exact pds_cons (pds_if (pdt_w (pdw_or (pdt_not (pdt_val (pd_fn h_is_sequence (hr.mono (by decide)) tk rfl (pda_cons (pd_lend (pd_var (pv 0))) (pda_nil))))) (pdw_one_or (pdt_cmp (op_neA hu) o_ne (pd_callB call_len o_len (by rfl) m_len (by decide +kernel) (pda_cons (pd_var (pv 0)) (pda_nil))) (pd_var (pv 1)) (nomark _)))))
   (pds_one (pds_raise1 rs_InvalidNumbers rfl (hr.mono (by decide)) tk rfl (pd_int)))
   (pds_nil))
  (pds_cons (pds_for (js:=[2,3]) hp rfl (pdi_enum (by rfl) m_enumerate (pd_var (pv 0))) (pdg_tup rfl (pdgs_cons (pg_name (i:=2) sc.nd rfl (.inl rfl)) (pdgs_cons (pg_name (i:=3) sc.nd rfl (.inl rfl)) (pdgs_nil))))
   (pds_one (pds_if (pdt_not (pdt_val (pd_fn h_is_value (hr.mono (by decide)) tk rfl (pda_cons (pd_lend (pd_var (pv 3))) (pda_nil)))))
   (pds_one (pds_raise1 rs_InvalidNumbers rfl (hr.mono (by decide)) tk rfl (pd_var (pv 2))))
   (pds_nil))))
  (pds_one (pds_ret (pd_callTy call_tuple_of o_tupOf (by rfl) m_tuple (by decide +kernel) (pda_cons (pd_lc (own:=[("value",3)]) (js:=[3]) (by rfl) sc.nd (pdi_seq (pd_var (pv 0))) (blkOk_by (N:=N_checked_numbers) (sc:=defScope s_checked_numbers) (by decide +kernel)) (by decide) (fun _ _ _ _ _=>pdg_name (pg_name (i:=3) sc.nd rfl (.inl rfl))) (fun _ _ _ _ _=>pts_yes) (fun _ _ _ _ _=>pd_fn h_as_pair (hr.mono (by decide)) takes0 rfl (pda_cons (pd_lend (pd_var (pv 3))) (pda_nil)))) (pda_nil))))))
abbrev s_common_multiple:Stmt:=topOf PySem.Challenge.pw_talkmeans_k05_numbers_that_are_refused 15
abbrev N_common_multiple:List Str:=["numbers","multiple","number"]
abbrev P_common_multiple:List Str:=["numbers"]
theorem ok_common_multiple {P:Program} {w:World} {K:PySem.W.Frag} {mg:Str→Option Value} {base:Heap} {C:Cl} {f:Addr} {fd:FuncData} (F0:Fun K "common_multiple" "common_multiple" s_common_multiple f fd) (mf:mg "common_multiple" = some (.ref f))
  (m_lcm:mg "lcm" = some (.builtin "math.lcm")):DefOk P w K mg base C 1 "common_multiple" P_common_multiple F_common_multiple:=by
 have sc:FnScope N_common_multiple P_common_multiple (defScope s_common_multiple):=⟨rfl,rfl,rfl,by decide +kernel,rfl,by decide +kernel,by decide +kernel⟩
 refine ⟨⟨f,fd,def_ok (N:=N_common_multiple) (ps:=P_common_multiple) (g:=g_common_multiple) F0 sc rfl fun cdv A outer s H E B hr hn=>?_,F0.binds fun _ _ _ _ _ _ us hl=>match us,hl with | [_],_=>rfl,F0.kp,mf⟩⟩
 have tk:=takes_of (X:=(cxOf (L2.CX P w) P w K mg base N_common_multiple "common_multiple" (defScope s_common_multiple) f cdv A outer s H E)) rfl rfl rfl rfl
 have hp:=passes_of (X:=(cxOf (L2.CX P w) P w K mg base N_common_multiple "common_multiple" (defScope s_common_multiple) f cdv A outer s H E)) rfl
 have hu:=hr.units
 exact pds_cons (pds_set (i:=1) (np:=1) hn sc.nd rfl (.inl rfl) (pd_int))
  (pds_cons (pds_for (js:=[2]) hp rfl (pdi_seq (pd_var (pv 0))) (pdg_name (pg_name (i:=2) sc.nd rfl (.inl rfl)))
   (pds_one (pds_set (i:=1) (np:=1) hn sc.nd rfl (.inl rfl) (pd_callM cr_lcmL o_lcm rfl m_lcm (pda_cons (pd_var (pv 1)) (pda_cons (pd_var (pv 2)) (pda_nil)))))))
  (pds_one (pds_ret (pd_var (pv 1)))))
abbrev s_even_tops:Stmt:=topOf PySem.Challenge.pw_talkmeans_k05_numbers_that_are_refused 19
abbrev N_even_tops:List Str:=["pairs","bottom","pair"]
abbrev P_even_tops:List Str:=["pairs"]
theorem ok_even_tops {P:Program} {w:World} {K:PySem.W.Frag} {mg:Str→Option Value} {base:Heap} {C:Cl} {f:Addr} {fd:FuncData} (F0:Fun K "even_tops" "even_tops" s_even_tops f fd) (mf:mg "even_tops" = some (.ref f))
  (h_common_multiple:DefOk P w K mg base C 1 "common_multiple" P_common_multiple F_common_multiple):DefOk P w K mg base C 2 "even_tops" P_even_tops F_even_tops:=by
 have sc:FnScope N_even_tops P_even_tops (defScope s_even_tops):=⟨rfl,rfl,rfl,by decide +kernel,rfl,by decide +kernel,by decide +kernel⟩
 refine ⟨⟨f,fd,def_ok (N:=N_even_tops) (ps:=P_even_tops) (g:=g_even_tops) F0 sc rfl fun cdv A outer s H E B hr hn=>?_,F0.binds fun _ _ _ _ _ _ us hl=>match us,hl with | [_],_=>rfl,F0.kp,mf⟩⟩
 have tk:=takes_of (X:=(cxOf (L2.CX P w) P w K mg base N_even_tops "even_tops" (defScope s_even_tops) f cdv A outer s H E)) rfl rfl rfl rfl
 have hp:=passes_of (X:=(cxOf (L2.CX P w) P w K mg base N_even_tops "even_tops" (defScope s_even_tops) f cdv A outer s H E)) rfl
 have hu:=hr.units
 exact pds_cons (pds_set (i:=1) (np:=1) hn sc.nd rfl (.inr rfl) (pd_fn h_common_multiple (hr.mono (by decide)) tk rfl (pda_cons (pd_lend (pd_lc (own:=[("pair",2)]) (js:=[2]) (by rfl) sc.nd (pdi_seq (pd_var (pv 0))) (blkOk_by (N:=N_even_tops) (sc:=defScope s_even_tops) (by decide +kernel)) (by decide) (fun _ _ _ _ _=>pdg_name (pg_name (i:=2) sc.nd rfl (.inl rfl))) (fun _ _ _ _ _=>pts_yes) (fun _ _ _ _ _=>pd_ixR ix_seq o_ix (pd_var (pv 2)) (pd_int) (fun _ _=>rfl)))) (pda_nil))))
  (pds_one (pds_ret (pd_tup (pda_cons (pd_frz (pd_lc (own:=[("pair",2)]) (js:=[2]) (by rfl) sc.nd (pdi_seq (pd_var (pv 0))) (blkOk_by (N:=N_even_tops) (sc:=defScope s_even_tops) (by decide +kernel)) (by decide) (fun _ _ _ _ _=>pdg_name (pg_name (i:=2) sc.nd rfl (.inl rfl))) (fun _ _ _ _ _=>pts_yes) (fun _ _ _ _ _=>pd_bin op_mulA o_mul (pd_ixR ix_seq o_ix (pd_var (pv 2)) (pd_int) (fun _ _=>rfl)) (pd_bin op_fdivW o_fdiv (pd_var (pv 1)) (pd_ixR ix_seq o_ix (pd_var (pv 2)) (pd_int) (fun _ _=>rfl)))))) (pda_cons (pd_frz (pd_var (pv 1))) (pda_nil))))))
abbrev s_means:Stmt:=topOf PySem.Challenge.pw_talkmeans_k05_numbers_that_are_refused 20
abbrev N_means:List Str:=["rows","pairs","tops","bottom","totals","row","total","weight","top"]
abbrev P_means:List Str:=["rows","pairs"]
theorem ok_means {P:Program} {w:World} {K:PySem.W.Frag} {mg:Str→Option Value} {base:Heap} {C:Cl} {f:Addr} {fd:FuncData} (F0:Fun K "means" "means" s_means f fd) (mf:mg "means" = some (.ref f))
  (h_even_tops:DefOk P w K mg base C 2 "even_tops" P_even_tops F_even_tops)
  (m_sum:mg "sum" = none)
  (m_zip:mg "zip" = none)
  (m_tuple:mg "tuple" = none)
  (h_lowest:DefOk P w K mg base C 1 "lowest" P_lowest F_lowest):DefOk P w K mg base C 3 "means" P_means F_means:=by
 have sc:FnScope N_means P_means (defScope s_means):=⟨rfl,rfl,rfl,by decide +kernel,rfl,by decide +kernel,by decide +kernel⟩
 refine ⟨⟨f,fd,def_ok (N:=N_means) (ps:=P_means) (g:=g_means) F0 sc rfl fun cdv A outer s H E B hr hn=>?_,F0.binds fun _ _ _ _ _ _ us hl=>match us,hl with | [_,_],_=>rfl,F0.kp,mf⟩⟩
 have tk:=takes_of (X:=(cxOf (L2.CX P w) P w K mg base N_means "means" (defScope s_means) f cdv A outer s H E)) rfl rfl rfl rfl
 have hp:=passes_of (X:=(cxOf (L2.CX P w) P w K mg base N_means "means" (defScope s_means) f cdv A outer s H E)) rfl
 have hu:=hr.units
 exact pds_cons (pds_asg (js:=[2,3]) (pd_fn h_even_tops (hr.mono (by decide)) tk rfl (pda_cons (pd_lend (pd_var (pv 1))) (pda_nil))) (pdg_tup rfl (pdgs_cons (pg_name (i:=2) sc.nd rfl (.inr rfl)) (pdgs_cons (pg_name (i:=3) sc.nd rfl (.inr rfl)) (pdgs_nil)))))
  (pds_cons (pds_setLc (i:=4) (np:=2) (own:=[("row",5)]) (js:=[5]) hn rfl sc.nd rfl rfl (sw_true rfl rfl rfl (by decide +kernel)) (pdi_seq (pd_var (pv 0))) (blkOk_by (N:=N_means) (sc:=defScope s_means) (by decide +kernel)) (by decide) (fun _ _ _ _ _=>pdg_name (pg_name (i:=5) sc.nd rfl (.inl rfl))) (fun _ _ _ _ _=>pts_yes) (fun _ _ _ _ _=>pd_callB (cr_sumE rfl) o_sum (by rfl) m_sum (by decide +kernel) (pda_cons (pd_lc (own:=[("weight",7),("top",8)]) (js:=[7,8]) (by rfl) sc.nd (pdi_zip (by rfl) m_zip (pd_var (pv 5)) (pd_var (pv 2))) (blkOk_by rfl) (by decide) (fun _ _ _ _ _=>pdg_tup rfl (pdgs_cons (pg_name (i:=7) sc.nd rfl (.inl rfl)) (pdgs_cons (pg_name (i:=8) sc.nd rfl (.inl rfl)) (pdgs_nil)))) (fun _ _ _ _ _=>pts_yes) (fun _ _ _ _ _=>pd_bin op_mulA o_mul (pd_var (pv 7)) (pd_var (pv 8)))) (pda_nil))))
  (pds_one (pds_ret (pd_callTy call_tuple_of o_tupOf (by rfl) m_tuple (by decide +kernel) (pda_cons (pd_lc (own:=[("total",6),("row",5)]) (js:=[6,5]) (by rfl) sc.nd (pdi_zip (by rfl) m_zip (pd_var (pv 4)) (pd_var (pv 0))) (blkOk_by (N:=N_means) (sc:=defScope s_means) (by decide +kernel)) (by decide) (fun _ _ _ _ _=>pdg_tup rfl (pdgs_cons (pg_name (i:=6) sc.nd rfl (.inl rfl)) (pdgs_cons (pg_name (i:=5) sc.nd rfl (.inl rfl)) (pdgs_nil)))) (fun _ _ _ _ _=>pts_yes) (fun _ _ _ _ _=>pd_fn h_lowest (hr.mono (by decide)) takes0 rfl (pda_cons (pd_lend (pd_var (pv 6))) (pda_cons (pd_lend (pd_bin op_mulA o_mul (pd_var (pv 3)) (pd_callB (cr_sumE rfl) o_sum (by rfl) m_sum (by decide +kernel) (pda_cons (pd_var (pv 5)) (pda_nil))))) (pda_nil))))) (pda_nil))))))
abbrev s_Talk_led:Stmt:=inClass (topOf PySem.Challenge.pw_talkmeans_k05_numbers_that_are_refused 23) 3
abbrev N_Talk_led:List Str:=["self","numbers","pairs"]
abbrev P_Talk_led:List Str:=["self","numbers"]
theorem ok_Talk_led {P:Program} {w:World} {K:PySem.W.Frag} {mg:Str→Option Value} {base:Heap} {C:Cl} {f:Addr} {fd:FuncData} (F0:Fun K "led" "Talk.led" s_Talk_led f fd)
  (h_checked_numbers:DefOk P w K mg base C 3 "checked_numbers" P_checked_numbers F_checked_numbers)
  (m_len:mg "len" = none)
  (fl_rows:FldOk K C att "rows")
  (h_means:DefOk P w K mg base C 3 "means" P_means F_means):FOk P w K mg base C 4 f P_Talk_led F_Talk_led:=by
 have sc:FnScope N_Talk_led P_Talk_led (defScope s_Talk_led):=⟨rfl,rfl,rfl,by decide +kernel,rfl,by decide +kernel,by decide +kernel⟩
 refine ⟨⟨fd,def_ok (N:=N_Talk_led) (ps:=P_Talk_led) (g:=g_Talk_led) F0 sc rfl fun cdv A outer s H E B hr hn=>?_,F0.binds fun _ _ _ _ _ _ us hl=>match us,hl with | [_,_],_=>rfl⟩⟩
 have tk:=takes_of (X:=(cxOf (L2.CX P w) P w K mg base N_Talk_led "Talk.led" (defScope s_Talk_led) f cdv A outer s H E)) rfl rfl rfl rfl
 have hp:=passes_of (X:=(cxOf (L2.CX P w) P w K mg base N_Talk_led "Talk.led" (defScope s_Talk_led) f cdv A outer s H E)) rfl
 have hu:=hr.units
 exact pds_cons (pds_set (i:=2) (np:=2) hn sc.nd rfl (.inl rfl) (pd_fn h_checked_numbers (hr.mono (by decide)) tk rfl (pda_cons (pd_lend (pd_var (pv 1))) (pda_cons (pd_callB call_len o_len (by rfl) m_len (by decide +kernel) (pda_cons (pd_fld fl_rows (pd_var (pv 0))) (pda_nil))) (pda_nil)))))
  (pds_one (pds_ret (pd_fn h_means (hr.mono (by decide)) tk rfl (pda_cons (pd_fld fl_rows (pd_var (pv 0))) (pda_cons (pd_lend (pd_var (pv 2))) (pda_nil))))))
abbrev s__law_refused:Stmt:=topOf PySem.Challenge.pw_talkmeans_k05_numbers_that_are_refused 41
abbrev N__law_refused:List Str:=["_law_talk","_law_numbers","_law_found","e"]
abbrev P__law_refused:List Str:=["_law_talk","_law_numbers"]
theorem ok__law_refused {P:Program} {w:World} {K:PySem.W.Frag} {mg:Str→Option Value} {base:Heap} {C:Cl} {f:Addr} {fd:FuncData} (F0:Fun K "_law_refused" "_law_refused" s__law_refused f fd) (mf:mg "_law_refused" = some (.ref f))
  (mh_led_T:MethOk P w K mg base C 4 "led" mt_led_T)
  (m_InvalidNumbers:mg "InvalidNumbers" = some (.ref (C.adr 5)))
  (ex1_InvalidNumbers:PySem.W.exmOne K (.ref (C.adr 5)) (.ref (C.adr 5))=some true)
  (xf_InvalidNumbers:XfC K (C.adr 5))
  (m_isinstance:mg "isinstance" = none)
  (kit_InvalidNumbers_TalkError:PySem.W.kitOne K (.ref (C.adr 5)) (.ref (C.adr 0))=some true)
  (kit_InvalidNumbers_InvalidTalk:PySem.W.kitOne K (.ref (C.adr 5)) (.ref (C.adr 1))=some false)
  (no_InvalidNumbers_at:PySem.W.findIn K (.ref (C.adr 5)) "at" = some none)
  (ec_InvalidNumbers:ExcC K (C.adr 5))
  (m_TalkError:mg "TalkError" = some (.ref (C.adr 0)))
  (m_InvalidTalk:mg "InvalidTalk" = some (.ref (C.adr 1))):DefOk P w K mg base C 5 "_law_refused" P__law_refused F__law_refused_v2:=by
 have sc:FnScope N__law_refused P__law_refused (defScope s__law_refused):=⟨rfl,rfl,rfl,by decide +kernel,rfl,by decide +kernel,by decide +kernel⟩
 refine ⟨⟨f,fd,def_ok (N:=N__law_refused) (ps:=P__law_refused) (g:=g__law_refused_v2) F0 sc rfl fun cdv A outer s H E B hr hn=>?_,F0.binds fun _ _ _ _ _ _ us hl=>match us,hl with | [_,_],_=>rfl,F0.kp,mf⟩⟩
 have tk:=takes_of (X:=(cxOf (L2.CX P w) P w K mg base N__law_refused "_law_refused" (defScope s__law_refused) f cdv A outer s H E)) rfl rfl rfl rfl
 have hp:=passes_of (X:=(cxOf (L2.CX P w) P w K mg base N__law_refused "_law_refused" (defScope s__law_refused) f cdv A outer s H E)) rfl
 have hu:=hr.units
 exact pds_cons (pds_set (i:=2) (np:=2) hn sc.nd rfl (.inl rfl) (pd_non))
  (pds_cons (pds_tryAs (i:=3) rfl rfl tk ⟨rfl,by decide,.inl m_InvalidNumbers⟩ ex1_InvalidNumbers sc.nd rfl rfl rfl (fun W pn xe tk hp=>pds_one (pds_expr (pd_mth mh_led_T (hr.mono (by decide)) tk (pd_var (pv 0)) (pda_cons (pd_lend (pd_var (pv 1))) (pda_nil))))) (fun a oe cls d pn hz hf=>pdx_set (j:=2) (np:=2) hn sc.nd rfl (.inl rfl) (pdx_if2 (i:=3) ec_InvalidNumbers hz hf (fun _=>pv 3) (by rfl) m_isinstance (by rfl) m_TalkError (by rfl) (by rfl) m_InvalidTalk (by rfl) kit_InvalidNumbers_TalkError kit_InvalidNumbers_InvalidTalk (pdx_at (i:=3) xf_InvalidNumbers no_InvalidNumbers_at hz hf (pv 3)) pe_str) rfl (.inr rfl)))
  (pds_one (pds_ret (pd_var (pv 2)))))
abbrev s__law_any:Stmt:=topOf PySem.Challenge.pw_talkmeans_k05_numbers_that_are_refused 36
abbrev N__law_any:List Str:=["_law_box_here","_law_deep_here","_law_form","_law_some","_law_words","_law_plain","_law_k"]
abbrev P__law_any:List Str:=["_law_box_here","_law_deep_here"]
theorem ok__law_any {P:Program} {w:World} {K:PySem.W.Frag} {mg:Str→Option Value} {base:Heap} {C:Cl} {f:Addr} {fd:FuncData} (F0:Fun K "_law_any" "_law_any" s__law_any f fd) (mf:mg "_law_any" = some (.ref f))
  (h__law_take:DefOk P w K mg base C 1 "_law_take" P__law_take F__law_take)
  (m_range:mg "range" = none)
  (m_tuple:mg "tuple" = none)
  (h__law_pick:DefOk P w K mg base C 2 "_law_pick" P__law_pick F__law_pick):DefOk P w K mg base C 7 "_law_any" P__law_any F__law_any_v2:=by
 have sc:FnScope N__law_any P__law_any (defScope s__law_any):=⟨rfl,rfl,rfl,by decide +kernel,rfl,by decide +kernel,by decide +kernel⟩
 have hb:Binds K fd P__law_any []:=F0.binds fun _ _ _ _ _ _ us hl=>match us,hl with | [_,_],_=>rfl
 refine deep_ok (L0:=2) (S:=S__law_any_v2) (defOk_none F0 hb mf) (fun j R hR=>?_) 5
 refine ⟨f,fd,def_ok (N:=N__law_any) (ps:=P__law_any) (g:=g__law_any_v2 R) F0 sc rfl fun cdv A outer s H E B hr hn=>?_,hb,F0.kp,mf⟩
 have tk:=takes_of (X:=(cxOf (L2.CX P w) P w K mg base N__law_any "_law_any" (defScope s__law_any) f cdv A outer s H E)) rfl rfl rfl rfl
 have hp:=passes_of (X:=(cxOf (L2.CX P w) P w K mg base N__law_any "_law_any" (defScope s__law_any) f cdv A outer s H E)) rfl
 have hu:=hr.units
 exact pds_cons (pds_set (i:=2) (np:=2) hn sc.nd rfl (.inl rfl) (pd_fn h__law_take (hr.mono (by omega)) tk rfl (pda_cons (pd_var (pv 0)) (pda_cons (pd_int) (pda_nil)))))
  (pds_cons (pds_if (pdt_w (pdw_and (pdt_cmp op_lt o_lt (pd_var (pv 2)) (pd_int) (nomark _)) (pdw_one_and (pdt_cmp op_gt o_gt (pd_var (pv 1)) (pd_int) (nomark _)))))
   (pds_cons (pds_setLc (i:=3) (np:=2) (own:=[("_law_k",6)]) (js:=[6]) hn rfl sc.nd rfl rfl (sw_true rfl rfl rfl (by decide +kernel)) (pdi_range1 (by rfl) m_range (pd_fn h__law_take (hr.mono (by omega)) tk rfl (pda_cons (pd_var (pv 0)) (pda_cons (pd_int) (pda_nil))))) (blkOk_by (N:=N__law_any) (sc:=defScope s__law_any) (by decide +kernel)) (by decide) (fun _ _ _ _ _=>pdg_name (pg_name (i:=6) sc.nd rfl (.inl rfl))) (fun _ _ _ _ _=>pts_yes) (fun _ _ _ _ _=>pd_fn hR (hr.mono (by omega)) takes0 rfl (pda_cons (pd_var (pv 0)) (pda_cons (pd_bin op_sub o_sub (pd_var (pv 1)) (pd_int)) (pda_nil)))))
  (pds_one (pds_ret (pd_if (pdt_cmp op_lt o_lt (pd_var (pv 2)) (pd_int) (nomark _)) (pd_var (pv 3)) (pd_callTy call_tuple_of o_tupOf (by rfl) m_tuple (by decide +kernel) (pda_cons (pd_var (pv 3)) (pda_nil)))))))
   (pds_nil))
  (pds_cons (pds_set (i:=4) (np:=2) hn sc.nd rfl (.inl rfl) (pd_lst (pda_cons (pd_str) (pda_cons (pd_str) (pda_cons (pd_str) (pda_cons (pd_str) (pda_cons (pd_str) (pda_cons (pd_str) (pda_cons (pd_str) (pda_cons (pd_str) (pda_cons (pd_str) (pda_cons (pd_str) (pda_cons (pd_str) (pda_cons (pd_str) (pda_nil)))))))))))))))
  (pds_cons (pds_set (i:=5) (np:=2) hn sc.nd rfl (.inl rfl) (pd_lst (pda_cons (pd_non) (pda_cons (pd_bl) (pda_cons (pd_bl) (pda_cons (pd_int) (pda_cons (pd_int) (pda_cons (pd_int) (pda_cons (pd_bin op_sub o_sub (pd_int) (pd_int)) (pda_cons (pd_bin op_sub o_sub (pd_bin op_pow o_pow (pd_int) (pd_int)) (pd_int)) (pda_cons (pd_frz (pd_lst (pda_cons (pd_int) (pda_nil)))) (pda_cons (pd_tup (pda_cons (pd_int) (pda_cons (pd_int) (pda_nil)))) (pda_cons (pd_tup (pda_cons (pd_int) (pda_cons (pd_int) (pda_nil)))) (pda_cons (pd_frz (pd_lst (pda_cons (pd_int) (pda_cons (pd_int) (pda_nil))))) (pda_nil)))))))))))))))
  (pds_one (pds_ret (pd_if (pdt_cmp op_lt o_lt (pd_var (pv 2)) (pd_int) (nomark _)) (pd_fn h__law_pick (hr.mono (by omega)) tk rfl (pda_cons (pd_var (pv 0)) (pda_cons (pd_lend (pd_var (pv 4))) (pda_nil)))) (pd_fn h__law_pick (hr.mono (by omega)) tk rfl (pda_cons (pd_var (pv 0)) (pda_cons (pd_lend (pd_var (pv 5))) (pda_nil))))))))))
abbrev s__law_deep:Stmt:=topOf PySem.Challenge.pw_talkmeans_k05_numbers_that_are_refused 37
abbrev N__law_deep:List Str:=["_law_box_here","_law_found","_law_turn"]
abbrev P__law_deep:List Str:=["_law_box_here"]
theorem ok__law_deep {P:Program} {w:World} {K:PySem.W.Frag} {mg:Str→Option Value} {base:Heap} {C:Cl} {f:Addr} {fd:FuncData} (F0:Fun K "_law_deep" "_law_deep" s__law_deep f fd) (mf:mg "_law_deep" = some (.ref f))
  (h__law_any:DefOk P w K mg base C 7 "_law_any" P__law_any F__law_any_v2)
  (m_isinstance:mg "isinstance" = none)
  (m_list:mg "list" = none)
  (m_tuple:mg "tuple" = none)
  (m_range:mg "range" = none)
  (h__law_take:DefOk P w K mg base C 1 "_law_take" P__law_take F__law_take):DefOk P w K mg base C 8 "_law_deep" P__law_deep F__law_deep:=by
 have sc:FnScope N__law_deep P__law_deep (defScope s__law_deep):=⟨rfl,rfl,rfl,by decide +kernel,rfl,by decide +kernel,by decide +kernel⟩
 refine ⟨⟨f,fd,def_ok (N:=N__law_deep) (ps:=P__law_deep) (g:=g__law_deep) F0 sc rfl fun cdv A outer s H E B hr hn=>?_,F0.binds fun _ _ _ _ _ _ us hl=>match us,hl with | [_],_=>rfl,F0.kp,mf⟩⟩
 have tk:=takes_of (X:=(cxOf (L2.CX P w) P w K mg base N__law_deep "_law_deep" (defScope s__law_deep) f cdv A outer s H E)) rfl rfl rfl rfl
 have hp:=passes_of (X:=(cxOf (L2.CX P w) P w K mg base N__law_deep "_law_deep" (defScope s__law_deep) f cdv A outer s H E)) rfl
 have hu:=hr.units
 exact pds_cons (pds_set (i:=1) (np:=1) hn sc.nd rfl (.inl rfl) (pd_fn h__law_any (hr.mono (by decide)) tk rfl (pda_cons (pd_var (pv 0)) (pda_cons (pd_int) (pda_nil)))))
  (pds_cons (pds_set (i:=1) (np:=1) hn sc.nd rfl (.inl rfl) (pd_if (pdt_val (pd_isi2 (m := "list") (m' := "tuple") rfl m_isinstance rfl m_list (by decide +kernel) rfl m_tuple (by decide +kernel) (pd_var (pv 1)))) (pd_int) (pd_var (pv 1))))
  (pds_cons (pds_for (js:=[2]) hp rfl (pdi_range1 (by rfl) m_range (pd_int)) (pdg_name (pg_name (i:=2) sc.nd rfl (.inl rfl)))
   (pds_one (pds_set (i:=1) (np:=1) hn sc.nd rfl (.inl rfl) (pd_if (pdt_cmp (op_eqA hu) o_eq (pd_fn h__law_take (hr.mono (by decide)) tk rfl (pda_cons (pd_var (pv 0)) (pda_cons (pd_int) (pda_nil)))) (pd_int) (nomark _)) (pd_lst (pda_cons (pd_frz (pd_var (pv 1))) (pda_nil))) (pd_tup (pda_cons (pd_frz (pd_var (pv 1))) (pda_nil)))))))
  (pds_one (pds_ret (pd_var (pv 1))))))
abbrev s__law_is_whole:Stmt:=topOf PySem.Challenge.pw_talkmeans_k05_numbers_that_are_refused 38
abbrev N__law_is_whole:List Str:=["_law_value_here"]
abbrev P__law_is_whole:List Str:=["_law_value_here"]
theorem ok__law_is_whole {P:Program} {w:World} {K:PySem.W.Frag} {mg:Str→Option Value} {base:Heap} {C:Cl} {f:Addr} {fd:FuncData} (F0:Fun K "_law_is_whole" "_law_is_whole" s__law_is_whole f fd) (mf:mg "_law_is_whole" = some (.ref f))
  (m_isinstance:mg "isinstance" = none)
  (m_int:mg "int" = none)
  (m_bool:mg "bool" = none):DefOk P w K mg base C 1 "_law_is_whole" P__law_is_whole F_is_int:=by
 have sc:FnScope N__law_is_whole P__law_is_whole (defScope s__law_is_whole):=⟨rfl,rfl,rfl,by decide +kernel,rfl,by decide +kernel,by decide +kernel⟩
 refine ⟨⟨f,fd,def_ok (N:=N__law_is_whole) (ps:=P__law_is_whole) (g:=g_is_int) F0 sc rfl fun cdv A outer s H E B hr hn=>?_,F0.binds fun _ _ _ _ _ _ us hl=>match us,hl with | [_],_=>rfl,F0.kp,mf⟩⟩
 have tk:=takes_of (X:=(cxOf (L2.CX P w) P w K mg base N__law_is_whole "_law_is_whole" (defScope s__law_is_whole) f cdv A outer s H E)) rfl rfl rfl rfl
 have hp:=passes_of (X:=(cxOf (L2.CX P w) P w K mg base N__law_is_whole "_law_is_whole" (defScope s__law_is_whole) f cdv A outer s H E)) rfl
 have hu:=hr.units
 exact pds_one (pds_ret (pd_and (pd_callB call_isi o_isi (by rfl) m_isinstance (by decide +kernel) (pda_cons (pd_var (pv 0)) (pda_cons (pd_ty rfl m_int (by decide +kernel)) (pda_nil)))) (pd_one (pd_not (pd_callB call_isi o_isi (by rfl) m_isinstance (by decide +kernel) (pda_cons (pd_var (pv 0)) (pda_cons (pd_ty rfl m_bool (by decide +kernel)) (pda_nil))))))))
abbrev s__law_is_value:Stmt:=topOf PySem.Challenge.pw_talkmeans_k05_numbers_that_are_refused 39
abbrev N__law_is_value:List Str:=["_law_value_here"]
abbrev P__law_is_value:List Str:=["_law_value_here"]
theorem ok__law_is_value {P:Program} {w:World} {K:PySem.W.Frag} {mg:Str→Option Value} {base:Heap} {C:Cl} {f:Addr} {fd:FuncData} (F0:Fun K "_law_is_value" "_law_is_value" s__law_is_value f fd) (mf:mg "_law_is_value" = some (.ref f))
  (m_isinstance:mg "isinstance" = none)
  (m_tuple:mg "tuple" = none)
  (h__law_is_whole:DefOk P w K mg base C 1 "_law_is_whole" P__law_is_whole F_is_int)
  (m_len:mg "len" = none):DefOk P w K mg base C 2 "_law_is_value" P__law_is_value F__law_is_value:=by
 have sc:FnScope N__law_is_value P__law_is_value (defScope s__law_is_value):=⟨rfl,rfl,rfl,by decide +kernel,rfl,by decide +kernel,by decide +kernel⟩
 refine ⟨⟨f,fd,def_ok (N:=N__law_is_value) (ps:=P__law_is_value) (g:=g__law_is_value) F0 sc rfl fun cdv A outer s H E B hr hn=>?_,F0.binds fun _ _ _ _ _ _ us hl=>match us,hl with | [_],_=>rfl,F0.kp,mf⟩⟩
 have tk:=takes_of (X:=(cxOf (L2.CX P w) P w K mg base N__law_is_value "_law_is_value" (defScope s__law_is_value) f cdv A outer s H E)) rfl rfl rfl rfl
 have hp:=passes_of (X:=(cxOf (L2.CX P w) P w K mg base N__law_is_value "_law_is_value" (defScope s__law_is_value) f cdv A outer s H E)) rfl
 have hu:=hr.units
 exact pds_cons (pds_if (pdt_not (pdt_val (pd_callB call_isi o_isi (by rfl) m_isinstance (by decide +kernel) (pda_cons (pd_var (pv 0)) (pda_cons (pd_ty rfl m_tuple (by decide +kernel)) (pda_nil))))))
   (pds_one (pds_ret (pd_fn h__law_is_whole (hr.mono (by decide)) tk rfl (pda_cons (pd_lend (pd_var (pv 0))) (pda_nil)))))
   (pds_nil))
  (pds_one (pds_ret (pd_and (pd_cmp (op_eqA hu) o_eq (pd_callB call_len o_len (by rfl) m_len (by decide +kernel) (pda_cons (pd_var (pv 0)) (pda_nil))) (pd_int) (nomark _)) (pd_and (pd_fn h__law_is_whole (hr.mono (by decide)) tk rfl (pda_cons (pd_ixR ix_seq o_ix (pd_var (pv 0)) (pd_int) (fun _ _=>rfl)) (pda_nil))) (pd_and (pd_fn h__law_is_whole (hr.mono (by decide)) tk rfl (pda_cons (pd_ixR ix_seq o_ix (pd_var (pv 0)) (pd_int) (fun _ _=>rfl)) (pda_nil))) (pd_one (pd_cmp op_gt o_gt (pd_ixR ix_seq o_ix (pd_var (pv 0)) (pd_int) (fun _ _=>rfl)) (pd_int) (nomark _))))))))
abbrev s__law_due:Stmt:=topOf PySem.Challenge.pw_talkmeans_k05_numbers_that_are_refused 40
abbrev N__law_due:List Str:=["_law_numbers","_law_people","_law_wrong","_law_spot","_law_one"]
abbrev P__law_due:List Str:=["_law_numbers","_law_people"]
theorem ok__law_due {P:Program} {w:World} {K:PySem.W.Frag} {mg:Str→Option Value} {base:Heap} {C:Cl} {f:Addr} {fd:FuncData} (F0:Fun K "_law_due" "_law_due" s__law_due f fd) (mf:mg "_law_due" = some (.ref f))
  (m_isinstance:mg "isinstance" = none)
  (m_list:mg "list" = none)
  (m_tuple:mg "tuple" = none)
  (m_len:mg "len" = none)
  (m_enumerate:mg "enumerate" = none)
  (h__law_is_value:DefOk P w K mg base C 2 "_law_is_value" P__law_is_value F__law_is_value):DefOk P w K mg base C 3 "_law_due" P__law_due F__law_due:=by
 have sc:FnScope N__law_due P__law_due (defScope s__law_due):=⟨rfl,rfl,rfl,by decide +kernel,rfl,by decide +kernel,by decide +kernel⟩
 refine ⟨⟨f,fd,def_ok (N:=N__law_due) (ps:=P__law_due) (g:=g__law_due) F0 sc rfl fun cdv A outer s H E B hr hn=>?_,F0.binds fun _ _ _ _ _ _ us hl=>match us,hl with | [_,_],_=>rfl,F0.kp,mf⟩⟩
 have tk:=takes_of (X:=(cxOf (L2.CX P w) P w K mg base N__law_due "_law_due" (defScope s__law_due) f cdv A outer s H E)) rfl rfl rfl rfl
 have hp:=passes_of (X:=(cxOf (L2.CX P w) P w K mg base N__law_due "_law_due" (defScope s__law_due) f cdv A outer s H E)) rfl
 have hu:=hr.units
 exact pds_cons (pds_if (pdt_w (pdw_or (pdt_not (pdt_val (pd_isi2 (m := "list") (m' := "tuple") rfl m_isinstance rfl m_list (by decide +kernel) rfl m_tuple (by decide +kernel) (pd_var (pv 0))))) (pdw_one_or (pdt_cmp (op_neA hu) o_ne (pd_callB call_len o_len (by rfl) m_len (by decide +kernel) (pda_cons (pd_var (pv 0)) (pda_nil))) (pd_var (pv 1)) (nomark _)))))
   (pds_one (pds_ret (pd_int)))
   (pds_nil))
  (pds_cons (pds_setLc (i:=2) (np:=2) (own:=[("_law_spot",3),("_law_one",4)]) (js:=[3,4]) hn rfl sc.nd rfl rfl (sw_true rfl rfl rfl (by decide +kernel)) (pdi_enum (by rfl) m_enumerate (pd_var (pv 0))) (blkOk_by (N:=N__law_due) (sc:=defScope s__law_due) (by decide +kernel)) (by decide) (fun _ _ _ _ _=>pdg_tup rfl (pdgs_cons (pg_name (i:=3) sc.nd rfl (.inl rfl)) (pdgs_cons (pg_name (i:=4) sc.nd rfl (.inl rfl)) (pdgs_nil)))) (fun _ _ _ _ _=>pts_one (pdt_not (pdt_val (pd_fn h__law_is_value (hr.mono (by decide)) takes0 rfl (pda_cons (pd_lend (pd_var (pv 4))) (pda_nil)))))) (fun _ _ _ _ _=>pd_var (pv 3)))
  (pds_one (pds_ret (pd_if (pdt_cmp (op_neA hu) o_ne (pd_var (pv 2)) (pd_lst (pda_nil)) (nomark _)) (pd_ixR ix_seq o_ix (pd_var (pv 2)) (pd_int) (fun _ _=>rfl)) (pd_non)))))
abbrev s_law:Stmt:=topOf PySem.Challenge.pw_talkmeans_k05_numbers_that_are_refused 42
abbrev N_law:List Str:=["_law_script","_law_k","_law_box_here","_law_turn","_law_people","_law_made","_law_numbers","_law_more","_law_odd","_law_spot","_law_value_here","_law_i"]
abbrev P_law:List Str:=["_law_script"]
theorem ok_law {P:Program} {w:World} {K:PySem.W.Frag} {mg:Str→Option Value} {base:Heap} {C:Cl} {f:Addr} {fd:FuncData} (F0:Fun K "law" "law" s_law f fd)
  (m_range:mg "range" = none)
  (m_max:mg "max" = none)
  (m_min:mg "min" = none)
  (m_len:mg "len" = none)
  (h__law_box:DefOk P w K mg base C 1 "_law_box" P__law_box F__law_box)
  (h__law_take:DefOk P w K mg base C 1 "_law_take" P__law_take F__law_take)
  (mk_Talk:MakeOk P w K mg base C 5 "Talk" 10 F_Talk___init__ [])
  (h__law_rows:DefOk P w K mg base C 3 "_law_rows" P__law_rows F__law_rows)
  (hA:C.att=att)
  (h__law_value:DefOk P w K mg base C 3 "_law_value" P__law_value F__law_value_v2)
  (h__law_refused:DefOk P w K mg base C 5 "_law_refused" P__law_refused F__law_refused_v2)
  (h__law_any:DefOk P w K mg base C 7 "_law_any" P__law_any F__law_any_v2)
  (h__law_deep:DefOk P w K mg base C 8 "_law_deep" P__law_deep F__law_deep)
  (h__law_pick:DefOk P w K mg base C 2 "_law_pick" P__law_pick F__law_pick)
  (m_repr:mg "repr" = none)
  (h__law_due:DefOk P w K mg base C 3 "_law_due" P__law_due F__law_due)
  (true_:∀ ns:List Int,ns.length≤63→∃ ρ,g_law_k05 (some (.dat (.wri (ns.map D.int))) :: List.replicate (N_law.length - 1) none)=some (.rt (.dat (.bl true)) ρ)):FnG P w K mg base CX0 9 f fd ["_law_script"] (spLaw K):=by
 have sc:FnScope N_law P_law (defScope s_law):=⟨rfl,rfl,rfl,by decide +kernel,rfl,by decide +kernel,by decide +kernel⟩
 refine law_def (N:=N_law) (g:=g_law_k05) (C:=C) F0 sc (fun cdv A outer s H E B gd hr hn=>?_) true_
 have hp:=PassesOwn.never (M:=model P w) (A:=(cxOf CX0 P w K mg base N_law "law" (defScope s_law) f cdv A outer s H E).nox.A) (env:=(cxOf CX0 P w K mg base N_law "law" (defScope s_law) f cdv A outer s H E).nox.env)
 have hu:=hr.units
 exact pds_cons (pds_for (js:=[1]) hp rfl (pdi_range1 (by rfl) m_range (pd_callB (call_max2 rfl) o_max2 (by rfl) m_max (by decide +kernel) (pda_cons (pd_int) (pda_cons (pd_callB (call_min2 rfl) o_min2 (by rfl) m_min (by decide +kernel) (pda_cons (pd_int) (pda_cons (pd_callB call_len o_len (by rfl) m_len (by decide +kernel) (pda_cons (pd_var (pv 0)) (pda_nil))) (pda_nil)))) (pda_nil))))) (pdg_name (pg_name (i:=1) sc.nd rfl (.inl rfl)))
   (pds_cons (pds_set (i:=2) (np:=1) hn sc.nd rfl (.inr rfl) (pd_fn h__law_box (hr.mono (by decide)) takes0 rfl (pda_cons (pd_lend (pd_var (pv 0))) (pda_cons (pd_lend (pd_var (pv 1))) (pda_nil)))))
  (pds_one (pds_for (js:=[3]) hp rfl (pdi_range1 (by rfl) m_range (pd_int)) (pdg_name (pg_name (i:=3) sc.nd rfl (.inl rfl)))
   (pds_cons (pds_set (i:=4) (np:=1) hn sc.nd rfl (.inl rfl) (pd_bin op_addA o_add (pd_int) (pd_fn h__law_take (hr.mono (by decide)) takes0 rfl (pda_cons (pd_var (pv 2)) (pda_cons (pd_int) (pda_nil))))))
  (pds_cons (pds_par (i:=5) (j:=6) (np:=1) hn rfl sc.nd rfl rfl (by decide) rfl rfl (pda_cons (pd_make mk_Talk hA (by rw [hn]; show 1≤N_law.length; decide) (hr.mono (by decide)) takes0 rfl (pda_cons (pd_lend (pd_fn h__law_rows (hr.mono (by decide)) takes0 rfl (pda_cons (pd_var (pv 2)) (pda_cons (pd_lend (pd_var (pv 4))) (pda_cons (pd_int) (pda_nil)))))) (pda_nil))) (pda_cons (pd_lc (own:=[("_law_i",11)]) (js:=[11]) (by rfl) sc.nd (pdi_range1 (by rfl) m_range (pd_var (pv 4))) (blkOk_by (N:=N_law) (sc:=defScope s_law) (by decide +kernel)) (by decide) (fun _ _ _ _ _=>pdg_name (pg_name (i:=11) sc.nd rfl (.inl rfl))) (fun _ _ _ _ _=>pts_yes) (fun _ _ _ _ _=>pd_fn h__law_value (hr.mono (by decide)) takes0 rfl (pda_cons (pd_var (pv 2)) (pda_nil)))) (pda_nil))) (by rfl) (by rfl))
  (pds_cons (pds_if (pdt_cmp op_notN o_notN (pd_fn h__law_refused (hr.mono (by decide)) takes0 rfl (pda_cons (pd_lend (pd_var (pv 5))) (pda_cons (pd_lend (pd_var (pv 6))) (pda_nil)))) (pd_non) (nomark _))
   (pds_one (pds_ret (pd_bl)))
   (pds_nil))
  (pds_cons (pds_for (js:=[7]) hp rfl (pdi_range1 (by rfl) m_range (pd_bin op_addA o_add (pd_int) (pd_fn h__law_take (hr.mono (by decide)) takes0 rfl (pda_cons (pd_var (pv 2)) (pda_cons (pd_int) (pda_nil)))))) (pdg_name (pg_name (i:=7) sc.nd rfl (.inl rfl)))
   (pds_cons (pds_set (i:=8) (np:=1) hn sc.nd rfl (.inl rfl) (pd_lst (pda_cons (pd_frz (pd_fn h__law_any (hr.mono (by decide)) takes0 rfl (pda_cons (pd_var (pv 2)) (pda_cons (pd_int) (pda_nil))))) (pda_cons (pd_frz (pd_fn h__law_deep (hr.mono (by decide)) takes0 rfl (pda_cons (pd_var (pv 2)) (pda_nil)))) (pda_cons (pd_bl) (pda_cons (pd_non) (pda_cons (pd_str) (pda_cons (pd_tup (pda_cons (pd_int) (pda_cons (pd_int) (pda_nil)))) (pda_cons (pd_tup (pda_cons (pd_int) (pda_cons (pd_bin op_sub o_sub (pd_int) (pd_int)) (pda_nil)))) (pda_cons (pd_frz (pd_lst (pda_cons (pd_int) (pda_cons (pd_int) (pda_nil))))) (pda_cons (pd_tup (pda_cons (pd_int) (pda_nil))) (pda_cons (pd_tup (pda_cons (pd_int) (pda_cons (pd_int) (pda_cons (pd_int) (pda_nil))))) (pda_nil)))))))))))))
  (pds_cons (pds_set (i:=8) (np:=1) hn sc.nd rfl (.inl rfl) (pd_bin op_addA o_add (pd_var (pv 8)) (pd_lst (pda_cons (pd_tup (pda_cons (pd_int) (pda_cons (pd_bl) (pda_nil)))) (pda_cons (pd_tup (pda_cons (pd_non) (pda_cons (pd_int) (pda_nil)))) (pda_cons (pd_tup (pda_cons (pd_tup (pda_cons (pd_int) (pda_cons (pd_int) (pda_nil)))) (pda_cons (pd_int) (pda_nil)))) (pda_cons (pd_int) (pda_cons (pd_tup (pda_cons (pd_int) (pda_cons (pd_int) (pda_nil)))) (pda_nil)))))))))
  (pds_cons (pds_set (i:=9) (np:=1) hn sc.nd rfl (.inl rfl) (pd_fn h__law_take (hr.mono (by decide)) takes0 rfl (pda_cons (pd_var (pv 2)) (pda_cons (pd_lend (pd_bin op_addA o_add (pd_callB call_len o_len (by rfl) m_len (by decide +kernel) (pda_cons (pd_var (pv 6)) (pda_nil))) (pd_int))) (pda_nil)))))
  (pds_one (pds_if (pdt_cmp op_lt o_lt (pd_var (pv 9)) (pd_callB call_len o_len (by rfl) m_len (by decide +kernel) (pda_cons (pd_var (pv 6)) (pda_nil))) (nomark _))
   (pds_one (pds_store (pd_fn h__law_pick (hr.mono (by decide)) takes0 rfl (pda_cons (pd_var (pv 2)) (pda_cons (pd_lend (pd_var (pv 8))) (pda_nil)))) (pd_var (pv 6)) (pd_var (pv 9))))
   (pds_one (pds_set (i:=6) (np:=1) hn sc.nd rfl (.inl rfl) (pd_if (pdt_cmp (op_eqA hu) o_eq (pd_fn h__law_take (hr.mono (by decide)) takes0 rfl (pda_cons (pd_var (pv 2)) (pda_cons (pd_int) (pda_nil)))) (pd_int) (nomark _)) (pd_bin op_addA o_add (pd_var (pv 6)) (pd_lst (pda_cons (pd_int) (pda_nil)))) (pd_slice (pd_var (pv 6)) (pdo_none) (pdo_some (pd_neg (pd_int)))))))))))))
  (pds_cons (pds_if (pdt_cmp (op_neA hu) o_ne (pd_callB (call_repr gd hu) o_repr (by rfl) m_repr (by decide +kernel) (pda_cons (pd_fn h__law_refused (hr.mono (by decide)) takes0 rfl (pda_cons (pd_lend (pd_var (pv 5))) (pda_cons (pd_lend (pd_var (pv 6))) (pda_nil)))) (pda_nil))) (pd_callB (call_repr gd hu) o_repr (by rfl) m_repr (by decide +kernel) (pda_cons (pd_fn h__law_due (hr.mono (by decide)) takes0 rfl (pda_cons (pd_lend (pd_var (pv 6))) (pda_cons (pd_lend (pd_var (pv 4))) (pda_nil)))) (pda_nil))) (nomark _))
   (pds_one (pds_ret (pd_bl)))
   (pds_nil))
  (pds_cons (pds_set (i:=10) (np:=1) hn sc.nd rfl (.inl rfl) (pd_fn h__law_any (hr.mono (by decide)) takes0 rfl (pda_cons (pd_var (pv 2)) (pda_cons (pd_int) (pda_nil)))))
  (pds_one (pds_if (pdt_cmp (op_neA hu) o_ne (pd_callB (call_repr gd hu) o_repr (by rfl) m_repr (by decide +kernel) (pda_cons (pd_fn h__law_refused (hr.mono (by decide)) takes0 rfl (pda_cons (pd_lend (pd_var (pv 5))) (pda_cons (pd_lend (pd_var (pv 10))) (pda_nil)))) (pda_nil))) (pd_callB (call_repr gd hu) o_repr (by rfl) m_repr (by decide +kernel) (pda_cons (pd_fn h__law_due (hr.mono (by decide)) takes0 rfl (pda_cons (pd_lend (pd_var (pv 10))) (pda_cons (pd_lend (pd_var (pv 4))) (pda_nil)))) (pda_nil))) (nomark _))
   (pds_one (pds_ret (pd_bl)))
   (pds_nil)))))))))))))
  (pds_one (pds_ret (pd_bl)))
end K05
namespace Sh
open PySem PySem.Spec PyProof.Rows L2 Tk Pl
def oddA (v1 v2:D):List D:=[v1,v2,.bl true,.non,.str "3",.tup [.int 1,.int 0],.tup [.int 1,.int (-2)],.lst [.int 1,.int 2],.tup [.int 1],.tup [.int 1,.int 2,.int 3]]
def oddB:List D:=[.tup [.int 1,.bl true],.tup [.non,.int 1],.tup [.tup [.int 1,.int 2],.int 3],.int 0,.tup [.int 4,.int 6]]
theorem anyV_ne {l:List D} (hl:l.length≤10) (h:∀ e∈l,AnyV e) (no:∀ p q,l≠[.int p,.int q]):AnyV (.tup l):=.tup l hl h fun p q e=>absurd e (no p q)
theorem odd_any {v1 v2:D} (h1:AnyV v1) (h2:AnyV v2):∀ d∈oddA v1 v2++oddB,AnyV d:=fun d hd=>by
 have i:∀ z:Int,-1000≤z→z≤1000→AnyV (.int z):=fun z a b=>.int z (by omega) (by omega)
 simp only [oddA,oddB,List.cons_append,List.nil_append,List.mem_cons,List.not_mem_nil,or_false] at hd
 rcases hd with rfl | rfl | rfl | rfl | rfl | rfl | rfl | rfl | rfl | rfl | rfl | rfl | rfl | rfl | rfl
 ·exact h1
 ·exact h2
 ·exact .bl _
 ·exact .non
 ·exact .str _
 ·exact anyV_two 1 0 (by omega) (by omega)
 ·exact anyV_two 1 (-2) (by omega) (by omega)
 ·exact anyV_lst (l:=[1,2]) (by simp) (by simp)
 ·exact anyV_ne (by simp) (fun e he=>by rw [List.mem_singleton.mp he]; exact i 1 (by omega) (by omega)) (fun p q e=>by cases e)
 ·refine anyV_ne (by simp) (fun e he=>?_) (fun p q e=>by cases e)
  simp only [List.mem_cons,List.not_mem_nil,or_false] at he
  rcases he with rfl | rfl | rfl <;> exact i _ (by omega) (by omega)
 ·refine anyV_ne (by simp) (fun e he=>?_) (fun p q e=>by cases e)
  simp only [List.mem_cons,List.not_mem_nil,or_false] at he
  rcases he with rfl | rfl
  ·exact i 1 (by omega) (by omega)
  ·exact .bl _
 ·refine anyV_ne (by simp) (fun e he=>?_) (fun p q e=>by cases e)
  simp only [List.mem_cons,List.not_mem_nil,or_false] at he
  rcases he with rfl | rfl
  ·exact .non
  ·exact i 1 (by omega) (by omega)
 ·refine anyV_ne (by simp) (fun e he=>?_) (fun p q e=>by cases e)
  simp only [List.mem_cons,List.not_mem_nil,or_false] at he
  rcases he with rfl | rfl
  ·exact anyV_two 1 2 (by omega) (by omega)
  ·exact i 3 (by omega) (by omega)
 ·exact i 0 (by omega) (by omega)
 ·exact anyV_two 4 6 (by omega) (by omega)
theorem cut_last (l:List D):Pl.cutD l none (some (-1))=l.take (l.length - 1):=by
 show (l.drop 0).take (((-1:Int)+(l.length:Int)).toNat - 0)=_
 rw [List.drop_zero]
 congr 1
 omega
theorem k05_more (R:List (List Int)) (n:Nat) (a0 b0 c0:Int) {ns:List D} (hn:∀ v∈ns,AnyV v) (hl:ns.length≤8) {x0 x1 x3 x7 x8 x9 x10:Option SV}:∃ (ns':List D) (a' b' c':Int) (z8 z9:Option SV),(∀ v∈ns',AnyV v)∧ns'.length≤ns.length+1∧b_law_k05_1 [x0,x1,some (.own (.lst [.int a0,.int b0,.int c0])),x3,some (.dat (.int (n:Int))),some (.dat (talkD R)),some (.own (.lst ns)),x7,x8,x9,x10,none]=some (.nx [x0,x1,some (.own (.lst [.int a',.int b',.int c'])),x3,some (.dat (.int (n:Int))),some (.dat (talkD R)),some (.own (.lst ns')),x7,z8,z9,x10,none]):=by
 obtain ⟨v1,r1,a1,b1,c1,h1,hr1,e1⟩:=any5 a0 b0 c0 3 (by omega)
 have e1:F__law_any_v2 [bx a0 b0 c0,some (.dat (.int 3))]=some (.ok r1 [bx a1 b1 c1,none]):=e1
 obtain ⟨v2,r2,a2,b2,c2,h2,hr2,e2⟩:=deep5 a1 b1 c1
 obtain ⟨u,a3,b3,c3,hu,e3⟩:=take_nat a2 b2 c2 ((ns.length:Int)+1) (by omega) (by omega)
 have od:=odd_any h1.1 h2
 have q1:(sSet 8 1 (dLst (dCons (froze (dFn F__law_any_v2 (dCons (dVar 2) (dCons (retE (.dat (.int 3))) (dNil))))) (dCons (froze (dFn F__law_deep (dCons (dVar 2) (dNil)))) (dCons (retE (.dat (.bl true))) (dCons (retE (.dat .non)) (dCons (retE (.dat (.str "3"))) (dCons (dTup (dCons (retE (.dat (.int 1))) (dCons (retE (.dat (.int 0))) (dNil)))) (dCons (dTup (dCons (retE (.dat (.int 1))) (dCons (dBin gSub (retE (.dat (.int 0))) (retE (.dat (.int 2)))) (dNil)))) (dCons (froze (dLst (dCons (retE (.dat (.int 1))) (dCons (retE (.dat (.int 2))) (dNil))))) (dCons (dTup (dCons (retE (.dat (.int 1))) (dNil))) (dCons (dTup (dCons (retE (.dat (.int 1))) (dCons (retE (.dat (.int 2))) (dCons (retE (.dat (.int 3))) (dNil))))) (dNil))))))))))))) [x0,x1,some (.own (.lst [.int a0,.int b0,.int c0])),x3,some (.dat (.int (n:Int))),some (.dat (talkD R)),some (.own (.lst ns)),x7,x8,x9,x10,none]=some (.nx [x0,x1,some (.own (.lst [.int a2,.int b2,.int c2])),x3,some (.dat (.int (n:Int))),some (.dat (talkD R)),some (.own (.lst ns)),x7,some (.own (.lst (oddA v1 v2))),x9,x10,none]):=by
  unfold bx at e1 e2
  unfold oddA
  generalize talkD R=T at *
  rcases hr1 with rfl | ⟨l1,rfl,rfl⟩ <;> rcases hr2 with rfl | ⟨l2,rfl,rfl⟩ <;> simp [e1,e2]
 have q2:(sSet 8 1 (dBin gAdd (dVar 8) (dLst (dCons (dTup (dCons (retE (.dat (.int 1))) (dCons (retE (.dat (.bl true))) (dNil)))) (dCons (dTup (dCons (retE (.dat .non)) (dCons (retE (.dat (.int 1))) (dNil)))) (dCons (dTup (dCons (dTup (dCons (retE (.dat (.int 1))) (dCons (retE (.dat (.int 2))) (dNil)))) (dCons (retE (.dat (.int 3))) (dNil)))) (dCons (retE (.dat (.int 0))) (dCons (dTup (dCons (retE (.dat (.int 4))) (dCons (retE (.dat (.int 6))) (dNil)))) (dNil))))))))) [x0,x1,some (.own (.lst [.int a2,.int b2,.int c2])),x3,some (.dat (.int (n:Int))),some (.dat (talkD R)),some (.own (.lst ns)),x7,some (.own (.lst (oddA v1 v2))),x9,x10,none]=some (.nx [x0,x1,some (.own (.lst [.int a2,.int b2,.int c2])),x3,some (.dat (.int (n:Int))),some (.dat (talkD R)),some (.own (.lst ns)),x7,some (.own (.lst (oddA v1 v2++oddB))),x9,x10,none]):=by
  have lA:(oddA v1 v2).length=10:=rfl
  have lA2:(oddA v1 v2).length+5≤10000:=by omega
  unfold oddB
  generalize oddA v1 v2=OA at *
  generalize talkD R=T at *
  simp [lA2]
 have q3:(sSet 9 1 (dFn F__law_take (dCons (dVar 2) (dCons (dLend (dBin gAdd (dCall (on1 hLen) (dCons (dVar 6) (dNil))) (retE (.dat (.int 1))))) (dNil))))) [x0,x1,some (.own (.lst [.int a2,.int b2,.int c2])),x3,some (.dat (.int (n:Int))),some (.dat (talkD R)),some (.own (.lst ns)),x7,some (.own (.lst (oddA v1 v2++oddB))),x9,x10,none]=some (.nx [x0,x1,some (.own (.lst [.int a3,.int b3,.int c3])),x3,some (.dat (.int (n:Int))),some (.dat (talkD R)),some (.own (.lst ns)),x7,some (.own (.lst (oddA v1 v2++oddB))),some (.dat (.int (u:Int))),x10,none]):=by
  have nl:ns.length≤100000:=by omega
  unfold bx at e3
  generalize oddA v1 v2++oddB=OA at *
  generalize talkD R=T at *
  simp [nl,e3]
 have nl:ns.length≤100000:=by omega
 by_cases c:u < ns.length
 ·have cI:(u:Int) < (ns.length:Int):=by omega
  obtain ⟨x,a4,b4,c4,hx,e4⟩:=pick_sees a3 b3 c3 (.lck (oddA v1 v2++oddB)) (by simp [oddA,oddB]) (by simp [oddA,oddB])
  have st_:atI ns (u:Int)≠none:=by rw [atI_nat (List.getElem?_eq_getElem c)]; simp
  refine ⟨ns.set u x,a4,b4,c4,some (.own (.lst (oddA v1 v2++oddB))),some (.dat (.int (u:Int))),fun v hv=>?_,by rw [List.length_set]; omega,?_⟩
  ·rcases List.mem_or_eq_of_mem_set hv with h | h
   ·exact hn v h
   ·rw [h]; exact od x hx
  have q4:(sIf (asB (dBin gLt (dVar 9) (dCall (on1 hLen) (dCons (dVar 6) (dNil))))) (sStore (dFn F__law_pick (dCons (dVar 2) (dCons (dLend (dVar 8)) (dNil)))) (dVar 6) (dVar 9)) (sSet 6 1 (dIfE (asB (dBin gEq (dFn F__law_take (dCons (dVar 2) (dCons (retE (.dat (.int 2))) (dNil)))) (retE (.dat (.int 0))))) (dBin gAdd (dVar 6) (dLst (dCons (retE (.dat (.int 1))) (dNil)))) (dSlc (dVar 6) (dNoPart) (dPart (dUn hNeg (retE (.dat (.int 1))))))))) [x0,x1,some (.own (.lst [.int a3,.int b3,.int c3])),x3,some (.dat (.int (n:Int))),some (.dat (talkD R)),some (.own (.lst ns)),x7,some (.own (.lst (oddA v1 v2++oddB))),some (.dat (.int (u:Int))),x10,none]=some (.nx [x0,x1,some (.own (.lst [.int a4,.int b4,.int c4])),x3,some (.dat (.int (n:Int))),some (.dat (talkD R)),some (.own (.lst (ns.set u x))),x7,some (.own (.lst (oddA v1 v2++oddB))),some (.dat (.int (u:Int))),x10,none]):=by
   unfold bx at e4
   generalize oddA v1 v2++oddB=OA at *
   generalize talkD R=T at *
   have ix:ixN ns.length (u:Int)=some u:=by
    unfold ixN
    simp [c]
   simp [nl,c,cI,e4,ix]
  unfold b_law_k05_1
  rw [seq_nx q1,seq_nx q2,seq_nx q3]
  exact q4
 ·have cI:¬ (u:Int) < (ns.length:Int):=by omega
  obtain ⟨t,a4,b4,c4,ht,e4⟩:=take_nat a3 b3 c3 2 (by decide) (by decide)
  have l1:ns.length+1≤10000:=by omega
  by_cases t0:t=0
  ·subst t0
   refine ⟨ns++[.int 1],a4,b4,c4,some (.own (.lst (oddA v1 v2++oddB))),some (.dat (.int (u:Int))),fun v hv=>?_,by simp,?_⟩
   ·rcases List.mem_append.mp hv with h | h
    ·exact hn v h
    ·rw [List.mem_singleton.mp h]; exact .int 1 (by omega) (by omega)
   have q4:(sIf (asB (dBin gLt (dVar 9) (dCall (on1 hLen) (dCons (dVar 6) (dNil))))) (sStore (dFn F__law_pick (dCons (dVar 2) (dCons (dLend (dVar 8)) (dNil)))) (dVar 6) (dVar 9)) (sSet 6 1 (dIfE (asB (dBin gEq (dFn F__law_take (dCons (dVar 2) (dCons (retE (.dat (.int 2))) (dNil)))) (retE (.dat (.int 0))))) (dBin gAdd (dVar 6) (dLst (dCons (retE (.dat (.int 1))) (dNil)))) (dSlc (dVar 6) (dNoPart) (dPart (dUn hNeg (retE (.dat (.int 1))))))))) [x0,x1,some (.own (.lst [.int a3,.int b3,.int c3])),x3,some (.dat (.int (n:Int))),some (.dat (talkD R)),some (.own (.lst ns)),x7,some (.own (.lst (oddA v1 v2++oddB))),some (.dat (.int (u:Int))),x10,none]=some (.nx [x0,x1,some (.own (.lst [.int a4,.int b4,.int c4])),x3,some (.dat (.int (n:Int))),some (.dat (talkD R)),some (.own (.lst (ns++[.int 1]))),x7,some (.own (.lst (oddA v1 v2++oddB))),some (.dat (.int (u:Int))),x10,none]):=by
    unfold bx at e4
    generalize oddA v1 v2++oddB=OA at *
    generalize talkD R=T at *
    simp [nl,c,cI,e4,l1]
   unfold b_law_k05_1
   rw [seq_nx q1,seq_nx q2,seq_nx q3]
   exact q4
  ·have t0I:¬ (t:Int)=0:=by omega
   refine ⟨ns.take (ns.length - 1),a4,b4,c4,some (.own (.lst (oddA v1 v2++oddB))),some (.dat (.int (u:Int))),fun v hv=>hn v (List.mem_of_mem_take hv),by rw [List.length_take]; omega,?_⟩
   have cl:=cut_last ns
   have q4:(sIf (asB (dBin gLt (dVar 9) (dCall (on1 hLen) (dCons (dVar 6) (dNil))))) (sStore (dFn F__law_pick (dCons (dVar 2) (dCons (dLend (dVar 8)) (dNil)))) (dVar 6) (dVar 9)) (sSet 6 1 (dIfE (asB (dBin gEq (dFn F__law_take (dCons (dVar 2) (dCons (retE (.dat (.int 2))) (dNil)))) (retE (.dat (.int 0))))) (dBin gAdd (dVar 6) (dLst (dCons (retE (.dat (.int 1))) (dNil)))) (dSlc (dVar 6) (dNoPart) (dPart (dUn hNeg (retE (.dat (.int 1))))))))) [x0,x1,some (.own (.lst [.int a3,.int b3,.int c3])),x3,some (.dat (.int (n:Int))),some (.dat (talkD R)),some (.own (.lst ns)),x7,some (.own (.lst (oddA v1 v2++oddB))),some (.dat (.int (u:Int))),x10,none]=some (.nx [x0,x1,some (.own (.lst [.int a4,.int b4,.int c4])),x3,some (.dat (.int (n:Int))),some (.dat (talkD R)),some (.own (.lst (ns.take (ns.length - 1)))),x7,some (.own (.lst (oddA v1 v2++oddB))),some (.dat (.int (u:Int))),x10,none]):=by
    unfold bx at e4
    generalize ns.take (ns.length - 1)=nt at *
    generalize oddA v1 v2++oddB=OA at *
    generalize talkD R=T at *
    simp [nl,c,cI,e4,t0,t0I,cl]
   unfold b_law_k05_1
   rw [seq_nx q1,seq_nx q2,seq_nx q3]
   exact q4
theorem k05_numbers {x0 x1 x3 x5 x6 x7 x8 x9 x10:Option SV} (a3 b3 c3:Int) (n:Nat) (hp:n≤5):∃ (vs:List D) (a' b' c':Int),vs.length=n∧(∀ v∈vs,AnyV v∧isVal v=true) ∧
  loopC [11] (tgN 11) yesT (froze (dFn F__law_value_v2 (dCons (dVar 2) (dNil)))) (rangeL 0 n) [] [x0,x1,some (.own (.lst [.int a3,.int b3,.int c3])),x3,some (.dat (.int (n:Int))),x5,x6,x7,x8,x9,x10,none]=some (.ok (.own (.lst vs)) [x0,x1,some (.own (.lst [.int a',.int b',.int c'])),x3,some (.dat (.int (n:Int))),x5,x6,x7,x8,x9,x10,none]):=by
 obtain ⟨acc,ρ',⟨a',b',c',rfl,h1,h2⟩,e⟩:=loopC_at (vs:=[11]) (tg:=tgN 11) (ft:=yesT) (fe:=froze (dFn F__law_value_v2 (dCons (dVar 2) (dNil)))) (rangeL 0 n)
  (fun i acc ρ=>∃ (a' b' c':Int),ρ=[x0,x1,some (.own (.lst [.int a',.int b',.int c'])),x3,some (.dat (.int (n:Int))),x5,x6,x7,x8,x9,x10,none]∧acc.length=i∧∀ v∈acc,AnyV v∧isVal v=true) (by
  rintro i d acc ρ hd ⟨a1,b1,c1,rfl,h1,h2⟩
  obtain ⟨hi,rfl⟩:=range_nth hd
  obtain ⟨v,a2,b2,c2,hv,ev⟩:=law_value4_ok a1 b1 c1
  refine ⟨_,_,rfl,.inl ⟨rfl,v,[x0,x1,some (.own (.lst [.int a2,.int b2,.int c2])),x3,some (.dat (.int (n:Int))),x5,x6,x7,x8,x9,x10,some (.dat (.int (i:Int)))],?_,by omega,a2,b2,c2,rfl,by simp [h1],fun y hy=>?_⟩⟩
  ·unfold bx at ev
   simp [ev]
  ·rcases List.mem_append.mp hy with hy | hy
   ·exact h2 y hy
   ·rw [List.mem_singleton.mp hy]
    cases hv with
    | int u h1 h2=>exact ⟨.int u (by omega) (by omega),rfl⟩
    | pair u l h1 h2 h3 h4 =>
     refine ⟨.tup _ (by simp) (fun e he=>?_) fun p q e q1=>?_,decide_eq_true (by omega)⟩
     ·simp only [List.mem_cons,List.not_mem_nil,or_false] at he
      rcases he with rfl | rfl
      ·exact .int _ (by omega) (by omega)
      ·exact .int _ (by omega) (by omega)
     ·injection e with e1 e2
      injection e2 with e2 _
      injection e2 with e2
      subst e2
      rw [Int.natAbs_natCast]
      exact Nat.dvd_trans (dvd12 h3 h4) (Nat.dvd_mul_right _ _)) (ρ:=[x0,x1,some (.own (.lst [.int a3,.int b3,.int c3])),x3,some (.dat (.int (n:Int))),x5,x6,x7,x8,x9,x10,none]) ⟨a3,b3,c3,rfl,rfl,fun v h=>by cases h⟩
 rw [rangeL_length] at h1
 exact ⟨acc,a',b',c',h1,h2,e⟩
theorem repr_due (d:D) (p:Nat) (hp:p≤5):∃ s:Str,hRepr (dueD d p)=some (.str s)∧dEq (.str s) (.str s)=some true:=by
 have small:∀ k:Nat,k≤5→∃ s:Str,hRepr (.int (k:Int))=some (.str s)∧dEq (.str s) (.str s)=some true:=fun k hk=>by
  match k,hk with
  | 0,_=>exact ⟨"0",by kernel_rfl,by kernel_rfl⟩
  | 1,_=>exact ⟨"1",by kernel_rfl,by kernel_rfl⟩
  | 2,_=>exact ⟨"2",by kernel_rfl,by kernel_rfl⟩
  | 3,_=>exact ⟨"3",by kernel_rfl,by kernel_rfl⟩
  | 4,_=>exact ⟨"4",by kernel_rfl,by kernel_rfl⟩
  | 5,_=>exact ⟨"5",by kernel_rfl,by kernel_rfl⟩
 have sq:∀ l:List D,∃ s:Str,hRepr (if l.length=p then (match wrongN l with | none=>D.non | some k=>.int (k:Int)) else .int 0)=some (.str s)∧dEq (.str s) (.str s)=some true:=fun l=>by
  by_cases lp:l.length=p
  ·rw [if_pos lp]
   cases w:wrongN l with
   | none=>exact ⟨"None",by kernel_rfl,by kernel_rfl⟩
   | some k =>
    have:k < l.length:=by
     unfold wrongN at w
     exact (List.findIdx?_eq_some_iff_getElem.mp w).1
    exact small k (by omega)
  ·rw [if_neg lp]
   exact small 0 (by omega)
 cases d with
 | lst l=>exact sq l
 | tup l=>exact sq l
 | _=>exact small 0 (by omega)
theorem k05_turn (a0 b0 c0:Int) {x0 x1 x3 x4 x5 x6 x7 x8 x9 x10:Option SV}:∃ (a' b' c':Int) (z4 z5 z6 z7 z8 z9 z10:Option SV),b_law_k05_2 [x0,x1,some (.own (.lst [.int a0,.int b0,.int c0])),x3,x4,x5,x6,x7,x8,x9,x10,none]=some (.nx [x0,x1,some (.own (.lst [.int a',.int b',.int c'])),x3,z4,z5,z6,z7,z8,z9,z10,none]):=by
 obtain ⟨t,a1,b1,c1,ht,e1⟩:=take_nat a0 b0 c0 4 (by decide) (by decide)
 obtain ⟨n,hn⟩:∃ n,n=1+t:=⟨_,rfl⟩
 have hnI:(1:Int)+(t:Int)=(n:Int):=by omega
 have n5:n≤5:=by omega
 obtain ⟨R,a2,b2,c2,d1,e2⟩:=law_rows_ok a1 b1 c1 n 3 (by omega) (by decide) (by decide)
 have g1:=d1.good (by omega) (by omega) (by decide)
 have fn:Fine n N15 (R.map norm):=rows_fine (d1.ok (by omega) n5)
 obtain ⟨ns,a3,b3,c3,nl,na,e3⟩:=k05_numbers (x0:=x0) (x1:=x1) (x3:=x3) (x5:=x5) (x6:=x6) (x7:=x7) (x8:=x8) (x9:=x9) (x10:=x10) a2 b2 c2 n n5
 have mk:=fun ρ=>make_dat (d:=.lst (R.map rowL)) (.lst _) (isRows_lst R) g1 ρ
 have e2:F__law_rows [bx a1 b1 c1,some (.dat (.int (n:Int))),some (.dat (.int 3))]=_:=e2
 have ref:∀ {d:D} {s:SV},(s=.dat d∨∃ l,d=.lst l∧s=.lck (.lst l))→AnyV d→F__law_refused_v2 [some (.dat (talkD (R.map norm))),some s]=some (.ok (.dat (dueD d n)) [none,none]):=fun hs h=>refused5 fn n5 hs h
 have d0:dueD (.lst ns) n=.non:=by
  unfold dueD
  dsimp only
  have w:wrongN ns=none:=by
   unfold wrongN
   rw [List.findIdx?_eq_none_iff]
   intro v hv
   rw [(na v hv).2]
   rfl
  rw [if_pos nl,w]
 have q1:(sSet 4 1 (dBin gAdd (retE (.dat (.int 1))) (dFn F__law_take (dCons (dVar 2) (dCons (retE (.dat (.int 4))) (dNil)))))) [x0,x1,some (.own (.lst [.int a0,.int b0,.int c0])),x3,x4,x5,x6,x7,x8,x9,x10,none]=some (.nx [x0,x1,some (.own (.lst [.int a1,.int b1,.int c1])),x3,some (.dat (.int (n:Int))),x5,x6,x7,x8,x9,x10,none]):=by
  unfold bx at e1
  simp [e1,hnI]
 have q2:(sPar2 5 6 1 (dCons (bindE (dCons (dLend (dFn F__law_rows (dCons (dVar 2) (dCons (dLend (dVar 4)) (dCons (retE (.dat (.int 3))) (dNil)))))) (dNil)) (gMake att 10 F_Talk___init__ [])) (dCons (dLc [11] (dRange1 (dVar 4)) (tgN 11) (yesT) (dFn F__law_value_v2 (dCons (dVar 2) (dNil)))) (dNil)))) [x0,x1,some (.own (.lst [.int a1,.int b1,.int c1])),x3,some (.dat (.int (n:Int))),x5,x6,x7,x8,x9,x10,none]=some (.nx [x0,x1,some (.own (.lst [.int a3,.int b3,.int c3])),x3,some (.dat (.int (n:Int))),some (.dat (talkD (R.map norm))),some (.own (.lst ns)),x7,x8,x9,x10,none]):=by
  have cp:n≤100000:=by omega
  unfold bx at e2
  generalize talkD (R.map norm)=T at *
  generalize R.map rowL=Rd at *
  simp [-ev_make,e2,mk,e3,cp,sPar2]
 have r3:=ref (s:=.lck (.lst ns)) (.inr ⟨ns,rfl,rfl⟩) (.lst ns (by omega) fun v hv=>(na v hv).1)
 rw [d0] at r3
 have q3:(sIf (asB (dBin gNotN (dFn F__law_refused_v2 (dCons (dLend (dVar 5)) (dCons (dLend (dVar 6)) (dNil)))) (retE (.dat .non)))) (sRet (retE (.dat (.bl false)))) (nxS)) [x0,x1,some (.own (.lst [.int a3,.int b3,.int c3])),x3,some (.dat (.int (n:Int))),some (.dat (talkD (R.map norm))),some (.own (.lst ns)),x7,x8,x9,x10,none]=some (.nx [x0,x1,some (.own (.lst [.int a3,.int b3,.int c3])),x3,some (.dat (.int (n:Int))),some (.dat (talkD (R.map norm))),some (.own (.lst ns)),x7,x8,x9,x10,none]):=by
  generalize talkD (R.map norm)=T at *
  simp [r3,Pl.isNon]
 obtain ⟨m,a4,b4,c4,hm,e4⟩:=take_nat a3 b3 c3 2 (by decide) (by decide)
 obtain ⟨ρ',⟨ms,a9,b9,c9,z7,z8,z9,ha,hl,rfl⟩,l4⟩:=loopS_at (tg:=tgN 7) (body:=b_law_k05_1) (rangeL 0 (1+m)) (fun i ρ=>∃ (ms:List D) (a9 b9 c9:Int) (z7 z8 z9:Option SV),(∀ v∈ms,AnyV v)∧ms.length≤4+i∧ρ=[x0,x1,some (.own (.lst [.int a9,.int b9,.int c9])),x3,some (.dat (.int (n:Int))),some (.dat (talkD (R.map norm))),some (.own (.lst ms)),z7,z8,z9,x10,none]) (by
  rintro i e ρ he ⟨ms,a9,b9,c9,z7,z8,z9,ha,hl,rfl⟩
  obtain ⟨hi,rfl⟩:=range_nth he
  obtain ⟨ms',a',b',c',y8,y9,ha',hl',e⟩:=k05_more (R.map norm) n a9 b9 c9 ha (by omega) (x0:=x0) (x1:=x1) (x3:=x3) (x7:=some (.dat (.int (i:Int)))) (x8:=z8) (x9:=z9) (x10:=x10)
  exact ⟨_,_,rfl,.inl e,ms',a',b',c',_,y8,y9,ha',by omega,rfl⟩) (ρ:=[x0,x1,some (.own (.lst [.int a4,.int b4,.int c4])),x3,some (.dat (.int (n:Int))),some (.dat (talkD (R.map norm))),some (.own (.lst ns)),x7,x8,x9,x10,none]) ⟨ns,a4,b4,c4,x7,x8,x9,fun v hv=>(na v hv).1,by omega,rfl⟩
 rw [rangeL_length] at hl
 have mI:(1:Int)+(m:Int)=((1+m:Nat):Int):=by omega
 have m5:1+m≤100000:=by omega
 have q4:(sFor (dRange1 (dBin gAdd (retE (.dat (.int 1))) (dFn F__law_take (dCons (dVar 2) (dCons (retE (.dat (.int 2))) (dNil)))))) (tgN 7) (b_law_k05_1)) [x0,x1,some (.own (.lst [.int a3,.int b3,.int c3])),x3,some (.dat (.int (n:Int))),some (.dat (talkD (R.map norm))),some (.own (.lst ns)),x7,x8,x9,x10,none]=some (.nx [x0,x1,some (.own (.lst [.int a9,.int b9,.int c9])),x3,some (.dat (.int (n:Int))),some (.dat (talkD (R.map norm))),some (.own (.lst ms)),z7,z8,z9,x10,none]):=by
  unfold bx at e4
  generalize talkD (R.map norm)=T at *
  generalize 1+m=w at *
  simp [e4,mI,m5,l4]
 have am:AnyV (.lst ms):=.lst ms (by omega) ha
 have r5:=ref (s:=.lck (.lst ms)) (.inr ⟨ms,rfl,rfl⟩) am
 have u5:=due5 (s:=.lck (.lst ms)) (.inr ⟨ms,rfl,rfl⟩) am n
 obtain ⟨s5,k5,q5_⟩:=repr_due (.lst ms) n n5
 have q5:(sIf (asB (dBin gNe (dCall (on1 hRepr) (dCons (dFn F__law_refused_v2 (dCons (dLend (dVar 5)) (dCons (dLend (dVar 6)) (dNil)))) (dNil))) (dCall (on1 hRepr) (dCons (dFn F__law_due (dCons (dLend (dVar 6)) (dCons (dLend (dVar 4)) (dNil)))) (dNil))))) (sRet (retE (.dat (.bl false)))) (nxS)) [x0,x1,some (.own (.lst [.int a9,.int b9,.int c9])),x3,some (.dat (.int (n:Int))),some (.dat (talkD (R.map norm))),some (.own (.lst ms)),z7,z8,z9,x10,none]=some (.nx [x0,x1,some (.own (.lst [.int a9,.int b9,.int c9])),x3,some (.dat (.int (n:Int))),some (.dat (talkD (R.map norm))),some (.own (.lst ms)),z7,z8,z9,x10,none]):=by
  generalize dueD (.lst ms) n=w at *
  generalize talkD (R.map norm)=T at *
  simp [r5,u5,k5,q5_]
 obtain ⟨v,r,a7,b7,c7,hv,hr,e7⟩:=any5 a9 b9 c9 3 (by omega)
 have e7:F__law_any_v2 [bx a9 b9 c9,some (.dat (.int 3))]=some (.ok r [bx a7 b7 c7,none]):=e7
 obtain ⟨s7,k7,q7_⟩:=repr_due v n n5
 obtain ⟨y,q6,q7⟩:∃ y:Option SV,(sSet 10 1 (dFn F__law_any_v2 (dCons (dVar 2) (dCons (retE (.dat (.int 3))) (dNil))))) [x0,x1,some (.own (.lst [.int a9,.int b9,.int c9])),x3,some (.dat (.int (n:Int))),some (.dat (talkD (R.map norm))),some (.own (.lst ms)),z7,z8,z9,x10,none]=some (.nx [x0,x1,some (.own (.lst [.int a7,.int b7,.int c7])),x3,some (.dat (.int (n:Int))),some (.dat (talkD (R.map norm))),some (.own (.lst ms)),z7,z8,z9,y,none])∧(sIf (asB (dBin gNe (dCall (on1 hRepr) (dCons (dFn F__law_refused_v2 (dCons (dLend (dVar 5)) (dCons (dLend (dVar 10)) (dNil)))) (dNil))) (dCall (on1 hRepr) (dCons (dFn F__law_due (dCons (dLend (dVar 10)) (dCons (dLend (dVar 4)) (dNil)))) (dNil))))) (sRet (retE (.dat (.bl false)))) (nxS)) [x0,x1,some (.own (.lst [.int a7,.int b7,.int c7])),x3,some (.dat (.int (n:Int))),some (.dat (talkD (R.map norm))),some (.own (.lst ms)),z7,z8,z9,y,none]=some (.nx [x0,x1,some (.own (.lst [.int a7,.int b7,.int c7])),x3,some (.dat (.int (n:Int))),some (.dat (talkD (R.map norm))),some (.own (.lst ms)),z7,z8,z9,y,none]):=by
  rcases hr with rfl | ⟨l,rfl,rfl⟩
  ·have r7:=ref (s:=.dat v) (.inl rfl) hv.1
   have u7:=due5 (s:=.dat v) (.inl rfl) hv.1 n
   refine ⟨some (.dat v),?_,?_⟩
   ·unfold bx at e7
    generalize talkD (R.map norm)=T at *
    simp [e7]
   ·generalize dueD v n=w at *
    generalize talkD (R.map norm)=T at *
    simp [r7,u7,k7,q7_]
  ·have r7:=ref (s:=.lck (.lst l)) (.inr ⟨l,rfl,rfl⟩) hv.1
   have u7:=due5 (s:=.lck (.lst l)) (.inr ⟨l,rfl,rfl⟩) hv.1 n
   refine ⟨some (.own (.lst l)),?_,?_⟩
   ·unfold bx at e7
    generalize talkD (R.map norm)=T at *
    simp [e7]
   ·generalize dueD (.lst l) n=w at *
    generalize talkD (R.map norm)=T at *
    simp [r7,u7,k7,q7_]
 have fin:b_law_k05_2 [x0,x1,some (.own (.lst [.int a0,.int b0,.int c0])),x3,x4,x5,x6,x7,x8,x9,x10,none]=some (.nx [x0,x1,some (.own (.lst [.int a7,.int b7,.int c7])),x3,some (.dat (.int (n:Int))),some (.dat (talkD (R.map norm))),some (.own (.lst ms)),z7,z8,z9,y,none]):=by
  unfold b_law_k05_2
  rw [seq_nx q1,seq_nx q2,seq_nx q3,seq_nx q4,seq_nx q5,seq_nx q6]
  exact q7
 exact ⟨a7,b7,c7,_,_,_,_,_,_,_,fin⟩
theorem k05_step {x0 x1:Option SV} (d:D) (a b c:Int) (ys:Sl) (hy:ys.length=7):∃ ρ',b_law_k05_2 (x0 :: x1 :: bx a b c :: some (.dat d) :: (ys++List.replicate 1 none))=some (.nx ρ')∧∃ a' b' c',Slots [x0,x1,bx a' b' c',some (.dat d)] 7 1 ρ' :=
 match ys,hy with
 | [y4,y5,y6,y7,y8,y9,y10],_=>by
  obtain ⟨a',b',c',z4,z5,z6,z7,z8,z9,z10,e⟩:=k05_turn (x0:=x0) (x1:=x1) (x3:=some (.dat d)) (x4:=y4) (x5:=y5) (x6:=y6) (x7:=y7) (x8:=y8) (x9:=y9) (x10:=y10) a b c
  exact ⟨_,e,a',b',c',[z4,z5,z6,z7,z8,z9,z10],rfl,rfl⟩
theorem law05_true (ns:List Int) (h:ns.length≤63):∃ ρ,g_law_k05 (some (.dat (.wri (ns.map D.int))) :: List.replicate (K05.N_law.length - 1) none)=some (.rt (.dat (.bl true)) ρ):=by
 refine frame_ok (n:=9) (m:=1) (c:=max 1 (min 5 ns.length)) (cells_fi' 5 ns h (by decide)) (fun y ys hy=>⟨_,rfl⟩) fun k ys hk hy =>
  cell_ok (n:=7) (ds:=rangeL 0 8) (box_call ns k (by omega)) (fun ys=>turns_fi 8 (by decide) _) (fun d a b c ys _ hy=>k05_step d a b c ys hy) ys hy
end Sh
namespace K05
open PySem PySem.Spec PyProof.Rows L2 Tk Pl Sh
theorem tailVE {ct:Addr}:PySem.HandSPX.Tail [.ref ct,.type "ValueError",.type "Exception",.type "BaseException",.type "object"] "ValueError" :=
 ⟨(PySem.HandSPX.refsVE_contains _ _ rfl).trans (by decide +kernel),(PySem.HandSPX.refsVE_contains _ _ rfl).trans (by decide +kernel),(PySem.HandSPX.refsVE_contains _ _ rfl).trans (by decide +kernel)⟩
theorem obVE {c ct:Addr}:(Value.ref c :: [.ref ct,.type "ValueError",.type "Exception",.type "BaseException",.type "object"]).contains (.type "object")=true:=(PySem.HandSPX.refsVE_contains "object" _ rfl).trans (by decide +kernel)
abbrev s_InvalidTalk___init__:Stmt:=inClass (topOf PySem.Challenge.pw_talkmeans_k05_numbers_that_are_refused 4) 0
theorem ok_InvalidTalk___init__ {P:Program} {w:World} {K:PySem.W.Frag} {mg:Str→Option Value} {base:Heap} {f:Addr} {fd:FuncData} (F0:Fun K "__init__" "InvalidTalk.__init__" s_InvalidTalk___init__ f fd):FnOk P w K mg base CX0 1 f fd ["self","at"] (spInit K "at"):=by
 have sc:FnScope ["self","at"] ["self","at"] (defScope s_InvalidTalk___init__):=⟨rfl,rfl,rfl,by decide +kernel,rfl,by decide +kernel,by decide +kernel⟩
 refine F0.ok sc (fun vs H Q E h=>?_) (fun cdv A outer s H vs Q E hr h=>?_)
 ·obtain ⟨a,C,y,rfl,_⟩:=h
  rfl
 obtain ⟨a,C,y,rfl,T,no,ea,q⟩:=h
 refine ⟨_,pss_one (ps_first (pv 0) (pv 1)),?_⟩
 exact ⟨_,rfl,_,rfl,a,C,rfl,T,no,ea,q⟩
abbrev s_InvalidNumbers___init__:Stmt:=inClass (topOf PySem.Challenge.pw_talkmeans_k05_numbers_that_are_refused 6) 0
theorem ok_InvalidNumbers___init__ {P:Program} {w:World} {K:PySem.W.Frag} {mg:Str→Option Value} {base:Heap} {f:Addr} {fd:FuncData} (F0:Fun K "__init__" "InvalidNumbers.__init__" s_InvalidNumbers___init__ f fd):FnOk P w K mg base CX0 1 f fd ["self","at"] (spInit K "at"):=by
 have sc:FnScope ["self","at"] ["self","at"] (defScope s_InvalidNumbers___init__):=⟨rfl,rfl,rfl,by decide +kernel,rfl,by decide +kernel,by decide +kernel⟩
 refine F0.ok sc (fun vs H Q E h=>?_) (fun cdv A outer s H vs Q E hr h=>?_)
 ·obtain ⟨a,C,y,rfl,_⟩:=h
  rfl
 obtain ⟨a,C,y,rfl,T,no,ea,q⟩:=h
 refine ⟨_,pss_one (ps_first (pv 0) (pv 1)),?_⟩
 exact ⟨_,rfl,_,rfl,a,C,rfl,T,no,ea,q⟩
theorem all_mk {l:PySem.W.OpenLaw} {w:World} {K:PySem.W.Frag} {h:Heap} {mg:Str→Option Value} {fa:Addr} (X:K.In h) (G:h.Ns mainGlobals mg) (hfa:mg "law" = some (.ref fa))
  {c_InvalidNumbers:Addr}
  {c_TalkError:Addr}
  {c_InvalidTalk:Addr}
  {c_Talk:Addr}
  {f__law_box:Addr} {od__law_box an__law_box:Option Addr} {sl__law_box:Array (Option Value)} {oc__law_box kV__law_box dc__law_box pm__law_box cd__law_box ct__law_box:Value}
  {f__law_take:Addr} {od__law_take an__law_take:Option Addr} {sl__law_take:Array (Option Value)} {oc__law_take kV__law_take dc__law_take pm__law_take cd__law_take ct__law_take:Value}
  {f_is_sequence:Addr} {od_is_sequence an_is_sequence:Option Addr} {sl_is_sequence:Array (Option Value)} {oc_is_sequence kV_is_sequence dc_is_sequence pm_is_sequence cd_is_sequence ct_is_sequence:Value}
  {f_is_int:Addr} {od_is_int an_is_int:Option Addr} {sl_is_int:Array (Option Value)} {oc_is_int kV_is_int dc_is_int pm_is_int cd_is_int ct_is_int:Value}
  {f_is_number:Addr} {od_is_number an_is_number:Option Addr} {sl_is_number:Array (Option Value)} {oc_is_number kV_is_number dc_is_number pm_is_number cd_is_number ct_is_number:Value}
  {f_is_row_of:Addr} {od_is_row_of an_is_row_of:Option Addr} {sl_is_row_of:Array (Option Value)} {oc_is_row_of kV_is_row_of dc_is_row_of pm_is_row_of cd_is_row_of ct_is_row_of:Value}
  {f_first_wrong_row:Addr} {od_first_wrong_row an_first_wrong_row:Option Addr} {sl_first_wrong_row:Array (Option Value)} {oc_first_wrong_row kV_first_wrong_row dc_first_wrong_row pm_first_wrong_row cd_first_wrong_row ct_first_wrong_row:Value}
  {f_common_divisor:Addr} {od_common_divisor an_common_divisor:Option Addr} {sl_common_divisor:Array (Option Value)} {oc_common_divisor kV_common_divisor dc_common_divisor pm_common_divisor cd_common_divisor ct_common_divisor:Value}
  {f_normal_row:Addr} {od_normal_row an_normal_row:Option Addr} {sl_normal_row:Array (Option Value)} {oc_normal_row kV_normal_row dc_normal_row pm_normal_row cd_normal_row ct_normal_row:Value}
  {f_Talk___init__:Addr} {od_Talk___init__ an_Talk___init__:Option Addr} {sl_Talk___init__:Array (Option Value)} {oc_Talk___init__ kV_Talk___init__ dc_Talk___init__ pm_Talk___init__ cd_Talk___init__ ct_Talk___init__:Value}
  {f_InvalidTalk___init__:Addr} {od_InvalidTalk___init__ an_InvalidTalk___init__:Option Addr} {sl_InvalidTalk___init__:Array (Option Value)} {oc_InvalidTalk___init__ kV_InvalidTalk___init__ dc_InvalidTalk___init__ pm_InvalidTalk___init__ cd_InvalidTalk___init__ ct_InvalidTalk___init__:Value}
  {nm_InvalidTalk q_InvalidTalk:Str} {N_InvalidTalk:Addr} {bs_InvalidTalk:List Value} {sn_InvalidTalk:List Str} {su_InvalidTalk:List Value} {ab_InvalidTalk:Bool} {col_InvalidTalk:Option Bool} {dd_InvalidTalk:Option Addr} {k0_InvalidTalk k1_InvalidTalk k2_InvalidTalk k3_InvalidTalk k5_InvalidTalk:Option Value}
  {f__law_pick:Addr} {od__law_pick an__law_pick:Option Addr} {sl__law_pick:Array (Option Value)} {oc__law_pick kV__law_pick dc__law_pick pm__law_pick cd__law_pick ct__law_pick:Value}
  {f__law_rows:Addr} {od__law_rows an__law_rows:Option Addr} {sl__law_rows:Array (Option Value)} {oc__law_rows kV__law_rows dc__law_rows pm__law_rows cd__law_rows ct__law_rows:Value}
  {f__law_value:Addr} {od__law_value an__law_value:Option Addr} {sl__law_value:Array (Option Value)} {oc__law_value kV__law_value dc__law_value pm__law_value cd__law_value ct__law_value:Value}
  {f_is_pair:Addr} {od_is_pair an_is_pair:Option Addr} {sl_is_pair:Array (Option Value)} {oc_is_pair kV_is_pair dc_is_pair pm_is_pair cd_is_pair ct_is_pair:Value}
  {f_is_value:Addr} {od_is_value an_is_value:Option Addr} {sl_is_value:Array (Option Value)} {oc_is_value kV_is_value dc_is_value pm_is_value cd_is_value ct_is_value:Value}
  {f_lowest:Addr} {od_lowest an_lowest:Option Addr} {sl_lowest:Array (Option Value)} {oc_lowest kV_lowest dc_lowest pm_lowest cd_lowest ct_lowest:Value}
  {f_as_pair:Addr} {od_as_pair an_as_pair:Option Addr} {sl_as_pair:Array (Option Value)} {oc_as_pair kV_as_pair dc_as_pair pm_as_pair cd_as_pair ct_as_pair:Value}
  {f_checked_numbers:Addr} {od_checked_numbers an_checked_numbers:Option Addr} {sl_checked_numbers:Array (Option Value)} {oc_checked_numbers kV_checked_numbers dc_checked_numbers pm_checked_numbers cd_checked_numbers ct_checked_numbers:Value}
  {f_InvalidNumbers___init__:Addr} {od_InvalidNumbers___init__ an_InvalidNumbers___init__:Option Addr} {sl_InvalidNumbers___init__:Array (Option Value)} {oc_InvalidNumbers___init__ kV_InvalidNumbers___init__ dc_InvalidNumbers___init__ pm_InvalidNumbers___init__ cd_InvalidNumbers___init__ ct_InvalidNumbers___init__:Value}
  {nm_InvalidNumbers q_InvalidNumbers:Str} {N_InvalidNumbers:Addr} {bs_InvalidNumbers:List Value} {sn_InvalidNumbers:List Str} {su_InvalidNumbers:List Value} {ab_InvalidNumbers:Bool} {col_InvalidNumbers:Option Bool} {dd_InvalidNumbers:Option Addr} {k0_InvalidNumbers k1_InvalidNumbers k2_InvalidNumbers k3_InvalidNumbers k5_InvalidNumbers:Option Value}
  {f_common_multiple:Addr} {od_common_multiple an_common_multiple:Option Addr} {sl_common_multiple:Array (Option Value)} {oc_common_multiple kV_common_multiple dc_common_multiple pm_common_multiple cd_common_multiple ct_common_multiple:Value}
  {f_even_tops:Addr} {od_even_tops an_even_tops:Option Addr} {sl_even_tops:Array (Option Value)} {oc_even_tops kV_even_tops dc_even_tops pm_even_tops cd_even_tops ct_even_tops:Value}
  {f_means:Addr} {od_means an_means:Option Addr} {sl_means:Array (Option Value)} {oc_means kV_means dc_means pm_means cd_means ct_means:Value}
  {f_Talk_led:Addr} {od_Talk_led an_Talk_led:Option Addr} {sl_Talk_led:Array (Option Value)} {oc_Talk_led kV_Talk_led dc_Talk_led pm_Talk_led cd_Talk_led ct_Talk_led:Value}
  {f__law_refused:Addr} {od__law_refused an__law_refused:Option Addr} {sl__law_refused:Array (Option Value)} {oc__law_refused kV__law_refused dc__law_refused pm__law_refused cd__law_refused ct__law_refused:Value}
  {f__law_any:Addr} {od__law_any an__law_any:Option Addr} {sl__law_any:Array (Option Value)} {oc__law_any kV__law_any dc__law_any pm__law_any cd__law_any ct__law_any:Value}
  {f__law_deep:Addr} {od__law_deep an__law_deep:Option Addr} {sl__law_deep:Array (Option Value)} {oc__law_deep kV__law_deep dc__law_deep pm__law_deep cd__law_deep ct__law_deep:Value}
  {f__law_is_whole:Addr} {od__law_is_whole an__law_is_whole:Option Addr} {sl__law_is_whole:Array (Option Value)} {oc__law_is_whole kV__law_is_whole dc__law_is_whole pm__law_is_whole cd__law_is_whole ct__law_is_whole:Value}
  {f__law_is_value:Addr} {od__law_is_value an__law_is_value:Option Addr} {sl__law_is_value:Array (Option Value)} {oc__law_is_value kV__law_is_value dc__law_is_value pm__law_is_value cd__law_is_value ct__law_is_value:Value}
  {f__law_due:Addr} {od__law_due an__law_due:Option Addr} {sl__law_due:Array (Option Value)} {oc__law_due kV__law_due dc__law_due pm__law_due cd__law_due ct__law_due:Value}
  {f_law:Addr} {od_law an_law:Option Addr} {sl_law:Array (Option Value)} {oc_law kV_law dc_law pm_law cd_law ct_law:Value}
  (a_InvalidNumbers:PySem.W.nsIn K mainGlobals "InvalidNumbers" = some (some (.ref c_InvalidNumbers)))
  (a_TalkError:PySem.W.nsIn K mainGlobals "TalkError" = some (some (.ref c_TalkError)))
  (a_InvalidTalk:PySem.W.nsIn K mainGlobals "InvalidTalk" = some (some (.ref c_InvalidTalk)))
  (a_Talk:PySem.W.nsIn K mainGlobals "Talk" = some (some (.ref c_Talk)))
  (a__law_box:PySem.W.nsIn K mainGlobals "_law_box" = some (some (.ref f__law_box)))
  (l__law_box:K.lookup f__law_box=some ⟨oc__law_box,od__law_box,.func (PySem.W.fnOf "_law_box" "_law_box" (defArgs s__law_box) (defBody s__law_box) (defScope s__law_box) .none kV__law_box dc__law_box pm__law_box an__law_box cd__law_box ct__law_box),sl__law_box⟩)
  (c__law_box:PySem.W.codeIn K cd__law_box "_law_box" = true)
  (k__law_box:PySem.W.keepIn K (.ref f__law_box)=true)
  (zlen:PySem.W.nsIn K mainGlobals "len" = some none)
  (zabs:PySem.W.nsIn K mainGlobals "abs" = some none)
  (zint:PySem.W.nsIn K mainGlobals "int" = some none)
  (a__law_take:PySem.W.nsIn K mainGlobals "_law_take" = some (some (.ref f__law_take)))
  (l__law_take:K.lookup f__law_take=some ⟨oc__law_take,od__law_take,.func (PySem.W.fnOf "_law_take" "_law_take" (defArgs s__law_take) (defBody s__law_take) (defScope s__law_take) .none kV__law_take dc__law_take pm__law_take an__law_take cd__law_take ct__law_take),sl__law_take⟩)
  (c__law_take:PySem.W.codeIn K cd__law_take "_law_take" = true)
  (k__law_take:PySem.W.keepIn K (.ref f__law_take)=true)
  (a_is_sequence:PySem.W.nsIn K mainGlobals "is_sequence" = some (some (.ref f_is_sequence)))
  (l_is_sequence:K.lookup f_is_sequence=some ⟨oc_is_sequence,od_is_sequence,.func (PySem.W.fnOf "is_sequence" "is_sequence" (defArgs s_is_sequence) (defBody s_is_sequence) (defScope s_is_sequence) .none kV_is_sequence dc_is_sequence pm_is_sequence an_is_sequence cd_is_sequence ct_is_sequence),sl_is_sequence⟩)
  (c_is_sequence:PySem.W.codeIn K cd_is_sequence "is_sequence" = true)
  (k_is_sequence:PySem.W.keepIn K (.ref f_is_sequence)=true)
  (zisinstance:PySem.W.nsIn K mainGlobals "isinstance" = some none)
  (zlist:PySem.W.nsIn K mainGlobals "list" = some none)
  (ztuple:PySem.W.nsIn K mainGlobals "tuple" = some none)
  (a_is_int:PySem.W.nsIn K mainGlobals "is_int" = some (some (.ref f_is_int)))
  (l_is_int:K.lookup f_is_int=some ⟨oc_is_int,od_is_int,.func (PySem.W.fnOf "is_int" "is_int" (defArgs s_is_int) (defBody s_is_int) (defScope s_is_int) .none kV_is_int dc_is_int pm_is_int an_is_int cd_is_int ct_is_int),sl_is_int⟩)
  (c_is_int:PySem.W.codeIn K cd_is_int "is_int" = true)
  (k_is_int:PySem.W.keepIn K (.ref f_is_int)=true)
  (zbool:PySem.W.nsIn K mainGlobals "bool" = some none)
  (a_is_number:PySem.W.nsIn K mainGlobals "is_number" = some (some (.ref f_is_number)))
  (l_is_number:K.lookup f_is_number=some ⟨oc_is_number,od_is_number,.func (PySem.W.fnOf "is_number" "is_number" (defArgs s_is_number) (defBody s_is_number) (defScope s_is_number) .none kV_is_number dc_is_number pm_is_number an_is_number cd_is_number ct_is_number),sl_is_number⟩)
  (c_is_number:PySem.W.codeIn K cd_is_number "is_number" = true)
  (k_is_number:PySem.W.keepIn K (.ref f_is_number)=true)
  (a_is_row_of:PySem.W.nsIn K mainGlobals "is_row_of" = some (some (.ref f_is_row_of)))
  (l_is_row_of:K.lookup f_is_row_of=some ⟨oc_is_row_of,od_is_row_of,.func (PySem.W.fnOf "is_row_of" "is_row_of" (defArgs s_is_row_of) (defBody s_is_row_of) (defScope s_is_row_of) .none kV_is_row_of dc_is_row_of pm_is_row_of an_is_row_of cd_is_row_of ct_is_row_of),sl_is_row_of⟩)
  (c_is_row_of:PySem.W.codeIn K cd_is_row_of "is_row_of" = true)
  (k_is_row_of:PySem.W.keepIn K (.ref f_is_row_of)=true)
  (zall:PySem.W.nsIn K mainGlobals "all" = some none)
  (a_first_wrong_row:PySem.W.nsIn K mainGlobals "first_wrong_row" = some (some (.ref f_first_wrong_row)))
  (l_first_wrong_row:K.lookup f_first_wrong_row=some ⟨oc_first_wrong_row,od_first_wrong_row,.func (PySem.W.fnOf "first_wrong_row" "first_wrong_row" (defArgs s_first_wrong_row) (defBody s_first_wrong_row) (defScope s_first_wrong_row) .none kV_first_wrong_row dc_first_wrong_row pm_first_wrong_row an_first_wrong_row cd_first_wrong_row ct_first_wrong_row),sl_first_wrong_row⟩)
  (c_first_wrong_row:PySem.W.codeIn K cd_first_wrong_row "first_wrong_row" = true)
  (k_first_wrong_row:PySem.W.keepIn K (.ref f_first_wrong_row)=true)
  (zenumerate:PySem.W.nsIn K mainGlobals "enumerate" = some none)
  (a_common_divisor:PySem.W.nsIn K mainGlobals "common_divisor" = some (some (.ref f_common_divisor)))
  (l_common_divisor:K.lookup f_common_divisor=some ⟨oc_common_divisor,od_common_divisor,.func (PySem.W.fnOf "common_divisor" "common_divisor" (defArgs s_common_divisor) (defBody s_common_divisor) (defScope s_common_divisor) .none kV_common_divisor dc_common_divisor pm_common_divisor an_common_divisor cd_common_divisor ct_common_divisor),sl_common_divisor⟩)
  (c_common_divisor:PySem.W.codeIn K cd_common_divisor "common_divisor" = true)
  (k_common_divisor:PySem.W.keepIn K (.ref f_common_divisor)=true)
  (zgcd:PySem.W.nsIn K mainGlobals "gcd" = some (some (.builtin "math.gcd")))
  (a_normal_row:PySem.W.nsIn K mainGlobals "normal_row" = some (some (.ref f_normal_row)))
  (l_normal_row:K.lookup f_normal_row=some ⟨oc_normal_row,od_normal_row,.func (PySem.W.fnOf "normal_row" "normal_row" (defArgs s_normal_row) (defBody s_normal_row) (defScope s_normal_row) .none kV_normal_row dc_normal_row pm_normal_row an_normal_row cd_normal_row ct_normal_row),sl_normal_row⟩)
  (c_normal_row:PySem.W.codeIn K cd_normal_row "normal_row" = true)
  (k_normal_row:PySem.W.keepIn K (.ref f_normal_row)=true)
  (fi_Talk___init__:PySem.W.findIn K (.ref c_Talk) "__init__" = some (some (.ref f_Talk___init__)))
  (l_Talk___init__:K.lookup f_Talk___init__=some ⟨oc_Talk___init__,od_Talk___init__,.func (PySem.W.fnOf "__init__" "Talk.__init__" (defArgs s_Talk___init__) (defBody s_Talk___init__) (defScope s_Talk___init__) .none kV_Talk___init__ dc_Talk___init__ pm_Talk___init__ an_Talk___init__ cd_Talk___init__ ct_Talk___init__),sl_Talk___init__⟩)
  (c_Talk___init__:PySem.W.codeIn K cd_Talk___init__ "Talk.__init__" = true)
  (k_Talk___init__:PySem.W.keepIn K (.ref f_Talk___init__)=true)
  (if_Talk___init__:PySem.W.isFn K (.ref f_Talk___init__)=true)
  (fi_InvalidTalk___init__:PySem.W.findIn K (.ref c_InvalidTalk) "__init__" = some (some (.ref f_InvalidTalk___init__)))
  (l_InvalidTalk___init__:K.lookup f_InvalidTalk___init__=some ⟨oc_InvalidTalk___init__,od_InvalidTalk___init__,.func (PySem.W.fnOf "__init__" "InvalidTalk.__init__" (defArgs s_InvalidTalk___init__) (defBody s_InvalidTalk___init__) (defScope s_InvalidTalk___init__) .none kV_InvalidTalk___init__ dc_InvalidTalk___init__ pm_InvalidTalk___init__ an_InvalidTalk___init__ cd_InvalidTalk___init__ ct_InvalidTalk___init__),sl_InvalidTalk___init__⟩)
  (c_InvalidTalk___init__:PySem.W.codeIn K cd_InvalidTalk___init__ "InvalidTalk.__init__" = true)
  (k_InvalidTalk___init__:PySem.W.keepIn K (.ref f_InvalidTalk___init__)=true)
  (xl_InvalidTalk:K.lookup c_InvalidTalk=some (excClassObj nm_InvalidTalk q_InvalidTalk c_InvalidTalk N_InvalidTalk bs_InvalidTalk [.ref c_TalkError,.type "ValueError",.type "Exception",.type "BaseException",.type "object"] true sn_InvalidTalk su_InvalidTalk ab_InvalidTalk col_InvalidTalk dd_InvalidTalk k0_InvalidTalk k1_InvalidTalk k2_InvalidTalk k3_InvalidTalk k5_InvalidTalk "ValueError.__new__"))
  (sa_InvalidTalk:PySem.W.findIn K (.ref c_InvalidTalk) "__setattr__" = some (some (.builtin "object.__setattr__")))
  (na_InvalidTalk_at:PySem.W.findIn K (.ref c_InvalidTalk) "at" = some none)
  (tf_InvalidTalk:PySem.W.typeIn K (.ref f_InvalidTalk___init__)=some (.type "function"))
  (ty_InvalidTalk:PySem.W.typeIn K (.ref c_InvalidTalk)=some (.type "type"))
  (kp_InvalidTalk:PySem.W.keepIn K (.ref c_InvalidTalk)=true)
  (ex_InvalidTalk:PySem.W.subIn K (.ref c_InvalidTalk) (.type "BaseException")=some true)
  (pg_Talk:PySem.W.plainGet K c_Talk Str.empty=true)
  (hd_Talk:PySem.W.hasDictIn K c_Talk=true)
  (po_Talk:PySem.W.plainOver K c_Talk=true)
  (sa_Talk:PySem.W.findIn K (.ref c_Talk) "__setattr__" = some (some (.builtin "object.__setattr__")))
  (na_Talk_rows:PySem.W.findIn K (.ref c_Talk) "rows" = some none)
  (a__law_pick:PySem.W.nsIn K mainGlobals "_law_pick" = some (some (.ref f__law_pick)))
  (l__law_pick:K.lookup f__law_pick=some ⟨oc__law_pick,od__law_pick,.func (PySem.W.fnOf "_law_pick" "_law_pick" (defArgs s__law_pick) (defBody s__law_pick) (defScope s__law_pick) .none kV__law_pick dc__law_pick pm__law_pick an__law_pick cd__law_pick ct__law_pick),sl__law_pick⟩)
  (c__law_pick:PySem.W.codeIn K cd__law_pick "_law_pick" = true)
  (k__law_pick:PySem.W.keepIn K (.ref f__law_pick)=true)
  (a__law_rows:PySem.W.nsIn K mainGlobals "_law_rows" = some (some (.ref f__law_rows)))
  (l__law_rows:K.lookup f__law_rows=some ⟨oc__law_rows,od__law_rows,.func (PySem.W.fnOf "_law_rows" "_law_rows" (defArgs s__law_rows) (defBody s__law_rows) (defScope s__law_rows) .none kV__law_rows dc__law_rows pm__law_rows an__law_rows cd__law_rows ct__law_rows),sl__law_rows⟩)
  (c__law_rows:PySem.W.codeIn K cd__law_rows "_law_rows" = true)
  (k__law_rows:PySem.W.keepIn K (.ref f__law_rows)=true)
  (zrange:PySem.W.nsIn K mainGlobals "range" = some none)
  (a__law_value:PySem.W.nsIn K mainGlobals "_law_value" = some (some (.ref f__law_value)))
  (l__law_value:K.lookup f__law_value=some ⟨oc__law_value,od__law_value,.func (PySem.W.fnOf "_law_value" "_law_value" (defArgs s__law_value) (defBody s__law_value) (defScope s__law_value) .none kV__law_value dc__law_value pm__law_value an__law_value cd__law_value ct__law_value),sl__law_value⟩)
  (c__law_value:PySem.W.codeIn K cd__law_value "_law_value" = true)
  (k__law_value:PySem.W.keepIn K (.ref f__law_value)=true)
  (a_is_pair:PySem.W.nsIn K mainGlobals "is_pair" = some (some (.ref f_is_pair)))
  (l_is_pair:K.lookup f_is_pair=some ⟨oc_is_pair,od_is_pair,.func (PySem.W.fnOf "is_pair" "is_pair" (defArgs s_is_pair) (defBody s_is_pair) (defScope s_is_pair) .none kV_is_pair dc_is_pair pm_is_pair an_is_pair cd_is_pair ct_is_pair),sl_is_pair⟩)
  (c_is_pair:PySem.W.codeIn K cd_is_pair "is_pair" = true)
  (k_is_pair:PySem.W.keepIn K (.ref f_is_pair)=true)
  (a_is_value:PySem.W.nsIn K mainGlobals "is_value" = some (some (.ref f_is_value)))
  (l_is_value:K.lookup f_is_value=some ⟨oc_is_value,od_is_value,.func (PySem.W.fnOf "is_value" "is_value" (defArgs s_is_value) (defBody s_is_value) (defScope s_is_value) .none kV_is_value dc_is_value pm_is_value an_is_value cd_is_value ct_is_value),sl_is_value⟩)
  (c_is_value:PySem.W.codeIn K cd_is_value "is_value" = true)
  (k_is_value:PySem.W.keepIn K (.ref f_is_value)=true)
  (a_lowest:PySem.W.nsIn K mainGlobals "lowest" = some (some (.ref f_lowest)))
  (l_lowest:K.lookup f_lowest=some ⟨oc_lowest,od_lowest,.func (PySem.W.fnOf "lowest" "lowest" (defArgs s_lowest) (defBody s_lowest) (defScope s_lowest) .none kV_lowest dc_lowest pm_lowest an_lowest cd_lowest ct_lowest),sl_lowest⟩)
  (c_lowest:PySem.W.codeIn K cd_lowest "lowest" = true)
  (k_lowest:PySem.W.keepIn K (.ref f_lowest)=true)
  (a_as_pair:PySem.W.nsIn K mainGlobals "as_pair" = some (some (.ref f_as_pair)))
  (l_as_pair:K.lookup f_as_pair=some ⟨oc_as_pair,od_as_pair,.func (PySem.W.fnOf "as_pair" "as_pair" (defArgs s_as_pair) (defBody s_as_pair) (defScope s_as_pair) .none kV_as_pair dc_as_pair pm_as_pair an_as_pair cd_as_pair ct_as_pair),sl_as_pair⟩)
  (c_as_pair:PySem.W.codeIn K cd_as_pair "as_pair" = true)
  (k_as_pair:PySem.W.keepIn K (.ref f_as_pair)=true)
  (a_checked_numbers:PySem.W.nsIn K mainGlobals "checked_numbers" = some (some (.ref f_checked_numbers)))
  (l_checked_numbers:K.lookup f_checked_numbers=some ⟨oc_checked_numbers,od_checked_numbers,.func (PySem.W.fnOf "checked_numbers" "checked_numbers" (defArgs s_checked_numbers) (defBody s_checked_numbers) (defScope s_checked_numbers) .none kV_checked_numbers dc_checked_numbers pm_checked_numbers an_checked_numbers cd_checked_numbers ct_checked_numbers),sl_checked_numbers⟩)
  (c_checked_numbers:PySem.W.codeIn K cd_checked_numbers "checked_numbers" = true)
  (k_checked_numbers:PySem.W.keepIn K (.ref f_checked_numbers)=true)
  (fi_InvalidNumbers___init__:PySem.W.findIn K (.ref c_InvalidNumbers) "__init__" = some (some (.ref f_InvalidNumbers___init__)))
  (l_InvalidNumbers___init__:K.lookup f_InvalidNumbers___init__=some ⟨oc_InvalidNumbers___init__,od_InvalidNumbers___init__,.func (PySem.W.fnOf "__init__" "InvalidNumbers.__init__" (defArgs s_InvalidNumbers___init__) (defBody s_InvalidNumbers___init__) (defScope s_InvalidNumbers___init__) .none kV_InvalidNumbers___init__ dc_InvalidNumbers___init__ pm_InvalidNumbers___init__ an_InvalidNumbers___init__ cd_InvalidNumbers___init__ ct_InvalidNumbers___init__),sl_InvalidNumbers___init__⟩)
  (c_InvalidNumbers___init__:PySem.W.codeIn K cd_InvalidNumbers___init__ "InvalidNumbers.__init__" = true)
  (k_InvalidNumbers___init__:PySem.W.keepIn K (.ref f_InvalidNumbers___init__)=true)
  (xl_InvalidNumbers:K.lookup c_InvalidNumbers=some (excClassObj nm_InvalidNumbers q_InvalidNumbers c_InvalidNumbers N_InvalidNumbers bs_InvalidNumbers [.ref c_TalkError,.type "ValueError",.type "Exception",.type "BaseException",.type "object"] true sn_InvalidNumbers su_InvalidNumbers ab_InvalidNumbers col_InvalidNumbers dd_InvalidNumbers k0_InvalidNumbers k1_InvalidNumbers k2_InvalidNumbers k3_InvalidNumbers k5_InvalidNumbers "ValueError.__new__"))
  (sa_InvalidNumbers:PySem.W.findIn K (.ref c_InvalidNumbers) "__setattr__" = some (some (.builtin "object.__setattr__")))
  (na_InvalidNumbers_at:PySem.W.findIn K (.ref c_InvalidNumbers) "at" = some none)
  (tf_InvalidNumbers:PySem.W.typeIn K (.ref f_InvalidNumbers___init__)=some (.type "function"))
  (ty_InvalidNumbers:PySem.W.typeIn K (.ref c_InvalidNumbers)=some (.type "type"))
  (kp_InvalidNumbers:PySem.W.keepIn K (.ref c_InvalidNumbers)=true)
  (ex_InvalidNumbers:PySem.W.subIn K (.ref c_InvalidNumbers) (.type "BaseException")=some true)
  (a_common_multiple:PySem.W.nsIn K mainGlobals "common_multiple" = some (some (.ref f_common_multiple)))
  (l_common_multiple:K.lookup f_common_multiple=some ⟨oc_common_multiple,od_common_multiple,.func (PySem.W.fnOf "common_multiple" "common_multiple" (defArgs s_common_multiple) (defBody s_common_multiple) (defScope s_common_multiple) .none kV_common_multiple dc_common_multiple pm_common_multiple an_common_multiple cd_common_multiple ct_common_multiple),sl_common_multiple⟩)
  (c_common_multiple:PySem.W.codeIn K cd_common_multiple "common_multiple" = true)
  (k_common_multiple:PySem.W.keepIn K (.ref f_common_multiple)=true)
  (zlcm:PySem.W.nsIn K mainGlobals "lcm" = some (some (.builtin "math.lcm")))
  (a_even_tops:PySem.W.nsIn K mainGlobals "even_tops" = some (some (.ref f_even_tops)))
  (l_even_tops:K.lookup f_even_tops=some ⟨oc_even_tops,od_even_tops,.func (PySem.W.fnOf "even_tops" "even_tops" (defArgs s_even_tops) (defBody s_even_tops) (defScope s_even_tops) .none kV_even_tops dc_even_tops pm_even_tops an_even_tops cd_even_tops ct_even_tops),sl_even_tops⟩)
  (c_even_tops:PySem.W.codeIn K cd_even_tops "even_tops" = true)
  (k_even_tops:PySem.W.keepIn K (.ref f_even_tops)=true)
  (a_means:PySem.W.nsIn K mainGlobals "means" = some (some (.ref f_means)))
  (l_means:K.lookup f_means=some ⟨oc_means,od_means,.func (PySem.W.fnOf "means" "means" (defArgs s_means) (defBody s_means) (defScope s_means) .none kV_means dc_means pm_means an_means cd_means ct_means),sl_means⟩)
  (c_means:PySem.W.codeIn K cd_means "means" = true)
  (k_means:PySem.W.keepIn K (.ref f_means)=true)
  (zsum:PySem.W.nsIn K mainGlobals "sum" = some none)
  (zzip:PySem.W.nsIn K mainGlobals "zip" = some none)
  (fi_Talk_led:PySem.W.findIn K (.ref c_Talk) "led" = some (some (.ref f_Talk_led)))
  (l_Talk_led:K.lookup f_Talk_led=some ⟨oc_Talk_led,od_Talk_led,.func (PySem.W.fnOf "led" "Talk.led" (defArgs s_Talk_led) (defBody s_Talk_led) (defScope s_Talk_led) .none kV_Talk_led dc_Talk_led pm_Talk_led an_Talk_led cd_Talk_led ct_Talk_led),sl_Talk_led⟩)
  (c_Talk_led:PySem.W.codeIn K cd_Talk_led "Talk.led" = true)
  (k_Talk_led:PySem.W.keepIn K (.ref f_Talk_led)=true)
  (if_Talk_led:PySem.W.isFn K (.ref f_Talk_led)=true)
  (a__law_refused:PySem.W.nsIn K mainGlobals "_law_refused" = some (some (.ref f__law_refused)))
  (l__law_refused:K.lookup f__law_refused=some ⟨oc__law_refused,od__law_refused,.func (PySem.W.fnOf "_law_refused" "_law_refused" (defArgs s__law_refused) (defBody s__law_refused) (defScope s__law_refused) .none kV__law_refused dc__law_refused pm__law_refused an__law_refused cd__law_refused ct__law_refused),sl__law_refused⟩)
  (c__law_refused:PySem.W.codeIn K cd__law_refused "_law_refused" = true)
  (k__law_refused:PySem.W.keepIn K (.ref f__law_refused)=true)
  (hd_InvalidNumbers:PySem.W.hasDictIn K c_InvalidNumbers=true)
  (su_InvalidNumbers_InvalidNumbers:PySem.W.subIn K (.ref c_InvalidNumbers) (.ref c_InvalidNumbers)=some true)
  (xga_InvalidNumbers:PySem.W.findIn K (.ref c_InvalidNumbers) "__getattribute__" = some (some (.builtin "BaseException.__getattribute__")))
  (xgg_InvalidNumbers:PySem.W.findIn K (.ref c_InvalidNumbers) "__getattr__" = some none)
  (kx_InvalidNumbers_TalkError:PySem.W.kitOne K (.ref c_InvalidNumbers) (.ref c_TalkError)=some true)
  (kx_InvalidNumbers_InvalidTalk:PySem.W.kitOne K (.ref c_InvalidNumbers) (.ref c_InvalidTalk)=some false)
  (xca_InvalidNumbers:PySem.W.findIn K (.ref c_InvalidNumbers) "__class__" = some (some (.builtin "object.__class__")))
  (xspo:PySem.W.specialIn K (.builtin "object.__class__") "__get__" = some (some (.builtin "getset_descriptor.__get__")))
  (xtko:PySem.W.takesIn K (.builtin "object.__class__")=some true)
  (xmo_InvalidNumbers:PySem.W.mroIn K c_InvalidNumbers (.type "object")=some true)
  (a__law_any:PySem.W.nsIn K mainGlobals "_law_any" = some (some (.ref f__law_any)))
  (l__law_any:K.lookup f__law_any=some ⟨oc__law_any,od__law_any,.func (PySem.W.fnOf "_law_any" "_law_any" (defArgs s__law_any) (defBody s__law_any) (defScope s__law_any) .none kV__law_any dc__law_any pm__law_any an__law_any cd__law_any ct__law_any),sl__law_any⟩)
  (c__law_any:PySem.W.codeIn K cd__law_any "_law_any" = true)
  (k__law_any:PySem.W.keepIn K (.ref f__law_any)=true)
  (a__law_deep:PySem.W.nsIn K mainGlobals "_law_deep" = some (some (.ref f__law_deep)))
  (l__law_deep:K.lookup f__law_deep=some ⟨oc__law_deep,od__law_deep,.func (PySem.W.fnOf "_law_deep" "_law_deep" (defArgs s__law_deep) (defBody s__law_deep) (defScope s__law_deep) .none kV__law_deep dc__law_deep pm__law_deep an__law_deep cd__law_deep ct__law_deep),sl__law_deep⟩)
  (c__law_deep:PySem.W.codeIn K cd__law_deep "_law_deep" = true)
  (k__law_deep:PySem.W.keepIn K (.ref f__law_deep)=true)
  (a__law_is_whole:PySem.W.nsIn K mainGlobals "_law_is_whole" = some (some (.ref f__law_is_whole)))
  (l__law_is_whole:K.lookup f__law_is_whole=some ⟨oc__law_is_whole,od__law_is_whole,.func (PySem.W.fnOf "_law_is_whole" "_law_is_whole" (defArgs s__law_is_whole) (defBody s__law_is_whole) (defScope s__law_is_whole) .none kV__law_is_whole dc__law_is_whole pm__law_is_whole an__law_is_whole cd__law_is_whole ct__law_is_whole),sl__law_is_whole⟩)
  (c__law_is_whole:PySem.W.codeIn K cd__law_is_whole "_law_is_whole" = true)
  (k__law_is_whole:PySem.W.keepIn K (.ref f__law_is_whole)=true)
  (a__law_is_value:PySem.W.nsIn K mainGlobals "_law_is_value" = some (some (.ref f__law_is_value)))
  (l__law_is_value:K.lookup f__law_is_value=some ⟨oc__law_is_value,od__law_is_value,.func (PySem.W.fnOf "_law_is_value" "_law_is_value" (defArgs s__law_is_value) (defBody s__law_is_value) (defScope s__law_is_value) .none kV__law_is_value dc__law_is_value pm__law_is_value an__law_is_value cd__law_is_value ct__law_is_value),sl__law_is_value⟩)
  (c__law_is_value:PySem.W.codeIn K cd__law_is_value "_law_is_value" = true)
  (k__law_is_value:PySem.W.keepIn K (.ref f__law_is_value)=true)
  (a__law_due:PySem.W.nsIn K mainGlobals "_law_due" = some (some (.ref f__law_due)))
  (l__law_due:K.lookup f__law_due=some ⟨oc__law_due,od__law_due,.func (PySem.W.fnOf "_law_due" "_law_due" (defArgs s__law_due) (defBody s__law_due) (defScope s__law_due) .none kV__law_due dc__law_due pm__law_due an__law_due cd__law_due ct__law_due),sl__law_due⟩)
  (c__law_due:PySem.W.codeIn K cd__law_due "_law_due" = true)
  (k__law_due:PySem.W.keepIn K (.ref f__law_due)=true)
  (a_law:PySem.W.nsIn K mainGlobals "law" = some (some (.ref f_law)))
  (l_law:K.lookup f_law=some ⟨oc_law,od_law,.func (PySem.W.fnOf "law" "law" (defArgs s_law) (defBody s_law) (defScope s_law) .none kV_law dc_law pm_law an_law cd_law ct_law),sl_law⟩)
  (c_law:PySem.W.codeIn K cd_law "law" = true)
  (k_law:PySem.W.keepIn K (.ref f_law)=true)
  (zmax:PySem.W.nsIn K mainGlobals "max" = some none)
  (zmin:PySem.W.nsIn K mainGlobals "min" = some none)
  (mk_Talk_:PySem.W.makesIn K c_Talk=true)
  (kp_Talk:PySem.W.keepIn K (.ref c_Talk)=true)
  (zrepr:PySem.W.nsIn K mainGlobals "repr" = some none)
  : ∃ fd:FuncData,(∀ (s:Shared) (v:Value),BindsTo s fd ⟨[v],[]⟩ [("_law_script",v)])∧∀ base:Heap,K.In base→base.Ns mainGlobals mg→FnG l.prog w K mg base CX0 9 fa fd ["_law_script"] (spLaw K):=by
 have e:=hfa.symm.trans (PySem.W.mg_of X G a_law)
 cases e
 refine ⟨PySem.W.fnOf "law" "law" (defArgs s_law) (defBody s_law) (defScope s_law) .none kV_law dc_law pm_law an_law cd_law ct_law,fun s v=>.of_eq rfl,fun base _ _=>?_⟩
 let C:Cl:=⟨fun n=>match n with | 5=>c_InvalidNumbers | 0=>c_TalkError | 1=>c_InvalidTalk | 10=>c_Talk | _=>0,Sh.att,w,l.prog⟩
 have m_len:=PySem.W.mg_none_of X G zlen
 have m_abs:=PySem.W.mg_none_of X G zabs
 have m_int:=PySem.W.mg_none_of X G zint
 have h__law_box:=ok__law_box (P:=l.prog) (w:=w) (base:=base) (C:=C) (fun_mk (st:=s__law_box) l__law_box c__law_box k__law_box) (PySem.W.mg_of X G a__law_box) m_len m_abs m_int
 have h__law_take:=ok__law_take (P:=l.prog) (w:=w) (base:=base) (C:=C) (fun_mk (st:=s__law_take) l__law_take c__law_take k__law_take) (PySem.W.mg_of X G a__law_take) m_int
 have m_isinstance:=PySem.W.mg_none_of X G zisinstance
 have m_list:=PySem.W.mg_none_of X G zlist
 have m_tuple:=PySem.W.mg_none_of X G ztuple
 have h_is_sequence:=ok_is_sequence (P:=l.prog) (w:=w) (base:=base) (C:=C) (fun_mk (st:=s_is_sequence) l_is_sequence c_is_sequence k_is_sequence) (PySem.W.mg_of X G a_is_sequence) m_isinstance m_list m_tuple
 have m_bool:=PySem.W.mg_none_of X G zbool
 have h_is_int:=ok_is_int (P:=l.prog) (w:=w) (base:=base) (C:=C) (fun_mk (st:=s_is_int) l_is_int c_is_int k_is_int) (PySem.W.mg_of X G a_is_int) m_isinstance m_int m_bool
 have h_is_number:=ok_is_number (P:=l.prog) (w:=w) (base:=base) (C:=C) (fun_mk (st:=s_is_number) l_is_number c_is_number k_is_number) (PySem.W.mg_of X G a_is_number) h_is_int
 have m_all:=PySem.W.mg_none_of X G zall
 have h_is_row_of:=ok_is_row_of (P:=l.prog) (w:=w) (base:=base) (C:=C) (fun_mk (st:=s_is_row_of) l_is_row_of c_is_row_of k_is_row_of) (PySem.W.mg_of X G a_is_row_of) h_is_sequence m_len m_all h_is_number
 have m_enumerate:=PySem.W.mg_none_of X G zenumerate
 have h_first_wrong_row:=ok_first_wrong_row (P:=l.prog) (w:=w) (base:=base) (C:=C) (fun_mk (st:=s_first_wrong_row) l_first_wrong_row c_first_wrong_row k_first_wrong_row) (PySem.W.mg_of X G a_first_wrong_row) h_is_sequence m_len m_enumerate h_is_row_of
 have m_gcd:=PySem.W.mg_of X G zgcd
 have h_common_divisor:=ok_common_divisor (P:=l.prog) (w:=w) (base:=base) (C:=C) (fun_mk (st:=s_common_divisor) l_common_divisor c_common_divisor k_common_divisor) (PySem.W.mg_of X G a_common_divisor) m_gcd
 have h_normal_row:=ok_normal_row (P:=l.prog) (w:=w) (base:=base) (C:=C) (fun_mk (st:=s_normal_row) l_normal_row c_normal_row k_normal_row) (PySem.W.mg_of X G a_normal_row) h_common_divisor m_tuple
 have rs_InvalidTalk:RaiseOk l.prog w K mg base C 1 "InvalidTalk" 1 "at" := by
  have F0:=fun_mk (st:=s_InvalidTalk___init__) l_InvalidTalk___init__ c_InvalidTalk___init__ k_InvalidTalk___init__
  exact ⟨_,_,"at",⟨⟨_,_,_,_,_,_,_,_,_,_,_,_,_,_,_,xl_InvalidTalk,rfl⟩,sa_InvalidTalk,ex_InvalidTalk,ty_InvalidTalk,kp_InvalidTalk⟩,⟨⟨_,_,_,_,_,_,_,_,_,_,_,_,_,_,_,_,_,_,_,xl_InvalidTalk,F.excBase_ValueError,tailVE,fun self=>PySem.HandSPX.refsVE_pass self _ rfl,obVE⟩,sa_InvalidTalk,kp_InvalidTalk⟩,fi_InvalidTalk___init__,tf_InvalidTalk,ok_InvalidTalk___init__ F0,F0.binds fun _ _ _ _ _ _ us hl=>match us,hl with | [_,_],_=>rfl,PySem.W.mg_of X G a_InvalidTalk,na_InvalidTalk_at⟩
 have cl_Talk:Cls K c_Talk:=⟨pg_Talk,hd_Talk,po_Talk,sa_Talk⟩
 have fl_rows:FldOk K C att "rows" := ⟨rfl,fun c h=>by
  have hc:c=10:=by
   unfold Sh.att at h
   split at h <;> first | exact rfl | (exfalso; revert h; decide +kernel)
  rcases hc with rfl
  ·exact ⟨cl_Talk,na_Talk_rows⟩⟩
 have o_Talk___init__:=ok_Talk___init__ (P:=l.prog) (w:=w) (mg:=mg) (base:=base) (C:=C) (fun_mk (st:=s_Talk___init__) l_Talk___init__ c_Talk___init__ k_Talk___init__) h_first_wrong_row rs_InvalidTalk fl_rows m_tuple h_normal_row
 have h__law_pick:=ok__law_pick (P:=l.prog) (w:=w) (base:=base) (C:=C) (fun_mk (st:=s__law_pick) l__law_pick c__law_pick k__law_pick) (PySem.W.mg_of X G a__law_pick) h__law_take m_len
 have m_range:=PySem.W.mg_none_of X G zrange
 have h__law_rows:=ok__law_rows (P:=l.prog) (w:=w) (base:=base) (C:=C) (fun_mk (st:=s__law_rows) l__law_rows c__law_rows k__law_rows) (PySem.W.mg_of X G a__law_rows) m_range h__law_pick h__law_take
 have h__law_value:=ok__law_value (P:=l.prog) (w:=w) (base:=base) (C:=C) (fun_mk (st:=s__law_value) l__law_value c__law_value k__law_value) (PySem.W.mg_of X G a__law_value) h__law_pick h__law_take
 have h_is_pair:=ok_is_pair (P:=l.prog) (w:=w) (base:=base) (C:=C) (fun_mk (st:=s_is_pair) l_is_pair c_is_pair k_is_pair) (PySem.W.mg_of X G a_is_pair) m_isinstance m_tuple m_len
 have h_is_value:=ok_is_value (P:=l.prog) (w:=w) (base:=base) (C:=C) (fun_mk (st:=s_is_value) l_is_value c_is_value k_is_value) (PySem.W.mg_of X G a_is_value) h_is_pair h_is_int
 have h_lowest:=ok_lowest (P:=l.prog) (w:=w) (base:=base) (C:=C) (fun_mk (st:=s_lowest) l_lowest c_lowest k_lowest) (PySem.W.mg_of X G a_lowest) m_gcd
 have h_as_pair:=ok_as_pair (P:=l.prog) (w:=w) (base:=base) (C:=C) (fun_mk (st:=s_as_pair) l_as_pair c_as_pair k_as_pair) (PySem.W.mg_of X G a_as_pair) h_is_pair h_lowest
 have rs_InvalidNumbers:RaiseOk l.prog w K mg base C 1 "InvalidNumbers" 5 "at" := by
  have F0:=fun_mk (st:=s_InvalidNumbers___init__) l_InvalidNumbers___init__ c_InvalidNumbers___init__ k_InvalidNumbers___init__
  exact ⟨_,_,"at",⟨⟨_,_,_,_,_,_,_,_,_,_,_,_,_,_,_,xl_InvalidNumbers,rfl⟩,sa_InvalidNumbers,ex_InvalidNumbers,ty_InvalidNumbers,kp_InvalidNumbers⟩,⟨⟨_,_,_,_,_,_,_,_,_,_,_,_,_,_,_,_,_,_,_,xl_InvalidNumbers,F.excBase_ValueError,tailVE,fun self=>PySem.HandSPX.refsVE_pass self _ rfl,obVE⟩,sa_InvalidNumbers,kp_InvalidNumbers⟩,fi_InvalidNumbers___init__,tf_InvalidNumbers,ok_InvalidNumbers___init__ F0,F0.binds fun _ _ _ _ _ _ us hl=>match us,hl with | [_,_],_=>rfl,PySem.W.mg_of X G a_InvalidNumbers,na_InvalidNumbers_at⟩
 have h_checked_numbers:=ok_checked_numbers (P:=l.prog) (w:=w) (base:=base) (C:=C) (fun_mk (st:=s_checked_numbers) l_checked_numbers c_checked_numbers k_checked_numbers) (PySem.W.mg_of X G a_checked_numbers) h_is_sequence m_len rs_InvalidNumbers m_enumerate h_is_value m_tuple h_as_pair
 have m_lcm:=PySem.W.mg_of X G zlcm
 have h_common_multiple:=ok_common_multiple (P:=l.prog) (w:=w) (base:=base) (C:=C) (fun_mk (st:=s_common_multiple) l_common_multiple c_common_multiple k_common_multiple) (PySem.W.mg_of X G a_common_multiple) m_lcm
 have h_even_tops:=ok_even_tops (P:=l.prog) (w:=w) (base:=base) (C:=C) (fun_mk (st:=s_even_tops) l_even_tops c_even_tops k_even_tops) (PySem.W.mg_of X G a_even_tops) h_common_multiple
 have m_sum:=PySem.W.mg_none_of X G zsum
 have m_zip:=PySem.W.mg_none_of X G zzip
 have h_means:=ok_means (P:=l.prog) (w:=w) (base:=base) (C:=C) (fun_mk (st:=s_means) l_means c_means k_means) (PySem.W.mg_of X G a_means) h_even_tops m_sum m_zip m_tuple h_lowest
 have o_Talk_led:=ok_Talk_led (P:=l.prog) (w:=w) (mg:=mg) (base:=base) (C:=C) (fun_mk (st:=s_Talk_led) l_Talk_led c_Talk_led k_Talk_led) h_checked_numbers m_len fl_rows h_means
 have mh_led_T:MethOk l.prog w K mg base C 4 "led" mt_led_T:=⟨fun c F h=>by
  unfold Sh.mt_led_T at h
  split at h
  ·cases h
   obtain ⟨fd,hf,hb⟩:=o_Talk_led.ex
   exact ⟨cl_Talk,by show ("led" : Str)∉(["rows"]:List Str); decide +kernel,_,fd,_,⟨fi_Talk_led,if_Talk_led,k_Talk_led⟩,hf.mono (by decide),hb⟩
  ·cases h⟩
 have m_InvalidNumbers:mg "InvalidNumbers" = some (.ref c_InvalidNumbers):=PySem.W.mg_of X G a_InvalidNumbers
 have ex1_InvalidNumbers:PySem.W.exmOne K (.ref (C.adr 5)) (.ref (C.adr 5))=some true:=exm_of ex_InvalidNumbers hd_InvalidNumbers ty_InvalidNumbers su_InvalidNumbers_InvalidNumbers
 have xf_InvalidNumbers:XfC K (C.adr 5):=⟨xga_InvalidNumbers,xgg_InvalidNumbers,ex_InvalidNumbers,hd_InvalidNumbers⟩
 have kit_InvalidNumbers_TalkError:PySem.W.kitOne K (.ref (C.adr 5)) (.ref (C.adr 0))=some true:=kx_InvalidNumbers_TalkError
 have kit_InvalidNumbers_InvalidTalk:PySem.W.kitOne K (.ref (C.adr 5)) (.ref (C.adr 1))=some false:=kx_InvalidNumbers_InvalidTalk
 have no_InvalidNumbers_at:PySem.W.findIn K (.ref (C.adr 5)) "at" = some none:=na_InvalidNumbers_at
 have ec_InvalidNumbers:ExcC K (C.adr 5):=⟨xga_InvalidNumbers,xgg_InvalidNumbers,ex_InvalidNumbers,hd_InvalidNumbers,xca_InvalidNumbers,xspo,xtko,xmo_InvalidNumbers⟩
 have m_TalkError:mg "TalkError" = some (.ref c_TalkError):=PySem.W.mg_of X G a_TalkError
 have m_InvalidTalk:mg "InvalidTalk" = some (.ref c_InvalidTalk):=PySem.W.mg_of X G a_InvalidTalk
 have h__law_refused:=ok__law_refused (P:=l.prog) (w:=w) (base:=base) (C:=C) (fun_mk (st:=s__law_refused) l__law_refused c__law_refused k__law_refused) (PySem.W.mg_of X G a__law_refused) mh_led_T m_InvalidNumbers ex1_InvalidNumbers xf_InvalidNumbers m_isinstance kit_InvalidNumbers_TalkError kit_InvalidNumbers_InvalidTalk no_InvalidNumbers_at ec_InvalidNumbers m_TalkError m_InvalidTalk
 have h__law_any:=ok__law_any (P:=l.prog) (w:=w) (base:=base) (C:=C) (fun_mk (st:=s__law_any) l__law_any c__law_any k__law_any) (PySem.W.mg_of X G a__law_any) h__law_take m_range m_tuple h__law_pick
 have h__law_deep:=ok__law_deep (P:=l.prog) (w:=w) (base:=base) (C:=C) (fun_mk (st:=s__law_deep) l__law_deep c__law_deep k__law_deep) (PySem.W.mg_of X G a__law_deep) h__law_any m_isinstance m_list m_tuple m_range h__law_take
 have h__law_is_whole:=ok__law_is_whole (P:=l.prog) (w:=w) (base:=base) (C:=C) (fun_mk (st:=s__law_is_whole) l__law_is_whole c__law_is_whole k__law_is_whole) (PySem.W.mg_of X G a__law_is_whole) m_isinstance m_int m_bool
 have h__law_is_value:=ok__law_is_value (P:=l.prog) (w:=w) (base:=base) (C:=C) (fun_mk (st:=s__law_is_value) l__law_is_value c__law_is_value k__law_is_value) (PySem.W.mg_of X G a__law_is_value) m_isinstance m_tuple h__law_is_whole m_len
 have h__law_due:=ok__law_due (P:=l.prog) (w:=w) (base:=base) (C:=C) (fun_mk (st:=s__law_due) l__law_due c__law_due k__law_due) (PySem.W.mg_of X G a__law_due) m_isinstance m_list m_tuple m_len m_enumerate h__law_is_value
 have m_max:=PySem.W.mg_none_of X G zmax
 have m_min:=PySem.W.mg_none_of X G zmin
 have mk_Talk:MakeOk l.prog w K mg base C 5 "Talk" 10 F_Talk___init__ []:=by
  obtain ⟨fd,hf,hb⟩:=o_Talk___init__.ex
  exact ⟨_,fd,_,[],[],⟨mk_Talk_,fi_Talk___init__,if_Talk___init__,kp_Talk⟩,PySem.W.mg_of X G a_Talk,hf,hb,.nil,fun _=>.nil⟩
 have hA:C.att=att:=rfl
 have m_repr:=PySem.W.mg_none_of X G zrepr
 exact ok_law (C:=C) (fun_mk (st:=s_law) l_law c_law k_law) m_range m_max m_min m_len h__law_box h__law_take mk_Talk h__law_rows hA h__law_value h__law_refused h__law_any h__law_deep h__law_pick m_repr h__law_due law05_true
end K05
open PySem PySem.W PySem.Calls PyProof.Rows
namespace K05
end K05
open PySem PySem.W PyProof.Rows
set_option maxRecDepth 100000 in
set_option maxHeartbeats 0 in
theorem PySem.Challenge.cw_talkmeans_k05_numbers_that_are_refused_holds : PySem.Challenge.rw_talkmeans_k05_numbers_that_are_refused.Holds := by
 w_on; o_law
 refine HeadRun.head_imp (r:=K05.hR) (q:=K05.hV) (H:=K05.hH) (ob:=K05.hOb) (M:=12000) (loose:=K05.hNames) (kwd:=[]) K05.hOb_eq K05.hRun (by rfl) (by rfl) (by rfl) (by rfl) (by first | assumption | decide +kernel) (by decide +kernel) ⟨rfl,rfl,rfl,rfl,rfl,by decide +kernel⟩ ?hw ?hc
 case hw=>w_witness2
 case hc =>
 refine Tk.walkG (l:=PySem.Challenge.rw_talkmeans_k05_numbers_that_are_refused) (k:=9) (x := "_law_script") (sp:=Pl.spLaw) rfl rfl ⟨rfl,by decide,by decide⟩ (fun w h Y=>PySem.W.kIn_of Y) ?F (fun K H a ns hl _ hS=>⟨a,ns,rfl,hS,hl,fun _=>rfl⟩)
 case F =>
  intro w mg fa h KX G hmg
  refine' K05.all_mk KX G hmg ?a_InvalidNumbers ?a_TalkError ?a_InvalidTalk ?a_Talk ?a__law_box ?l__law_box ?c__law_box ?k__law_box ?zlen ?zabs ?zint ?a__law_take ?l__law_take ?c__law_take ?k__law_take ?a_is_sequence ?l_is_sequence ?c_is_sequence ?k_is_sequence ?zisinstance ?zlist ?ztuple ?a_is_int ?l_is_int ?c_is_int ?k_is_int ?zbool ?a_is_number ?l_is_number ?c_is_number ?k_is_number ?a_is_row_of ?l_is_row_of ?c_is_row_of ?k_is_row_of ?zall ?a_first_wrong_row ?l_first_wrong_row ?c_first_wrong_row ?k_first_wrong_row ?zenumerate ?a_common_divisor ?l_common_divisor ?c_common_divisor ?k_common_divisor ?zgcd ?a_normal_row ?l_normal_row ?c_normal_row ?k_normal_row ?fi_Talk___init__ ?l_Talk___init__ ?c_Talk___init__ ?k_Talk___init__ ?if_Talk___init__ ?fi_InvalidTalk___init__ ?l_InvalidTalk___init__ ?c_InvalidTalk___init__ ?k_InvalidTalk___init__ ?xl_InvalidTalk ?sa_InvalidTalk ?na_InvalidTalk_at ?tf_InvalidTalk ?ty_InvalidTalk ?kp_InvalidTalk ?ex_InvalidTalk ?pg_Talk ?hd_Talk ?po_Talk ?sa_Talk ?na_Talk_rows ?a__law_pick ?l__law_pick ?c__law_pick ?k__law_pick ?a__law_rows ?l__law_rows ?c__law_rows ?k__law_rows ?zrange ?a__law_value ?l__law_value ?c__law_value ?k__law_value ?a_is_pair ?l_is_pair ?c_is_pair ?k_is_pair ?a_is_value ?l_is_value ?c_is_value ?k_is_value ?a_lowest ?l_lowest ?c_lowest ?k_lowest ?a_as_pair ?l_as_pair ?c_as_pair ?k_as_pair ?a_checked_numbers ?l_checked_numbers ?c_checked_numbers ?k_checked_numbers ?fi_InvalidNumbers___init__ ?l_InvalidNumbers___init__ ?c_InvalidNumbers___init__ ?k_InvalidNumbers___init__ ?xl_InvalidNumbers ?sa_InvalidNumbers ?na_InvalidNumbers_at ?tf_InvalidNumbers ?ty_InvalidNumbers ?kp_InvalidNumbers ?ex_InvalidNumbers ?a_common_multiple ?l_common_multiple ?c_common_multiple ?k_common_multiple ?zlcm ?a_even_tops ?l_even_tops ?c_even_tops ?k_even_tops ?a_means ?l_means ?c_means ?k_means ?zsum ?zzip ?fi_Talk_led ?l_Talk_led ?c_Talk_led ?k_Talk_led ?if_Talk_led ?a__law_refused ?l__law_refused ?c__law_refused ?k__law_refused ?hd_InvalidNumbers ?su_InvalidNumbers_InvalidNumbers ?xga_InvalidNumbers ?xgg_InvalidNumbers ?kx_InvalidNumbers_TalkError ?kx_InvalidNumbers_InvalidTalk ?xca_InvalidNumbers ?xspo ?xtko ?xmo_InvalidNumbers ?a__law_any ?l__law_any ?c__law_any ?k__law_any ?a__law_deep ?l__law_deep ?c__law_deep ?k__law_deep ?a__law_is_whole ?l__law_is_whole ?c__law_is_whole ?k__law_is_whole ?a__law_is_value ?l__law_is_value ?c__law_is_value ?k__law_is_value ?a__law_due ?l__law_due ?c__law_due ?k__law_due ?a_law ?l_law ?c_law ?k_law ?zmax ?zmin ?mk_Talk_ ?kp_Talk ?zrepr
  (case a_InvalidNumbers=>k_is)
  (case a_TalkError=>k_is)
  (case a_InvalidTalk=>k_is)
  (case a_Talk=>k_is)
  (case a__law_box=>k_is)
  (case l__law_box=>k_is)
  (case c__law_box=>k_is)
  (case k__law_box=>k_is)
  (case zlen=>k_is)
  (case zabs=>k_is)
  (case zint=>k_is)
  (case a__law_take=>k_is)
  (case l__law_take=>k_is)
  (case c__law_take=>k_is)
  (case k__law_take=>k_is)
  (case a_is_sequence=>k_is)
  (case l_is_sequence=>k_is)
  (case c_is_sequence=>k_is)
  (case k_is_sequence=>k_is)
  (case zisinstance=>k_is)
  (case zlist=>k_is)
  (case ztuple=>k_is)
  (case a_is_int=>k_is)
  (case l_is_int=>k_is)
  (case c_is_int=>k_is)
  (case k_is_int=>k_is)
  (case zbool=>k_is)
  (case a_is_number=>k_is)
  (case l_is_number=>k_is)
  (case c_is_number=>k_is)
  (case k_is_number=>k_is)
  (case a_is_row_of=>k_is)
  (case l_is_row_of=>k_is)
  (case c_is_row_of=>k_is)
  (case k_is_row_of=>k_is)
  (case zall=>k_is)
  (case a_first_wrong_row=>k_is)
  (case l_first_wrong_row=>k_is)
  (case c_first_wrong_row=>k_is)
  (case k_first_wrong_row=>k_is)
  (case zenumerate=>k_is)
  (case a_common_divisor=>k_is)
  (case l_common_divisor=>k_is)
  (case c_common_divisor=>k_is)
  (case k_common_divisor=>k_is)
  (case zgcd=>k_is)
  (case a_normal_row=>k_is)
  (case l_normal_row=>k_is)
  (case c_normal_row=>k_is)
  (case k_normal_row=>k_is)
  (case fi_Talk___init__=>k_is)
  (case l_Talk___init__=>k_is)
  (case c_Talk___init__=>k_is)
  (case k_Talk___init__=>k_is)
  (case if_Talk___init__=>k_is)
  (case fi_InvalidTalk___init__=>k_is)
  (case l_InvalidTalk___init__=>k_is)
  (case c_InvalidTalk___init__=>k_is)
  (case k_InvalidTalk___init__=>k_is)
  (case xl_InvalidTalk=>k_is)
  (case sa_InvalidTalk=>k_is)
  (case na_InvalidTalk_at=>k_is)
  (case tf_InvalidTalk=>k_is)
  (case ty_InvalidTalk=>k_is)
  (case kp_InvalidTalk=>k_is)
  (case ex_InvalidTalk=>k_is)
  (case pg_Talk=>k_is)
  (case hd_Talk=>k_is)
  (case po_Talk=>k_is)
  (case sa_Talk=>k_is)
  (case na_Talk_rows=>k_is)
  (case a__law_pick=>k_is)
  (case l__law_pick=>k_is)
  (case c__law_pick=>k_is)
  (case k__law_pick=>k_is)
  (case a__law_rows=>k_is)
  (case l__law_rows=>k_is)
  (case c__law_rows=>k_is)
  (case k__law_rows=>k_is)
  (case zrange=>k_is)
  (case a__law_value=>k_is)
  (case l__law_value=>k_is)
  (case c__law_value=>k_is)
  (case k__law_value=>k_is)
  (case a_is_pair=>k_is)
  (case l_is_pair=>k_is)
  (case c_is_pair=>k_is)
  (case k_is_pair=>k_is)
  (case a_is_value=>k_is)
  (case l_is_value=>k_is)
  (case c_is_value=>k_is)
  (case k_is_value=>k_is)
  (case a_lowest=>k_is)
  (case l_lowest=>k_is)
  (case c_lowest=>k_is)
  (case k_lowest=>k_is)
  (case a_as_pair=>k_is)
  (case l_as_pair=>k_is)
  (case c_as_pair=>k_is)
  (case k_as_pair=>k_is)
  (case a_checked_numbers=>k_is)
  (case l_checked_numbers=>k_is)
  (case c_checked_numbers=>k_is)
  (case k_checked_numbers=>k_is)
  (case fi_InvalidNumbers___init__=>k_is)
  (case l_InvalidNumbers___init__=>k_is)
  (case c_InvalidNumbers___init__=>k_is)
  (case k_InvalidNumbers___init__=>k_is)
  (case xl_InvalidNumbers=>k_is)
  (case sa_InvalidNumbers=>k_is)
  (case na_InvalidNumbers_at=>k_is)
  (case tf_InvalidNumbers=>k_is)
  (case ty_InvalidNumbers=>k_is)
  (case kp_InvalidNumbers=>k_is)
  (case ex_InvalidNumbers=>k_is)
  (case a_common_multiple=>k_is)
  (case l_common_multiple=>k_is)
  (case c_common_multiple=>k_is)
  (case k_common_multiple=>k_is)
  (case zlcm=>k_is)
  (case a_even_tops=>k_is)
  (case l_even_tops=>k_is)
  (case c_even_tops=>k_is)
  (case k_even_tops=>k_is)
  (case a_means=>k_is)
  (case l_means=>k_is)
  (case c_means=>k_is)
  (case k_means=>k_is)
  (case zsum=>k_is)
  (case zzip=>k_is)
  (case fi_Talk_led=>k_is)
  (case l_Talk_led=>k_is)
  (case c_Talk_led=>k_is)
  (case k_Talk_led=>k_is)
  (case if_Talk_led=>k_is)
  (case a__law_refused=>k_is)
  (case l__law_refused=>k_is)
  (case c__law_refused=>k_is)
  (case k__law_refused=>k_is)
  (case hd_InvalidNumbers=>k_is)
  (case su_InvalidNumbers_InvalidNumbers=>k_is)
  (case xga_InvalidNumbers=>k_is)
  (case xgg_InvalidNumbers=>k_is)
  (case kx_InvalidNumbers_TalkError=>kit_is)
  (case kx_InvalidNumbers_InvalidTalk=>kit_is)
  (case xca_InvalidNumbers=>k_is)
  (case xspo=>k_is)
  (case xtko=>k_is)
  (case xmo_InvalidNumbers=>k_is)
  (case a__law_any=>k_is)
  (case l__law_any=>k_is)
  (case c__law_any=>k_is)
  (case k__law_any=>k_is)
  (case a__law_deep=>k_is)
  (case l__law_deep=>k_is)
  (case c__law_deep=>k_is)
  (case k__law_deep=>k_is)
  (case a__law_is_whole=>k_is)
  (case l__law_is_whole=>k_is)
  (case c__law_is_whole=>k_is)
  (case k__law_is_whole=>k_is)
  (case a__law_is_value=>k_is)
  (case l__law_is_value=>k_is)
  (case c__law_is_value=>k_is)
  (case k__law_is_value=>k_is)
  (case a__law_due=>k_is)
  (case l__law_due=>k_is)
  (case c__law_due=>k_is)
  (case k__law_due=>k_is)
  (case a_law=>k_is)
  (case l_law=>k_is)
  (case c_law=>k_is)
  (case k_law=>k_is)
  (case zmax=>k_is)
  (case zmin=>k_is)
  (case mk_Talk_=>k_is)
  (case kp_Talk=>k_is)
  (case zrepr=>k_is)
