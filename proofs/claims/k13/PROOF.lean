import PyProof.Rows.All
import Wide.All
import OpenK.AllK
import Wide.FinOn
import KE.KIsAll
import KE.KTryMore
import HandS.ForMost
import HandS.Exc
import HandS.ExcInit
import HandS.ExcIs
import HandS.IsInst
import PyProof.ReprReads
import HandS.ExcField
import HandS.ExcOwn
import HandS.ExcValue
import HandS.Defaults
import HandS.Walk
import KE.GoesMore
import HandS.Gcd
import HandS.WordsExc
import KE.KMathGC
import HandS.Dict
import HandS.TupAny
import HandS.TupMul
import HandS.Wide
import HandS.Style
import HandS.CallSlots
import HandS.OwnEq
import HandS.Property
import HandS.ClsMeth
import HandS.FStr
import KE.KCallOwn
import KE.KFmtOwn
import PyProof.InstNe
import HandS.Zip
import HandS.Codes
import KE.SortData
import KE.DataCmp
import PyProof.TupleOfSeq
import HandS.Conv
import HandS.TupLe
import HandS.TupSets
import KE.KeyNested
import HandS.SetKeys
import HandS.SetBool
import PySem.Challenge.RW_talkmeans_k13_rows_and_rings
set_option Elab.async false
set_option maxRecDepth 100000
set_option maxHeartbeats 4000000
/-! Promises of defs that are asked where no repr is under way; repr of data of any depth. -/
namespace Tk
open PySem PySem.Spec PyProof.Rows L2

/-- a def's promise, asked where nothing is being shown -/
structure FnG (P : Program) (w : World) (K : PySem.W.Frag) (mg : Str → Option Value) (base : Heap) (CX : CXT) (k : Nat) (f : Addr) (fd : FuncData) (ps : List Str) (sp : Sp) : Prop where
  arity : ∀ vs H Q E, sp vs H Q E → vs.length = ps.length
  go : ∀ (A : Around) (outer : List Env) (s : Shared) (H : Hp) (args : Args) (us : List Value) (vs : List V) (Q : VK) (E : XK), A.guards = some [] →
    Room k A → Env0 P w K mg base A outer s H → BindsTo s fd args (ps.zip us) → Vals vs us → sp vs H Q E →
      codeAny (model P w) A (.call (.ref f) args) (CR CX outer P w H s Q E) s

section
variable {P : Program} {w : World} {K : PySem.W.Frag} {mg : Str → Option Value} {base : Heap}
theorem FnG.of {CX : CXT} {k : Nat} {f : Addr} {fd : FuncData} {ps : List Str} {sp : Sp} (F : FnOk P w K mg base CX k f fd ps sp) : FnG P w K mg base CX k f fd ps sp :=
  ⟨F.len, fun A o s H a us vs Q E _ => F.run A o s H a us vs Q E⟩

/-- the rule for a def by its body, nothing being shown -/
theorem okG {x qual : Str} {st : Stmt} {f : Addr} {fd : FuncData} {N ps : List Str} {k : Nat} {sp : Sp} (F : Fun K x qual st f fd) (S : FnScope N ps (defScope st)) (ar : ∀ vs H Q E, sp vs H Q E → vs.length = ps.length)
    (body : ∀ (cdv : Value) (A : Around) (outer : List Env) (s : Shared) (H : Hp) (vs : List V) (Q : VK) (E : XK), A.guards = some [] → Room k (A.deeper (envOfC qual (defScope st) s.heap.objs.size f cdv)) → sp vs H Q E →
      ∃ t, PSs (cxOf CX0 P w K mg base N qual (defScope st) f cdv A outer s H E).nox (defBody st) t ∧ t { nx := fun _ H' => Q .non H', rt := Q } (start N vs) H) :
    FnG P w K mg base CX0 (k + 1) f fd ps sp := by
  refine ⟨ar, fun A outer s H args us vs Q E gd room env bnd rel ask => ?_⟩
  obtain ⟨oc, od, kV, doc, pm, an, cdv, ct, osl, efd, look, hcode⟩ := F.ex
  subst efd
  have KH : K.In s.heap := env.mod.kin.keeps fun b o e => (env.bs b o e).1
  have noLim : s.heap.NoLimit := env.mod.nolimit.keeps fun b o e => (env.bs b o e).1
  have kinds : ∀ y ∈ ps.zip us, (defScope st).names.lookup y.1 = some .local ∨ ((defScope st).names.lookup y.1 = some .cell ∧ ((cellsFrom (s.heap.objs.size + 1) (defScope st).names []).lookup y.1).isSome = true) := by
    rintro ⟨n, v⟩ hy
    have hn : n ∈ ps := (List.of_mem_zip hy).1
    cases S.par n hn with
    | inl q => exact Or.inl q
    | inr q => exact Or.inr ⟨q, PySem.W.cellsFrom_some _ _ _ (Or.inl q)⟩
  refine codeAny_call_function room.depth (KH _ _ look) rfl S.co S.gen rfl (PySem.W.codeRec_of KH hcode) (bnd _ _ _ _ ?_)
  refine wpAny_newFunctionEnv_cells S.kind kinds fun env' he s1 x => ?_
  subst he
  refine ⟨noLim.keeps x.toInCall.keep, codeAny_func ?_⟩
  obtain ⟨t, tr, ans⟩ := body cdv A outer s H vs Q E gd (room.deeper _) ask
  have inv := inv_start (CX := CX0) (E := E) S room.hd env (ar _ _ _ _ ask) rel x
  refine wpAny_mono (tr.nox.run [] s1 (start N vs) H _ inv ans) (fun fl s' out => ?_) fun e s' out => out
  cases fl with
  | brk => obtain ⟨_, _, _, q⟩ := out; exact q.elim
  | cont => obtain ⟨_, _, _, q⟩ := out; exact q.elim
  | next => obtain ⟨σ', H', J, q⟩ := out; exact ⟨V.non, H', J.os, J.bare, J.base, J.hok, rfl, q⟩
  | ret u => obtain ⟨v, σ', H', J, rv, q⟩ := out; exact ⟨v, H', J.os, J.bare, J.base, J.hok, rv, q⟩
end

section
variable {X : Cx} {CX : CXT} {k : Nat} {f : Addr} {fd : FuncData} {ps : List Str} {sp : Sp} {dvs : List V} {ds : List Value} {E : XK} {x : Str} {p pos : Pos} {e : Expr} {es : List Expr} {t : TA}
/-- f(..) of such a def -/
theorem pe_callG (F : FnG X.prog X.w X.K X.mg X.base CX k f fd ps sp) (gd : X.A.guards = some []) (hr : Room k X.A) (hg : Gl X x) (hm : X.mg x = some (.ref f)) (hk : PySem.W.keepIn X.K (.ref f) = true) (hb : Binds X.K fd ps ds) (hd : Vals dvs ds)
    (hx : Passes CX X E) (ha : PA X (e :: es) t) (hdb : (x == ("__debug__" : Str)) = false := by decide) (he : starEach (e :: es) X.env = (false, eval e X.env) :: starEach es X.env := by rfl)
    (hpl : (backTo pos (starEach es X.env)).any (·.1) = false := by rfl) : PE X (.Call (.Name x p) (e :: es) [] pos) (tCall sp dvs E t) := by
  constructor
  intro pins s σ H Q I h
  refine wpAny_Call_Name_kw (ld_glob I hg hm ?_ hdb)
  refine PySem.W.callWith_K (h₀ := X.base) I.ok.mod.kin hk ?_ he hpl
  refine thn (ha.run pos pins s σ H _ I h) ?_
  rintro us s1 ⟨vs, H1, I1, r, q⟩
  refine ⟨I1.kIn, ?_⟩
  have rel := r.append hd
  have len : (us ++ ds).length = ps.length := (rel.length.symm).trans (F.arity _ _ _ _ q)
  refine wpAny_call (codeAny_mono (F.go X.A X.stack s1 H1 ⟨us, []⟩ (us ++ ds) (vs ++ dvs) Q E gd hr I1.env0 (hb s1 us I1.kIn len) rel q) ?_)
  rintro (er | fl) s' out
  · exact hx pins σ H1 s1 er s' I1 out
  · cases fl with
    | ret u => exact I1.after out
    | next => exact out.elim
    | brk => exact out.elim
    | cont => exact out.elim

/-- repr(x), x data of any depth -/
def rRepr (K : PySem.W.Frag) : List V → Hp → VK → Prop := fun xs H Q =>
  ∃ (x : V) (d : PyData), xs = [x] ∧ Dp K H x d ∧ d.showable = true ∧ d.hasDict = false ∧ d.depth ≤ 60 ∧ d.shown.length + 64 ≤ sizeLine ∧ Q (.str d.shown) H
theorem call_repr (gd : X.A.guards = some []) (hu : X.A.units + 64 < cLine) : CallR X (.builtin "repr") (rRepr X.K) := by
  intro pins s σ H xs us Q I r h
  obtain ⟨x, d, rfl, dp, sh, nd, dd, sz, q⟩ := h
  obtain ⟨u, rfl, ru⟩ := vals1 r
  obtain ⟨as, rd⟩ := Dp.reads I d x u dp ru
  have fin : ∀ (h' : Heap) (t tk : Tok), (∀ b o, s.heap.get? b = some o → h'.get? b = some o) → EP X pins σ Q (Value.str d.shown t) { s with heap := h', toks := tk } :=
    fun h' t tk keep => ⟨V.str d.shown, H, I.kept keep, ⟨t, rfl⟩, q⟩
  by_cases isR : isDisplay d = true
  · obtain ⟨a, rfl⟩ := isRef_of_reads rd isR
    exact repr_of_reads' rd sh (PyData.noDict_hsm nd) gd (by omega) (fun _ _ e => e) (fun h' t tk keep => fin h' t tk keep) (by omega)
  · have plain : ∀ (y : Str), y = d.shown → EP X pins σ Q (Value.str y s.toks) { s with toks := s.toks + 1 } := by
      rintro y rfl
      exact ⟨V.str d.shown, H, I.tok _, ⟨_, rfl⟩, q⟩
    cases dp with
    | non => cases ru; exact PySem.P.repr_of_none (plain _ rfl)
    | bl b => cases ru; exact PySem.P.repr_of_bool (plain _ (by cases b <;> rfl))
    | int i => obtain ⟨t, rfl⟩ := ru; exact PySem.P.repr_of_int (by simpa [PyData.showable] using sh) (plain _ rfl)
    | str y => obtain ⟨t, rfl⟩ := ru; exact PySem.P.repr_of_str (plain _ rfl) (Nat.le_trans (Nat.le_add_right _ 64) sz)
    | lst _ _ => exact absurd rfl isR
    | tup _ _ => exact absurd rfl isR
end

/-! ### the law's own call, nothing being shown around it -/
section
variable {P : Program} {w : World} {K : PySem.W.Frag} {mg mb : Str → Option Value} {k : Nat} {fa a : Addr} {fd : FuncData} {x : Str} {sp : Sp} {s₁ : Shared} {vs : List Value} {ns : List Int}
/-- what is tracked ahead of the law: the script alone, or nothing -/
structure Ahead (K : PySem.W.Frag) (h : Heap) (a : Addr) (H : Hp) : Prop where
  only : Only H
  one : ∀ b, H b ≠ none → b = a
  free : H a ≠ none → K.lookup a = none
theorem Ahead.no {h : Heap} {H : Hp} (Z : Ahead K h a H) {b : Addr} (hb : b ≠ a) : H b = none := Classical.byContradiction fun q => hb (Z.one b q)
theorem Ahead.mod {h : Heap} {H : Hp} (Z : Ahead K h a H) (hK : K.In h) (hm : h.Ns mainGlobals mg) (hbu : h.Ns builtinsNs mb) (hbb : ∀ y : Str, y ≠ "__name__" → mb y = bootBuiltins y) (hl : h.NoLimit)
    {o : Obj} (ha : h.get? a = some o) (nd : ∀ es ep, o.data ≠ .dict es ep) : Mod K mg (hidT h H) := by
  have into : ∀ {L : Addr} {m : Str → Option Value}, h.Ns L m → (hidT h H).Ns L m := by
    rintro L m ⟨u, es, ep, g1, g2, rest⟩
    have ne : L ≠ a := by
      rintro rfl
      rw [ha] at g1
      cases g1
      exact nd es ep g2
    exact ⟨u, es, ep, hidT_get g1 (Z.no ne), g2, rest⟩
  have inK : K.In (hidT h H) := by
    intro b u hu
    refine hidT_get (hK b u hu) (Classical.byContradiction fun q => ?_)
    have e := Z.one b q
    subst e
    rw [Z.free q] at hu
    cases hu
  obtain ⟨mc, l1, l2⟩ := hl
  exact ⟨inK, into hm, ⟨mb, into hbu, hbb⟩, ⟨mc, into l1, l2⟩⟩
theorem lawG (KX : K.In s₁.heap) (hm : s₁.heap.Ns mainGlobals mg) (hbu : s₁.heap.Ns builtinsNs mb) (hbb : ∀ y : Str, y ≠ "__name__" → mb y = bootBuiltins y) (hlim : s₁.heap.NoLimit) (hgen : s₁.gens = #[])
    (ha : s₁.heap.get? a = some { cls := .type "list", data := .seq vs.toArray }) (hi : IntsAre vs ns) (hl : ns.length ≤ sizeLine) (hr : Room k callerA)
    (F : ∀ base : Heap, K.In base → base.Ns mainGlobals mg → FnG P w K mg base CX0 k fa fd [x] sp) (bnd : ∀ (s : Shared) (u : Value), BindsTo s fd ⟨[u], []⟩ [(x, u)])
    (ask : ∀ H : Hp, Only H → SqL K H a (ns.map V.int) → sp [.ref a] H (fun v _ => v = .bl true) fun _ _ _ => False) :
    codeAny (model P w) callerA (.call (.ref fa) ⟨[.ref a], []⟩) (fun r s' => r = .ok (.ret (.bool true)) ∧ OldK s₁.heap s'.heap ∧ s'.os = s₁.os ∧ AllBare s'.gens) s₁ := by
  have rel := vals_ints hi
  have from_ : ∀ H : Hp, Ahead K s₁.heap a H → SqL K H a (ns.map V.int) → HOk P w H s₁.heap →
      codeAny (model P w) callerA (.call (.ref fa) ⟨[.ref a], []⟩) (fun r s' => r = .ok (.ret (.bool true)) ∧ OldK s₁.heap s'.heap ∧ s'.os = s₁.os ∧ AllBare s'.gens) s₁ := by
    intro H Z sq ok
    have M : Mod K mg (hidT s₁.heap H) := Z.mod KX hm hbu hbb hlim ha (fun es ep e => by cases e)
    have env : Env0 P w K mg (hidT s₁.heap H) callerA [] s₁ H :=
      { frames := rfl, mod := M, bs := fun b o e => of_hidT e, bsz := Nat.le_of_eq (hidT_size _ _), funs := True.intro, frf := fun b hb => absurd hb List.not_mem_nil, hok := ok, bare := AllBare.of_eq hgen }
    refine codeAny_mono ((F _ M.kin M.glob).go callerA [] s₁ H ⟨[.ref a], []⟩ [.ref a] [.ref a] _ _ rfl hr env (bnd s₁ (.ref a)) (.cons rfl .nil) (ask H Z.only sq)) ?_
    rintro (er | fl) s' out
    · exact out.elim
    · cases fl with
      | next => exact out.elim
      | brk => exact out.elim
      | cont => exact out.elim
      | ret u =>
        obtain ⟨v, H', os, bare, un, ok', ru, rfl⟩ := out
        cases ru
        refine ⟨rfl, OldK.of_keep ?_, os, bare⟩
        intro b o e
        by_cases q : H b = none
        · exact un.keep b o e q List.not_mem_nil List.not_mem_nil
        · rcases Z.only b with z | ⟨ob, xs, z⟩
          · exact absurd z q
          · have e1 := (ok b _ z).1
            have e2 := (ok' b _ (un.frzs b ob _ z)).1
            rw [e1] at e
            cases e
            exact e2
  rcases hk : K.lookup a with _ | o
  · refine from_ (fun b => if b = a then some (.frz { cls := .type "list", data := .seq vs.toArray } (.lst (ns.map V.int))) else none) ⟨fun b => ?_, fun b q => ?_, fun _ => hk⟩ (.inl (.inr ⟨_, if_pos rfl⟩)) (fun b u z => ?_)
    · by_cases hb : b = a
      · exact .inr ⟨_, _, if_pos hb⟩
      · exact .inl (if_neg hb)
    · exact Classical.byContradiction fun hb => q (if_neg hb)
    · dsimp only at z
      by_cases hb : b = a
      · subst hb
        rw [if_pos rfl] at z
        cases z
        exact ⟨ha, by rw [List.length_map]; exact hl, vs, _, rel, ha⟩
      · rw [if_neg hb] at z
        cases z
  · have e := KX a o hk
    rw [ha] at e
    cases e
    exact from_ (fun _ => none) ⟨fun _ => .inl rfl, fun b q => absurd rfl q, fun q => absurd rfl q⟩ (.inr ⟨_, vs.toArray, _, hk, rfl, rfl, rfl, by rw [List.size_toArray, hi.length]; exact hl, by simpa using rel⟩) (fun b u z => by cases z)
end
/-- what the head leaves, from the law's promise -/
theorem walkG {l : PySem.W.OpenLaw} {k : Nat} {q : Program} {loose : List Str} {XP : (Str → Option Value) → Heap → Prop} {YP : World → Heap → Prop} {d : DefRec} {K : Params → PySem.W.Frag} {sp : PySem.W.Frag → Sp} {x : Str}
    (hn : l.most = some 63) (hdf : d.params.defaults = []) (hr : Room k callerA) (hY : ∀ (w : World) (h : Heap), YP w h → (K w.params).In h)
    (F : ∀ (w : World) (mg : Str → Option Value) (fa : Addr) (h : Heap), (K w.params).In h → h.Ns mainGlobals mg → mg d.name = some (.ref fa) →
      ∃ fd : FuncData, (∀ (s : Shared) (u : Value), BindsTo s fd ⟨[u], []⟩ [(x, u)]) ∧ ∀ base : Heap, (K w.params).In base → base.Ns mainGlobals mg → FnG l.prog w (K w.params) mg base CX0 k fa fd [x] (sp (K w.params)))
    (ask : ∀ (K : PySem.W.Frag) (H : Hp) (a : Addr) (ns : List Int), ns.length ≤ 63 → Only H → SqL K H a (ns.map V.int) → sp K [.ref a] H (fun v _ => v = .bl true) fun _ _ _ => False) :
    PySem.W.WalkO q loose XP YP l.row.toRowW d [] (fun f vs => PySem.call f vs) := by
  refine Att.attach_call hn hdf ?_
  intro w s₀ s₁ mg mb fa o pm cd doc a vs ns G Y ho hd hcd hmg hobj hints hlen hgen
  have KX := hY w _ Y
  obtain ⟨fd, bnd, hF⟩ := F w mg fa _ KX G.T.g hmg
  exact lawG KX G.T.g G.T.b G.T.builtins G.T.nolimit hgen hobj hints (Nat.le_trans hlen (by decide)) hr hF bnd (fun H hO hS => ask _ H a ns hlen hO hS)
end Tk
set_option Elab.async false
set_option maxRecDepth 100000
set_option maxHeartbeats 4000000
/-! Own exceptions over any built-in base, with an __init__ of the program, made by place and by names; held as values. -/
namespace PySem
namespace HandSPX
open Builtin Builtin.ObjectAttr
/-- what the classes behind an own class say to its maker -/
structure Tail (bm : List Value) (Bn : String) : Prop where
  has : bm.contains (.type Bn) = true
  na : bm.contains (.type "AttributeError") = false
  nn : bm.contains (.type "NameError") = false
section
variable {M : Model} {A : Around} {E : Value → Shared → Prop} {h : Heap} {g : Array GenState} {d : Drawn} {t : Nat} {os : OsState} {prog : Program} {w : World} {R : Result → Shared → Prop}
variable {nm q : Str} {C N : Addr} {bs bm bmN : List Value} {hdct : Bool} {sn : List Str} {sub : List Value} {ab : Bool} {col : Option Bool} {dd : Option Addr} {k0 k1 k2 k3 k5 : Option Value} {Bn newId initId : String}
theorem newCheckK (F : ExcBaseFacts Bn newId initId bmN) (T : Tail bm Bn) {rest : List Value} {kw : List (Str × Value)} {Q : Unit → Shared → Prop} (cls : h.get? C = some (excClassObj nm q C N bs bm hdct sn sub ab col dd k0 k1 k2 k3 k5 newId))
    (fin : Q () ⟨h, g, d, t, os⟩) : wpAny M A (checkBuiltinCall newId ⟨.ref C :: rest, kw⟩) Q E ⟨h, g, d, t, os⟩ := by
  have inB : (Value.ref C :: bm).contains (.type Bn) = true := by rw [List.contains_cons, T.has, Bool.or_true]
  have ns := F.noStar
  simp only [checkBuiltinCall, F.newKind, F.newSplit, F.newRow]
  repeat (first | refine wpAny_loadPart_at cls ?_ | (refine wpAny_isSubtype_exc cls ?_; rw [inB]) | refine wpAny_staticBase_exc cls ?_ | refine wpAny_madeBy_exc cls ?_ | simp only [bne_self_eq_false, Bool.false_eq_true, if_false] | wp_step)
  exact fin
theorem newK (F : ExcBaseFacts Bn newId initId bmN) (T : Tail bm Bn) {rest : List Value} {kw : List (Str × Value)} (cls : h.get? C = some (excClassObj nm q C N bs bm hdct sn sub ab col dd k0 k1 k2 k3 k5 newId)) (sz : rest.length ≤ sizeLine)
    (fin : R (.ok (.ret (.ref (h.objs.size + 1)))) ⟨(h.push (W.kdv_tup rest)).push (excO C h.objs.size), g, d, t, os⟩) : codeAny (model prog w) A (.builtin newId ⟨.ref C :: rest, kw⟩) R ⟨h, g, d, t, os⟩ := by
  have inB : (Value.ref C :: bm).contains (.type Bn) = true := by rw [List.contains_cons, T.has, Bool.or_true]
  have noA : (Value.ref C :: bm).contains (.type "AttributeError") = false := by rw [List.contains_cons, T.na]; rfl
  have noN : (Value.ref C :: bm).contains (.type "NameError") = false := by rw [List.contains_cons, T.nn]; rfl
  have ends := F.ends
  refine codeAny_builtinAt F.entry ?_
  unfold Builtin.«BaseException.__new__»
  refine wpAt_bind ?_
  show wpAt _ _ _ (stack >>= _) _ _ _
  refine wpAt_bind (wpAt_stack fun _ _ => wpAt_of_wpAny ?_)
  wp_walk
  refine wpAt_of_wpAny ?_
  rw [F.owner]
  repeat (first | with_reducible refine wpAny_madeHere_exc F.canon cls ?_ | with_reducible refine wpAny_loadPart_at cls ?_ | (with_reducible refine wpAny_isSubtype_exc cls ?_; first | rw [inB] | rw [noA] | rw [noN]) | wp_step)
  show R _ _
  rw [Heap.size_push]
  exact fin
theorem typeCallK (F : ExcBaseFacts Bn newId initId bmN) (T : Tail bm Bn) {rest : List Value} {kw : List (Str × Value)} {fI : Addr} {Q : Fin → Shared → Prop} (cls : h.get? C = some (excClassObj nm q C N bs bm hdct sn sub ab col dd k0 k1 k2 k3 k5 newId))
    (look : W.Looks (model prog w) h (typeLookup (.ref C) "__init__") (some (.ref fI))) (bind_ : ∀ self, W.Looks (model prog w) h (bindSpecial (.ref fI) self) (.ref fI, [self])) (sz : rest.length ≤ sizeLine)
    (fin : codeAny (model prog w) A (.call (.ref fI) ⟨.ref (h.objs.size + 1) :: rest, kw⟩) (fun r s' => match r with | .ok (.ret v) => v = .none ∧ Q (.done (.ret (.ref (h.objs.size + 1)))) s' | .ok _ => False | .error e => E e s')
      ⟨(h.push (W.kdv_tup rest)).push (excO C h.objs.size), g, d, t, os⟩) : wpAny (model prog w) A (Builtin.«type.__call__» ⟨.ref C :: rest, kw⟩) Q E ⟨h, g, d, t, os⟩ := by
  have up : ∀ b o, h.get? b = some o → ((h.push (W.kdv_tup rest)).push (excO C h.objs.size)).get? b = some o := fun b o e => Heap.get?_push_of_some _ (Heap.get?_push_of_some _ e)
  have cls1 := up _ _ cls
  have new1 : ((h.push (W.kdv_tup rest)).push (excO C h.objs.size)).get? (h.objs.size + 1) = some (excO C h.objs.size) := by heap_get
  have self1 : (Value.ref C :: bm).contains (.ref C) = true := by simp
  repeat (first | with_reducible refine wpAny_loadPart_at cls ?_ | with_reducible refine wpAny_madeBy_exc cls ?_ | wp_step)
  refine codeAny_call_builtin_code (Code.quiet_builtin _ F.quiet) (newCheckK F T cls ?_)
  refine newK F T cls sz ?_
  show wpAny _ _ _ _ _ _
  unfold isInstance
  repeat (first | with_reducible refine wpAny_loadPart_at new1 ?_ | (with_reducible refine wpAny_isSubtype_exc cls1 ?_; rw [self1]) | wp_step)
  show wpAny _ _ (typeLookup (.ref C) _) _ _ _
  refine (look.keeps up).at ?_
  refine wpAny_holding (wpAny_bind (((bind_ (.ref (h.objs.size + 1))).keeps up).at ?_))
  refine wpAny_bind (wpAny_call (codeAny_mono fin fun r s' out => ?_))
  rcases r with e | (v | _ | _ | _) <;> first | exact out | exact out.elim | skip
  obtain ⟨rfl, out⟩ := out
  first
    | exact wpAny_pure (wpAny_pure out)
    | (wp_walk; exact out)
theorem tcCheckK {rest : List Value} {kw : List (Str × Value)} {Q : Unit → Shared → Prop} (cls : h.get? C = some (excClassObj nm q C N bs bm hdct sn sub ab col dd k0 k1 k2 k3 k5 newId)) (fin : Q () ⟨h, g, d, t, os⟩) :
    wpAny M A (checkBuiltinCall "type.__call__" ⟨.ref C :: rest, kw⟩) Q E ⟨h, g, d, t, os⟩ := by
  have sb := tc_sub
  have ty : (⟨h, g, d, t, os⟩ : Shared).TypeIs (.ref C) "type" := ⟨_, cls, rfl⟩
  simp only [checkBuiltinCall, tc_kind, tc_split]
  repeat (any_goals (first | assumption | with_reducible refine wpAny_loadPart_at cls ?_ | with_reducible refine wpAny_onRaise ?_ | with_reducible refine wpAny_map ?_ | wp_step))
theorem classCallK (F : ExcBaseFacts Bn newId initId bmN) (T : Tail bm Bn) {rest : List Value} {kw : List (Str × Value)} {fI : Addr} (cls : h.get? C = some (excClassObj nm q C N bs bm hdct sn sub ab col dd k0 k1 k2 k3 k5 newId))
    (look : W.Looks (model prog w) h (typeLookup (.ref C) "__init__") (some (.ref fI))) (bind_ : ∀ self, W.Looks (model prog w) h (bindSpecial (.ref fI) self) (.ref fI, [self])) (sz : rest.length ≤ sizeLine)
    (fin : codeAny (model prog w) (A.under (.builtin "type.__call__" ⟨.ref C :: rest, kw⟩)) (.call (.ref fI) ⟨.ref (h.objs.size + 1) :: rest, kw⟩) (W.InitBack (h.objs.size + 1) R) ⟨(h.push (W.kdv_tup rest)).push (excO C h.objs.size), g, d, t, os⟩) :
    codeAny (model prog w) A (.call (.ref C) ⟨rest, kw⟩) R ⟨h, g, d, t, os⟩ := by
  have lk1 := tc_lookup
  have lk2 := tc_bind (.ref C)
  have ty : (⟨h, g, d, t, os⟩ : Shared).TypeIs (.ref C) "type" := ⟨_, cls, rfl⟩
  refine codeAny_of_tree ?_
  show wpAny _ _ (callAny (.ref C) _) _ _ _
  repeat (any_goals (first | assumption | with_reducible refine wpAny_loadPart_at cls ?_ | wp_step))
  refine ⟨rfl, ?_⟩
  refine codeAny_call_builtin_at (Code.quiet_builtin _ (by decide +kernel)) entry_typeCall ?_
  refine tcCheckK cls (typeCallK F T cls look bind_ sz ?_)
  refine codeAny_mono fin fun r s' out => ?_
  rcases r with e | (v | _ | _ | _) <;> exact out
end
end HandSPX
end PySem
set_option Elab.async false
set_option maxRecDepth 100000
set_option maxHeartbeats 4000000
/-! The first field of a new exception, over any built-in base. -/
namespace PySem
namespace HandSPX
open Builtin Builtin.ObjectAttr
section
variable {prog : Program} {w : World} {A : Around} {E : Value → Shared → Prop} {R : Result → Shared → Prop} {hp : Heap} {g : Array GenState} {d : Drawn} {t : Nat} {os : OsState}
theorem storeK {K : W.Frag} {name : Str} {tk : Tok} {v : Value} {x C : Addr} {fv : Array Value} {cd : ClassData} (X : K.In hp) (hx : hp.get? x = some { cls := .ref C, data := .fields fv }) (hcd : W.clsIn K C = some cd)
    (pass : ∀ self, refuseLoop self "__setattr__" cd.mro = pure ()) (ob : cd.mro.contains (.type "object") = true) (ne : cd.mro.isEmpty = false) (hh : cd.hasDict = true) (ha : W.findIn K (.ref C) name = some none)
    (fin : ∀ h' tk' dx, (∀ b o, b ≠ x → hp.get? b = some o → h'.get? b = some o) → hp.objs.size ≤ dx → dx ≠ x → h'.get? x = some { cls := .ref C, dict := some dx, data := .fields fv } →
      h'.Ns1 dx (fun y => if y = name then some v else none) → R (.ok (.ret .none)) ⟨h', g, d, tk', os⟩) :
    codeAny (model prog w) A (.call (.builtin "object.__setattr__") ⟨[.ref x, .str name tk, v], []⟩) R ⟨hp, g, d, t, os⟩ := by
  have I : W.InstAt hp x { cls := .ref C, data := .fields fv } C none := ⟨hx, rfl, rfl, trivial⟩
  have SO := F.store_object
  have xs : x ≠ hp.objs.size := Nat.ne_of_lt (Heap.lt_size hx)
  have sb : W.Looks (model prog w) hp (isInstance (.ref x) (.type "object")) true := I.type.andThen (W.looks_mroIn X (by unfold W.mroIn; rw [hcd, Option.bind_some, if_neg (by rw [ne]; decide), ob]))
  have mro_ : W.Looks (model prog w) hp (mroOf (.ref C)) cd.mro := (W.looks_clsIn X hcd).andThen .now
  have taker : W.Looks (model prog w) hp (storeTaker? none) none := .now
  have clsD : W.Looks (model prog w) hp (classData C) cd := W.looks_clsIn X hcd
  refine codeAny_call_builtin SO.slot.plain SO.entry (@W.check_slot (model prog w) _ _ ⟨hp, g, d, t, os⟩ "object.__setattr__" "object" "__setattr__" (.ref x) [.str name tk, v] [] _ SO.kind SO.split sb (SO.args (.ref x) (.str name tk) v) ?_)
  rw [W.osa_eq, refuse_eq]
  refine wpAny_bind (wpAny_bind (I.type.at (wpAny_bind (mro_.at ?_))))
  rw [pass]
  refine wpAny_pure (wpAny_bind (I.type.at (wpAny_bind ((W.looks_findIn X ha).at (wpAny_bind (taker.at ?_))))))
  show wpAny _ _ (storeInOwnDict (.ref x) (.ref C) (.str name tk) name v false) _ _ _
  obtain ⟨nm, bs, mro, ns, qn, hd, sn, sb', ab, col, del⟩ := cd
  dsimp only at hh
  subst hh
  unfold storeInOwnDict ownDictForStores
  repeat (first | with_reducible refine store_in_new ?_ ?_ | with_reducible refine wpAny_loadPart_at hx ?_ | with_reducible refine clsD.at ?_ | wp_step)
  · exact ⟨_, #[], _, (Heap.get?_update_ne _ _ _ _ xs.symm).trans (Heap.get?_push_at rfl rfl), rfl, fun e he => absurd he (by simp), fun _ => rfl⟩
  · intro h' tk' hn' sm
    have old : (hp.push { cls := .type "dict", data := .dict #[] }).get? x = some { cls := .ref C, data := .fields fv } := Heap.get?_push_of_some _ hx
    refine fin h' tk' hp.objs.size ?_ (Nat.le_refl _) xs.symm ((sm.2 x xs).trans (Heap.get?_update_self _ old rfl)) hn'
    intro b o hb ho
    exact (sm.2 b (Nat.ne_of_lt (Heap.lt_size ho))).trans ((Heap.get?_update_ne _ _ _ _ hb).trans (Heap.get?_push_of_some _ ho))
end
end HandSPX
end PySem
namespace Tk
open PySem PySem.Spec PyProof.Rows L2
/-- what the written part says of an own exception class over a built-in base -/
structure OxC (K : PySem.W.Frag) (C : Addr) : Prop where
  cls : ∃ nm q N bs bm sn sub ab col dd k0 k1 k2 k3 k5 Bn newId initId bmN, K.lookup C = some (excClassObj nm q C N bs bm true sn sub ab col dd k0 k1 k2 k3 k5 newId) ∧ ExcBaseFacts Bn newId initId bmN ∧ PySem.HandSPX.Tail bm Bn ∧
    (∀ self, refuseLoop self "__setattr__" (.ref C :: bm) = pure ()) ∧ (Value.ref C :: bm).contains (.type "object") = true
  sa : PySem.W.findIn K (.ref C) "__setattr__" = some (some (.builtin "object.__setattr__"))
  kC : PySem.W.keepIn K (.ref C) = true
section
variable {X : Cx} {pins : List (Addr × Obj)} {σ : L2.St} {H : Hp} {s : Shared} {a C : Addr} {f : Str} {y : V} {u : Value} {Q : Unit → Shared → Prop} {E : Value → Shared → Prop} {A : Around}
theorem exo_other {e C : Addr} {d : Option Addr} {H : Hp} (h : H e = some (exo e C d)) {b : Addr} {o : HO} (hb : H b = some o) (n : ∀ φ, o ≠ .ext φ) : b ≠ e := by
  rintro rfl
  rw [h] at hb
  exact n _ (Option.some.inj hb).symm
theorem setFirst (T : OxC X.K C) (I : Inv X pins σ H s) (e : H a = some (exo a C none)) (no : PySem.W.findIn X.K (.ref C) f = some none) (ry : RelV y u)
    (fin : ∀ dx s', H dx = none → dx ≠ a → Inv X pins σ (upd (upd H dx (exd dx [(f, y)])) a (exo a C (some dx))) s' → Q () s') : wpAny (model X.prog X.w) A (setAttr (.ref a) f u) Q E s := by
  obtain ⟨nm, q, N, bs, bm, sn, sub, ab, col, dd, k0, k1, k2, k3, k5, Bn, newId, initId, bmN, hC, _, _, pass, hob⟩ := T.cls
  have cd : PySem.W.clsIn X.K C = some { name := nm, bases := bs, mro := .ref C :: bm, ns := N, qualname := q, hasDict := true, slotNames := sn, subclasses := sub, abstract := ab, collection := col, hasDel := false } := by
    unfold PySem.W.clsIn
    rw [hC] <;> rfl
  obtain ⟨t1, ho⟩ := exo_at I.hok e
  obtain ⟨hp, g, dr, tk, os⟩ := s
  refine PySem.W.set_plain I.kIn (ox := PySem.HandSPX.excO C t1) (od := none) ⟨ho, rfl, rfl, trivial⟩ T.sa ?_
  refine PySem.HandSPX.storeK I.kIn ho cd pass hob rfl rfl no ?_
  intro h' tk' dx keep big ne hx hn
  have fresh : H dx = none := I.hok.fresh big
  have offA : ∀ {b : Addr}, H b = none → b ≠ a := by
    rintro b n rfl
    rw [e] at n
    cases n
  have offD : ∀ {b : Addr} {o : HO}, H b = some o → b ≠ dx := fun q => ne_of_none q fresh
  have same : ∀ {b : Addr} {o : HO}, H b = some o → (∀ φ, o ≠ .ext φ) → upd (upd H dx (exd dx [(f, y)])) a (exo a C (some dx)) b = some o := fun q n => by
    rw [upd_ne (exo_other e q n), upd_ne (offD q)]
    exact q
  have UN : Un X.fs [] H (upd (upd H dx (exd dx [(f, y)])) a (exo a C (some dx))) hp h' :=
    { keep := fun b o q n _ _ => keep b o (offA n) q
      slot := fun b o q n _ _ => ⟨o.slots, keep b o (offA n) q⟩
      free := fun b o q n _ => by
        have hb : b ≠ dx := Nat.ne_of_lt (Nat.lt_of_lt_of_le (Heap.lt_size q) big)
        rw [upd_ne (offA n), upd_ne hb]
        exact n
      there := fun b o q _ => by
        rcases Nat.decEq b a with hb | hb
        · exact ⟨o, keep b o hb q⟩
        · exact ⟨_, hb ▸ hx⟩
      tups := fun b xs q => same q (fun φ z => by cases z)
      frzs := fun b o v q => same q (fun φ z => by cases z)
      tbls := fun b ps q => ⟨#[], by rw [same q (fun φ z => by cases z)]; simp⟩ }
  refine fin dx _ fresh ne (I.un (t' := tk') UN ?_)
  intro b o q
  rcases Nat.decEq b a with hb | hb
  · rw [upd_ne hb] at q
    rcases Nat.decEq b dx with hd | hd
    · rw [upd_ne hd] at q
      refine (I.hok b o q).stay (fun c v hc z => keep c v ?_ z) (fun c hc => same hc (fun φ z => by cases z)) (fun c xs hc => same hc (fun φ z => by cases z))
      rcases hc with rfl | hc
      · exact hb
      · exact exo_other e hc (fun φ z => by cases z)
    · subst hd
      rw [upd_same] at q
      cases q
      exact exd_ok hn (relO_put (fs := []) ry fun _ => True.intro)
  · subst hb
    rw [upd_same] at q
    cases q
    exact exo_ok hx
end
/-- self.f = e, self a new exception without a dict -/
def tFirst (K : PySem.W.Frag) (f : Str) (to te : TE) : TS := fun D σ H => te σ H fun y H1 => to σ H1 fun x H2 => ∃ a C : Addr, x = .ref a ∧ OxC K C ∧ PySem.W.findIn K (.ref C) f = some none ∧ H2 a = some (exo a C none) ∧
  ∀ dx, H2 dx = none → dx ≠ a → D.nx σ (upd (upd H2 dx (exd dx [(f, y)])) a (exo a C (some dx)))
theorem ps_first {X : Cx} {o e : Expr} {to te : TE} {f : Str} {p pos : Pos} (ho : PE X o to) (he : PE X e te) (hs : swapsWith e (some (.Attribute o f p)) pos.line X.env = pure false := by rfl) : PS X (.Assign [.Attribute o f p] e pos) (tFirst X.K f to te) := by
  constructor
  intro pins s σ H D I h
  refine plainObj_wpAny_Assign_Attribute (thn (he.run pins s σ H _ I h) ?_) hs
  rintro v s1 ⟨y, H1, I1, r1, q1⟩
  refine thn (ho.run pins s1 σ H1 _ I1 q1) ?_
  rintro u s2 ⟨x, H2, I2, r2, a, C, rfl, T, no, ea, q⟩
  cases r2
  exact setFirst T I2 ea no r1 fun dx s' n ne J => ⟨σ, _, J, q dx n ne⟩
end Tk
set_option Elab.async false
set_option maxRecDepth 100000
set_option maxHeartbeats 4000000
/-! Own exceptions as values: made, asked for a field, asked for their class. -/
namespace Tk
open PySem PySem.Spec PyProof.Rows L2
/-- __init__(self, f): self.f = f, of an own exception -/
def spInit (K : PySem.W.Frag) (f : Str) : Sp := fun vs H Q _ => ∃ (a C : Addr) (y : V), vs = [.ref a, y] ∧ OxC K C ∧ PySem.W.findIn K (.ref C) f = some none ∧ H a = some (exo a C none) ∧
  ∀ dx, H dx = none → dx ≠ a → Q .non (upd (upd H dx (exd dx [(f, y)])) a (exo a C (some dx)))
section
variable {X : Cx} {pins : List (Addr × Obj)} {σ : L2.St} {H : Hp} {s : Shared} {C fI : Addr} {f nm : Str} {y : V} {u : Value} {k : Nat} {fd : FuncData} {Q : VK}
/-- C(y) or C(f=y): the call itself -/
theorem make_ox (T : OxC X.K C) (iC : PySem.W.findIn X.K (.ref C) "__init__" = some (some (.ref fI))) (tI : PySem.W.typeIn X.K (.ref fI) = some (.type "function")) (F : FnOk X.prog X.w X.K X.mg X.base CX0 k fI fd ["self", nm] (spInit X.K f))
    (hr : Room (k + 1) X.A) (no : PySem.W.findIn X.K (.ref C) f = some none) (I : Inv X pins σ H s) (ry : RelV y u) {rest : List Value} {kw : List (Str × Value)} (short : rest.length ≤ 1)
    (bnd : ∀ (s : Shared) (self : Value), BindsTo s fd ⟨self :: rest, kw⟩ [("self", self), (nm, u)])
    (fin : ∀ a dx, H a = none → H dx = none → dx ≠ a → Q (.ref a) (upd (upd (upd H a (exo a C none)) dx (exd dx [(f, y)])) a (exo a C (some dx)))) :
    wpAny (model X.prog X.w) X.A (call (.ref C) rest kw) (EP X pins σ Q) X.xe s := by
  obtain ⟨nm', q, N, bs, bm, sn, sub, ab, col, dd, k0, k1, k2, k3, k5, Bn, newId, initId, bmN, hC, FB, TT, pass, hob⟩ := T.cls
  obtain ⟨hp, g, dr, tk, os⟩ := s
  have big : hp.objs.size ≤ hp.objs.size + 1 := Nat.le_succ _
  have fresh : H (hp.objs.size + 1) = none := I.hok.fresh big
  have up : ∀ b o, hp.get? b = some o → ((hp.push (PySem.W.kdv_tup rest)).push (PySem.HandSPX.excO C hp.objs.size)).get? b = some o := fun b o e => Heap.get?_push_of_some _ (Heap.get?_push_of_some _ e)
  have at_ : ((hp.push (PySem.W.kdv_tup rest)).push (PySem.HandSPX.excO C hp.objs.size)).get? (hp.objs.size + 1) = some (PySem.HandSPX.excO C hp.objs.size) := by heap_get
  have J : Inv X pins σ (upd H (hp.objs.size + 1) (exo (hp.objs.size + 1) C none)) ⟨(hp.push (PySem.W.kdv_tup rest)).push (PySem.HandSPX.excO C hp.objs.size), g, dr, tk, os⟩ := I.laid (t' := tk) up big (exo_ok at_)
  have rel : Vals [V.ref (hp.objs.size + 1), y] [Value.ref (hp.objs.size + 1), u] := .cons rfl (.cons ry .nil)
  have sz : rest.length ≤ sizeLine := Nat.le_trans short (by rw [sizeLine_eq]; decide)
  have ask : spInit X.K f [V.ref (hp.objs.size + 1), y] (upd H (hp.objs.size + 1) (exo (hp.objs.size + 1) C none)) (fun v H' => v = .non ∧ Q (.ref (hp.objs.size + 1)) H') (fun _ _ _ => False) := by
    refine ⟨_, C, y, rfl, T, no, upd_same, fun dx n ne => ⟨rfl, fin _ dx fresh ?_ ne⟩⟩
    rw [upd_ne ne] at n
    exact n
  refine wpAny_call (PySem.HandSPX.classCallK FB TT (I.kIn _ _ hC) (PySem.W.looks_findIn I.kIn iC) (fun self => PySem.W.bind_fn I.kIn self tI) sz ?_)
  refine codeAny_mono (F.run _ X.stack _ _ ⟨Value.ref (hp.objs.size + 1) :: rest, kw⟩ [Value.ref (hp.objs.size + 1), u] _ _ (fun _ _ _ => False) (hr.make C rest kw) (J.env0.make C rest kw) (bnd _ _) rel ask) ?_
  rintro (er | fl) s' out
  · exact out.elim
  · cases fl with
    | next => exact out.elim
    | brk => exact out.elim
    | cont => exact out.elim
    | ret v =>
      obtain ⟨v', H', J', rv, rfl, qq⟩ := J.after out
      exact ⟨rv, ⟨V.ref (hp.objs.size + 1), H', J', rfl, qq⟩⟩
end
/-- C(e), C(f=e): a new exception with its field -/
def tOx (C : Addr) (f : Str) (t : TA) : TE := fun σ H Q => t σ H fun vs H1 => ∃ y, vs = [y] ∧ ∀ a dx H2, H1 a = none → H1 dx = none → dx ≠ a → H2 a = some (exo a C (some dx)) → H2 dx = some (exd dx [(f, y)]) → Same H1 H2 → Q (.ref a) H2
/-- C() without an __init__ -/
def tOx0 (C : Addr) : TE := fun _ H Q => ∀ a, H a = none → Q (.ref a) (upd H a (exo a C none))
theorem tOx_end {H : Hp} {C : Addr} {f : Str} {y : V} {Q : VK} (q : ∀ a dx H2, H a = none → H dx = none → dx ≠ a → H2 a = some (exo a C (some dx)) → H2 dx = some (exd dx [(f, y)]) → Same H H2 → Q (.ref a) H2)
    (a dx : Addr) (na : H a = none) (nd : H dx = none) (ne : dx ≠ a) : Q (.ref a) (upd (upd (upd H a (exo a C none)) dx (exd dx [(f, y)])) a (exo a C (some dx))) := by
  refine q a dx _ na nd ne upd_same ?_ ?_
  · rw [upd_ne ne, upd_same]
  · intro b o h
    rw [upd_ne (ne_of_none h na), upd_ne (ne_of_none h nd), upd_ne (ne_of_none h na)]
    exact h
section
variable {X : Cx} {C fI : Addr} {f nm x : Str} {k : Nat} {fd : FuncData} {e : Expr} {t : TA} {p pos kp : Pos}
theorem pe_ox (T : OxC X.K C) (iC : PySem.W.findIn X.K (.ref C) "__init__" = some (some (.ref fI))) (tI : PySem.W.typeIn X.K (.ref fI) = some (.type "function")) (F : FnOk X.prog X.w X.K X.mg X.base CX0 k fI fd ["self", nm] (spInit X.K f))
    (hr : Room (k + 1) X.A) (no : PySem.W.findIn X.K (.ref C) f = some none) (bnd : ∀ (s : Shared) (self u : Value), BindsTo s fd ⟨[self, u], []⟩ [("self", self), (nm, u)]) (hg : Gl X x) (hm : X.mg x = some (.ref C)) (ha : PA X [e] t)
    (hdb : (x == ("__debug__" : Str)) = false := by decide) (he : starEach [e] X.env = (false, eval e X.env) :: starEach [] X.env := by rfl) (hpl : (backTo pos (starEach [] X.env)).any (·.1) = false := by rfl) :
    PE X (.Call (.Name x p) [e] [] pos) (tOx C f t) := by
  constructor
  intro pins s σ H Q I h
  refine wpAny_Call_Name_kw (ld_glob I hg hm ?_ hdb)
  refine PySem.W.callWith_K (h₀ := X.base) I.ok.mod.kin T.kC ?_ he hpl
  refine thn (ha.run pos pins s σ H _ I h) ?_
  rintro us s1 ⟨vs, H1, I1, r, y, rfl, q⟩
  obtain ⟨u, rfl, ru⟩ := vals1 r
  exact ⟨I1.kIn, make_ox T iC tI F hr no I1 ru (rest := [u]) (kw := []) (Nat.le_refl 1) (fun s self => bnd s self u) (tOx_end q)⟩
theorem pe_oxK (T : OxC X.K C) (iC : PySem.W.findIn X.K (.ref C) "__init__" = some (some (.ref fI))) (tI : PySem.W.typeIn X.K (.ref fI) = some (.type "function")) (F : FnOk X.prog X.w X.K X.mg X.base CX0 k fI fd ["self", nm] (spInit X.K f))
    (hr : Room (k + 1) X.A) (no : PySem.W.findIn X.K (.ref C) f = some none) (bnd : ∀ (s : Shared) (self u : Value), BindsTo s fd ⟨[self], [(nm, u)]⟩ [("self", self), (nm, u)]) (hg : Gl X x) (hm : X.mg x = some (.ref C)) (hk : PK X [⟨some nm, e, kp⟩] t)
    (hall : (backToKw pos (keywordEach [⟨some nm, e, kp⟩] X.env)).all (·.1.isSome) = true := by rfl) (hks : (backToKw pos (keywordEach [⟨some nm, e, kp⟩] X.env)).filterMap (·.1) = [nm] := by rfl) (hdb : (x == ("__debug__" : Str)) = false := by decide)
    (hpl : ((backTo pos (starEach [] X.env)).any (·.1) || (backToKw pos (keywordEach [⟨some nm, e, kp⟩] X.env)).any (·.1.isNone)) = false := by rfl) :
    PE X (.Call (.Name x p) [] [⟨some nm, e, kp⟩] pos) (tOx C f t) := by
  constructor
  intro pins s σ H Q I h
  refine wpAny_Call_Name_kw (ld_glob I hg hm ?_ hdb)
  refine PySem.W.callWith_KW0 (h₀ := X.base) I.ok.mod.kin T.kC hall ?_ hpl
  refine thn (hk.run pos pins s σ H _ I h) ?_
  rintro us s1 ⟨vs, H1, I1, r, y, rfl, q⟩
  obtain ⟨u, rfl, ru⟩ := vals1 r
  refine ⟨I1.kIn, ?_⟩
  rw [hks]
  exact make_ox T iC tI F hr no I1 ru (rest := []) (kw := [(nm, u)]) (Nat.zero_le 1) (fun s self => bnd s self u) (tOx_end q)
theorem pe_ox0 {bmB : List Value} {B newId initId : String} (FB : ExcBaseFacts B newId initId bmB) (q : PySem.W.excIn X.K C bmB newId = true) (hg : Gl X x) (hm : X.mg x = some (.ref C)) (kC : PySem.W.keepIn X.K (.ref C) = true) (hdb : (x == ("__debug__" : Str)) = false := by decide) :
    PE X (.Call (.Name x p) [] [] pos) (tOx0 C) := by
  constructor
  intro pins s σ H Q I h
  refine wpAny_Call_Name_kw (ld_glob I hg hm ?_ hdb)
  refine PySem.W.callWith_K0 I.kIn kC ?_
  obtain ⟨bm, N, nm, qn, bs, hdct, sn, sub, ab, col, dd, k0, k1, k2, k3, k5, mN, hC, hN, hni, T⟩ := exc_obj I.kIn q
  refine wpAny_call_exc_subT FB T hC hN hni (fun h' a made => ?_) (Nat.zero_le _)
  have fresh : H a = none := I.hok.gone made.new
  obtain ⟨t, at_, _, _⟩ := made.there
  exact ⟨.ref a, _, I.laidN made.keeps made.new fresh (exo_ok at_), rfl, h a fresh⟩
end
/-- e.f, e a made exception -/
def tGetX (K : PySem.W.Frag) (f : Str) (te : TE) : TE := fun σ H Q => te σ H fun x H1 => ∃ (a C dx : Addr) (y : V), x = .ref a ∧ H1 a = some (exo a C (some dx)) ∧ H1 dx = some (exd dx [(f, y)]) ∧ XfC K C ∧ PySem.W.findIn K (.ref C) f = some none ∧ Q y H1
theorem pe_getX {X : Cx} {e : Expr} {te : TE} {pos : Pos} {f : Str} (he : PE X e te) (hb : attributeBase e f X.env (eval e X.env) = eval e X.env := by rfl) : PE X (.Attribute e f pos) (tGetX X.K f te) := by
  constructor
  intro pins s σ H Q I h
  refine attr_of hb (thn (he.run pins s σ H _ I h) ?_)
  rintro u s1 ⟨x, H1, I1, rx, a, C, dx, y, rfl, ea, ed, T, no, q⟩
  cases rx
  obtain ⟨t1, obj⟩ := exo_at I1.hok ea
  obtain ⟨mA, hns, rel⟩ := exd_at I1.hok ed
  obtain ⟨od, hod, hl⟩ := lookIn_ns hns
  have lk : List.lookup f [(f, y)] = some y := by rw [lookup_put, if_pos rfl]
  obtain ⟨v, hv, rv⟩ := RelO.some_of (v := y) (o := mA f) (by rw [← lk]; exact rel f)
  have inst : PySem.W.InstAt s1.heap a { cls := .ref C, dict := some dx, data := .fields #[.ref t1, .none, .none, .none, .bool false, .none] } C (some od) := ⟨obj, rfl, rfl, hod⟩
  exact HandSPX.exc_get I1.kIn inst T.ga T.gg T.exC (PySem.W.findObj_own T.hdC no rfl (by rw [hl, hv])) (handed_of rv) ⟨y, H1, I1.tok _, rv, q⟩
/-! ### isinstance of a made exception -/
section
variable {K : PySem.W.Frag} {D x : Addr} {ox : Obj} {od : Option Obj}
open PySem.Calls PySem.W in
theorem kitxV (c : ExcC K D) (hob : clsIn K D ≠ none) : KitX K (.ref x) (.ref D) (fun h => InstAt h x ox D od) := by
  have found : findObj K D od "__class__" = some (.bind (.builtin "getset_descriptor.__get__") (.builtin "object.__class__")) := by
    obtain ⟨cd, hc, _⟩ := any_some c.hd
    unfold findObj
    rw [hc, Option.bind_some, c.ha, Option.bind_some]
    simp [c.hn, c.ht]
  refine ⟨fun _ _ _ I => I.type, ?_, ?_, ?_⟩
  · intro M h X _ A Q E s k q
    unfold isType loadHead
    cases e : clsIn K D with
    | none => exact absurd e hob
    | some cd =>
      unfold clsIn at e
      split at e
      · rename_i ho
        exact wpAny_bind (wpAny_loadPart (k _ _ (X _ _ ho)) (wpAny_pure q))
      · cases e
  · intro h tp dd its n sl X htp
    cases e : clsIn K D with
    | none => exact absurd e hob
    | some cd =>
      unfold clsIn at e
      split at e
      · rename_i ho
        refine Bool.eq_false_iff.mpr fun q => ?_
        obtain rfl : D = tp := Value.ref.inj (beq_iff_eq.mp q)
        rw [X _ _ ho] at htp
        cases htp
      · cases e
  · intro prog w A E Q s X I fin
    obtain ⟨hp, g, d, t, os⟩ := s
    have ty := I.type (M := model prog w)
    have lk1 := looks_findIn (M := model prog w) X c.hg
    have lk2 := looks_findIn (M := model prog w) X c.hk
    have lk3 := looks_find (M := model prog w) X I found
    have sb : Looks (model prog w) hp (isInstance (.ref x) (.type "BaseException")) true := ty.andThen (looks_subIn X c.hs)
    have n0 : (Value.builtin "BaseException.__getattribute__" == Value.builtin "object.__getattribute__") = false := by decide +kernel
    have n1 : (onTheHeap (Value.ref D) && Value.builtin "BaseException.__getattribute__" == Value.builtin "object.__getattribute__") = false := by rw [n0]; rfl
    have n2 : (false && onTheHeap (Value.builtin "BaseException.__getattribute__")) = false := rfl
    unfold getAttr? getAttrBy? getAttrBy
    refine wpAny_bind (wpAny_mkText (wpAny_bind (wpAny_attempt (wpAny_holding (wpAny_bind (ty.at (wpAny_bind (lk1.at ?_))))))))
    show wpAny _ _ (if (onTheHeap (Value.ref D) && Value.builtin "BaseException.__getattribute__" == Value.builtin "object.__getattribute__") = true then _ else _) _ _ _
    rw [n1, if_neg Bool.false_ne_true]
    unfold getAttrByItsOwn hookBefore
    refine wpAny_bind ?_
    rw [if_pos (show onTheHeap (Value.ref D) = true from rfl)]
    refine lk2.at (wpAny_bind (wpAny_attempt (wpAny_holding ?_)))
    unfold callGetattribute
    rw [n2, if_neg Bool.false_ne_true]
    unfold boundAndCalled
    rw [PySem.F.excAttr_ValueError.ga.bind (.ref x)]
    refine wpAny_bind (wpAny_pure ?_)
    show wpAny _ _ (call (.builtin "BaseException.__getattribute__") [.ref x, .str "__class__" t]) _ _ _
    refine wpAny_call (codeAny_call_builtin PySem.F.excAttr_ValueError.ga.plain PySem.F.entry_bexc_ga ?_)
    refine @check_slot (model prog w) _ _ ⟨hp, g, d, t + 1, os⟩ "BaseException.__getattribute__" "BaseException" "__getattribute__" (.ref x) [.str "__class__" t] [] _ (by decide +kernel) (by decide +kernel) sb (PySem.F.args_bexc_ga (.ref x) (.str "__class__" t)) ?_
    unfold Builtin.«object.__getattribute__»
    refine wpAny_bind (wpAny_of_eq (a := ((Value.ref x : Value), [Value.str "__class__" t])) (by first | rfl | (simp only [slotArgs]; rfl)) ?_)
    refine wpAny_bind (wpAny_pure (wpAny_bind (ty.at (wpAny_bind (lk3.at ?_)))))
    show wpAny _ _ (holding [Value.builtin "object.__class__"] (call (.builtin "getset_descriptor.__get__") [.builtin "object.__class__", .ref x, .ref D]) >>= ret) _ _ _
    refine wpAny_bind (wpAny_holding (wpAny_call (class_get (s := ⟨hp, g, d, t + 1, os⟩) (ox := ox) (od := od) X I c.hm (wpAny_pure ?_))))
    show wpAny _ _ (handedOut (.ref D)) _ _ _
    rw [handedOut_of (v := .ref D) rfl]
    first
      | exact wpAny_pure (wpAny_pure fin)
      | exact wpAny_pure fin
      | exact wpAny_pure (wpAny_bind (wpAny_pure (wpAny_pure fin)))
end
/-- isinstance(e, c), e a made exception, c one class -/
def rIsX (K : PySem.W.Frag) : List V → Hp → VK → Prop := fun xs H Q => ∃ (a C : Addr) (c : V) (u : Value) (b : Bool), xs = [.ref a, c] ∧ ClsV c u ∧ ExcC K C ∧ (H a = some (exo a C none) ∨ ∃ dx fs, H a = some (exo a C (some dx)) ∧ H dx = some (exd dx fs)) ∧
  PySem.W.kitOne K (.ref C) u = some b ∧ Q (.bl b) H
theorem call_isX {X : Cx} : CallR X (.builtin "isinstance") (rIsX X.K) := by
  intro pins s σ H xs us Q I r h
  obtain ⟨a, C, c, u, b, rfl, cv, ec, obj, kit, q⟩ := h
  obtain ⟨u1, u2, rfl, r1, r2⟩ := vals2 r
  cases r1
  obtain rfl := cv.eq r2
  have hob : PySem.W.clsIn X.K C ≠ none := by
    obtain ⟨cd, hc, _⟩ := PySem.W.any_some ec.hd
    rw [hc]
    simp
  rcases obj with e | ⟨dx, fs, e, ed⟩
  · obtain ⟨t1, at_⟩ := exo_at I.hok e
    exact PySem.W.kia_one (kitxV (od := none) ec hob) I.kIn ⟨at_, rfl, rfl, trivial⟩ kit (fun z => nomatch z) fun tk => ⟨.bl b, H, I.tok tk, rfl, q⟩
  · obtain ⟨t1, at_⟩ := exo_at I.hok e
    obtain ⟨mA, hns, rel⟩ := exd_at I.hok ed
    obtain ⟨od, hod, _⟩ := lookIn_ns hns
    exact PySem.W.kia_one (kitxV (od := some od) ec hob) I.kIn ⟨at_, rfl, rfl, hod⟩ kit (fun z => nomatch z) fun tk => ⟨.bl b, H, I.tok tk, rfl, q⟩
end Tk
set_option Elab.async false
set_option maxRecDepth 100000
set_option maxHeartbeats 4000000
/-! Data of any depth that stands apart from one address; how long it is shown. -/
namespace Tk
open PySem PySem.Spec PyProof.Rows L2
mutual
inductive Da (S : Addr → Prop) (H : Hp) : V → PyData → Prop
  | non : Da S H .non .none
  | bl (b : Bool) : Da S H (.bl b) (.bool b)
  | int (i : Int) : Da S H (.int i) (.int i)
  | str (x : Str) : Da S H (.str x) (.str x)
  | lst {p : Addr} {xs : List V} {ds : List PyData} : S p → H p = some (.lst xs) → DaAll S H xs ds → Da S H (.ref p) (.list ds)
  | tup {p : Addr} {xs : List V} {ds : List PyData} : S p → H p = some (.tup xs) → DaAll S H xs ds → Da S H (.ref p) (.tuple ds)
inductive DaAll (S : Addr → Prop) (H : Hp) : List V → List PyData → Prop
  | nil : DaAll S H [] []
  | cons {v : V} {vs : List V} {d : PyData} {ds : List PyData} : Da S H v d → DaAll S H vs ds → DaAll S H (v :: vs) (d :: ds)
end
section
variable {S S' : Addr → Prop} {H H' : Hp} {K : PySem.W.Frag}
mutual
theorem Da.dp : ∀ (d : PyData) (v : V), Da S H v d → Dp K H v d
  | .none, _, h => by cases h; exact .non
  | .bool b, _, h => by cases h; exact .bl b
  | .int i, _, h => by cases h; exact .int i
  | .str x, _, h => by cases h; exact .str x
  | .list ds, _, h => by
    cases h with
    | lst _ e r => exact .lst (SqL.of e) (DaAll.dp ds _ r)
  | .tuple ds, _, h => by
    cases h with
    | tup _ e r => exact .tup (SqT.of e) (DaAll.dp ds _ r)
  | .dict _, _, h => by cases h
theorem DaAll.dp : ∀ (ds : List PyData) (vs : List V), DaAll S H vs ds → DpAll K H vs ds
  | [], _, h => by cases h; exact .nil
  | d :: ds, _, h => by
    cases h with
    | cons x r => exact .cons (Da.dp d _ x) (DaAll.dp ds _ r)
end
mutual
theorem Da.to (k : ∀ b o, S b → H b = some o → H' b = some o) : ∀ (d : PyData) (v : V), Da S H v d → Da S H' v d
  | .none, _, h => by cases h; exact .non
  | .bool b, _, h => by cases h; exact .bl b
  | .int i, _, h => by cases h; exact .int i
  | .str x, _, h => by cases h; exact .str x
  | .list ds, _, h => by
    cases h with
    | lst n e r => exact .lst n (k _ _ n e) (DaAll.to k ds _ r)
  | .tuple ds, _, h => by
    cases h with
    | tup n e r => exact .tup n (k _ _ n e) (DaAll.to k ds _ r)
  | .dict _, _, h => by cases h
theorem DaAll.to (k : ∀ b o, S b → H b = some o → H' b = some o) : ∀ (ds : List PyData) (vs : List V), DaAll S H vs ds → DaAll S H' vs ds
  | [], _, h => by cases h; exact .nil
  | d :: ds, _, h => by
    cases h with
    | cons x r => exact .cons (Da.to k d _ x) (DaAll.to k ds _ r)
end
mutual
theorem Da.weak (k : ∀ b, S b → S' b) : ∀ (d : PyData) (v : V), Da S H v d → Da S' H v d
  | .none, _, h => by cases h; exact .non
  | .bool b, _, h => by cases h; exact .bl b
  | .int i, _, h => by cases h; exact .int i
  | .str x, _, h => by cases h; exact .str x
  | .list ds, _, h => by
    cases h with
    | lst n e r => exact .lst (k _ n) e (DaAll.weak k ds _ r)
  | .tuple ds, _, h => by
    cases h with
    | tup n e r => exact .tup (k _ n) e (DaAll.weak k ds _ r)
  | .dict _, _, h => by cases h
theorem DaAll.weak (k : ∀ b, S b → S' b) : ∀ (ds : List PyData) (vs : List V), DaAll S H vs ds → DaAll S' H vs ds
  | [], _, h => by cases h; exact .nil
  | d :: ds, _, h => by
    cases h with
    | cons x r => exact .cons (Da.weak k d _ x) (DaAll.weak k ds _ r)
end
theorem DaAll.snoc : ∀ {vs : List V} {ds : List PyData} {v : V} {d : PyData}, DaAll S H vs ds → Da S H v d → DaAll S H (vs ++ [v]) (ds ++ [d])
  | _, _, _, _, .nil, x => .cons x .nil
  | _, _, _, _, .cons y r, x => .cons y (r.snoc x)
theorem DaAll.length : ∀ {vs : List V} {ds : List PyData}, DaAll S H vs ds → vs.length = ds.length
  | _, _, .nil => rfl
  | _, _, .cons _ r => congrArg Nat.succ r.length
theorem DaAll.get : ∀ {vs : List V} {ds : List PyData} {i : Nat} {v : V}, DaAll S H vs ds → vs[i]? = some v → ∃ d, ds[i]? = some d ∧ Da S H v d
  | _, _, _, _, .nil, e => by simp at e
  | _, _, 0, _, .cons x _, e => by simp at e; subst e; exact ⟨_, rfl, x⟩
  | _, _, i + 1, _, .cons _ r, e => by
    obtain ⟨d, h1, h2⟩ := r.get (i := i) (by simpa using e)
    exact ⟨d, by simpa using h1, h2⟩
end
/-- data that is shown in at most m signs, at most k deep -/
structure Fine (m k : Nat) (d : PyData) : Prop where
  shows : d.showable = true
  plain : d.hasDict = false
  dep : d.depth ≤ k
  len : d.shown.length ≤ m
  lay : d.canLay0 = true
theorem Fine.mono {m k m' k' : Nat} {d : PyData} (f : Fine m k d) (h1 : m ≤ m') (h2 : k ≤ k') : Fine m' k' d := ⟨f.shows, f.plain, Nat.le_trans f.dep h2, Nat.le_trans f.len h1, f.lay⟩
theorem Fine.none : Fine 4 0 .none := ⟨rfl, rfl, Nat.le_refl _, by decide +kernel, rfl⟩
theorem Fine.bool (b : Bool) : Fine 5 0 (.bool b) := ⟨rfl, rfl, Nat.le_refl _, by cases b <;> decide +kernel, rfl⟩
theorem fine_all {m k : Nat} : ∀ {ds : List PyData}, (∀ d ∈ ds, Fine m k d) → PyData.showableAll ds = true ∧ PyData.hasDictAll ds = false ∧ PyData.depthAll ds ≤ k ∧ piled (PyData.shownAll ds) ≤ (m + 2) * ds.length ∧ PyData.canLayAll0 ds = true
  | [], _ => ⟨rfl, rfl, Nat.zero_le _, Nat.zero_le _, rfl⟩
  | d :: ds, h => by
    obtain ⟨a1, a2, a3, a4, a5⟩ := fine_all (ds := ds) fun e he => h e (List.mem_cons_of_mem _ he)
    have f := h d List.mem_cons_self
    refine ⟨?_, ?_, ?_, ?_, ?_⟩
    · simp only [PyData.showableAll, f.shows, a1, Bool.and_self]
    · simp only [PyData.hasDictAll, f.plain, a2, Bool.or_self]
    · simp only [PyData.depthAll]
      exact Nat.max_le.mpr ⟨f.dep, a3⟩
    · have l := f.len
      simp only [PyData.shownAll, piled_cons, List.length_cons, Nat.mul_add, Nat.mul_one]
      omega
    · simp only [PyData.canLayAll0, f.lay, a5, Bool.and_self]
theorem listText_le (ts : List Str) : (listText ts).length ≤ piled ts + 2 := by
  cases ts with
  | nil => decide +kernel
  | cons t r =>
    have h := textFrom_length_pos r 1 (("[" : Str) ++ (if (0 : Nat) > 0 then ", " else "" : String) ++ t) (Nat.succ_pos 0)
    have e : (listText (t :: r)).length = (textFrom 1 (("[" : Str) ++ (if (0 : Nat) > 0 then ", " else "" : String) ++ t) r).length + 1 := by
      show (textFrom 0 "[" (t :: r) ++ "]").length = _
      rw [strLen_append]; rfl
    have e2 : ((("[" : Str) ++ (if (0 : Nat) > 0 then ", " else "" : String) ++ t)).length = 1 + t.length := by
      rw [strLen_append, strLen_append]; rfl
    rw [e, h, e2, piled_cons]
    omega
theorem tupleText_le (ts : List Str) : (tupleText ts).length ≤ piled ts + 2 := by
  have close : (((if ts.length == 1 then ",)" else ")" : String) : Str)).length ≤ 2 := by split <;> decide +kernel
  have opn : ((("(" : String) : Str)).length = 1 := rfl
  by_cases h : ts = []
  · subst h
    decide +kernel
  · have j := join_length_add ts h
    unfold tupleText
    rw [strLen_append, strLen_append, opn]
    omega
theorem Fine.list {m k : Nat} {ds : List PyData} (h : ∀ d ∈ ds, Fine m k d) : Fine ((m + 2) * ds.length + 2) (k + 1) (.list ds) := by
  obtain ⟨a1, a2, a3, a4, a5⟩ := fine_all h
  refine ⟨by simpa [PyData.showable] using a1, by simpa [PyData.hasDict] using a2, ?_, ?_, by simpa [PyData.canLay0] using a5⟩
  · simp only [PyData.depth]; omega
  · simp only [PyData.shown]
    exact Nat.le_trans (listText_le _) (by omega)
theorem Fine.tuple {m k : Nat} {ds : List PyData} (h : ∀ d ∈ ds, Fine m k d) : Fine ((m + 2) * ds.length + 2) (k + 1) (.tuple ds) := by
  obtain ⟨a1, a2, a3, a4, a5⟩ := fine_all h
  refine ⟨by simpa [PyData.showable] using a1, by simpa [PyData.hasDict] using a2, ?_, ?_, by simpa [PyData.canLay0] using a5⟩
  · simp only [PyData.depth]; omega
  · simp only [PyData.shown]
    exact Nat.le_trans (tupleText_le _) (by omega)
end Tk
set_option Elab.async false
set_option maxRecDepth 100000
set_option maxHeartbeats 4000000
/-! Walks over what is a list or a tuple; enumerate of a tuple. -/
namespace PySem
open AutoSeq1 (wpAny_loadPart')
theorem meets_enumT (l : Addr) (items : Array Value) (n : Nat) (dct : Option Addr) (sl : Array (Option Value)) :
    Meets (Builtin.«enumerate.__new__» ⟨[.type "enumerate", .ref l], []⟩) (fun _ R s => s.heap.get? l = some { cls := .type "tuple", dict := dct, data := .seq items n, slots := sl } ∧
      R (.ok (.ret (.ref (s.heap.push { cls := .type "tuple_iterator", data := .fields #[.ref l, .int 0 0] }).objs.size)))
        { s with heap := (s.heap.push { cls := .type "tuple_iterator", data := .fields #[.ref l, .int 0 0] }).push { cls := .type "enumerate", data := .fields #[.none, .bool false, .ref s.heap.objs.size, rawInt 0, .none, .none] } }) :=
  .of_wp fun prog w A R s h => by
    obtain ⟨hp, g, d, tk, os⟩ := s
    obtain ⟨hl, fin⟩ := h
    have sb := sub_enumerate
    have isT : Heap.IsTuple (Shared.heap ⟨hp, g, d, tk, os⟩) l items := ⟨_, hl, rfl, n, rfl⟩
    wp_walk using wpAny_loadPart' hl
    refine wpAny_stack_any fun _ => wpAny_pure ?_
    split
    · rename_i c _ _ _ _ _
      cases (c == Value.type "enumerate") <;>
      · wp_walk using wpAny_loadPart' hl, wpAny_pyIter_tuple isT
        exact ⟨_, rfl, fin⟩
    · wp_walk using wpAny_loadPart' hl, wpAny_pyIter_tuple isT
      exact ⟨_, rfl, fin⟩
theorem call_enumT {prog : Program} {w : World} {A : Around} {E : Value → Shared → Prop} {s : Shared} {l : Addr} {items : Array Value} {Q : Value → Shared → Prop} (isT : s.heap.IsTuple l items)
    (fin : ∀ h', IsEnum h' (s.heap.objs.size + 1) s.heap.objs.size 0 .none → h'.IsTupleIter s.heap.objs.size l 0 → h'.objs.size = s.heap.objs.size + 2 →
      (∀ b o, s.heap.get? b = some o → h'.get? b = some o) → Q (.ref (s.heap.objs.size + 1)) { s with heap := h' }) :
    wpAny (model prog w) A (call (.type "enumerate") [.ref l]) Q E s := by
  obtain ⟨⟨c, dct, dt, sl⟩, hl, hc, n, hd⟩ := isT
  obtain rfl : c = .type "tuple" := hc
  obtain rfl : dt = .seq items n := hd
  refine callType_new F.called_enumerate (by decide) (F.typeCall_enumerate_1 _) (F.newCall_enumerate_1 _) (fun obj => F.args_object_init_2 obj _) F.entry_enumerate_new (meets_enumT l items n dct sl) ⟨hl, ?_⟩
  have z : (s.heap.push { cls := .type "tuple_iterator", data := .fields #[.ref l, .int 0 0] }).objs.size = s.heap.objs.size + 1 := Heap.size_push ..
  show _ ∧ _
  rw [z]
  have en : IsEnum ((s.heap.push { cls := .type "tuple_iterator", data := .fields #[.ref l, .int 0 0] }).push { cls := .type "enumerate", data := .fields #[.none, .bool false, .ref s.heap.objs.size, rawInt 0, .none, .none] }) (s.heap.objs.size + 1) s.heap.objs.size 0 .none := by
    have g := Heap.get?_push_size (s.heap.push { cls := .type "tuple_iterator", data := .fields #[.ref l, .int 0 0] }) (o := { cls := .type "enumerate", data := .fields #[.none, .bool false, .ref s.heap.objs.size, rawInt 0, .none, .none] }) rfl
    rw [z] at g
    exact g
  exact ⟨⟨_, en, rfl⟩, fin _ en ⟨_, Heap.get?_push_of_some _ (Heap.get?_push_size _ rfl), rfl, rfl⟩ (by rw [Heap.size_push, z]) fun b o x => Heap.get?_push_of_some _ (Heap.get?_push_of_some _ x)⟩
end PySem
namespace Tk
open PySem PySem.Spec PyProof.Rows L2
/-- a list or a tuple -/
def SqE (K : PySem.W.Frag) (H : Hp) (a : Addr) (xs : List V) : Prop := SqL K H a xs ∨ SqT K H a xs
/-- what stands at a stays -/
def At (H : Hp) (a : Addr) : Hp → Prop := fun H' => ∀ o, H a = some o → H' a = some o
theorem At.list {K : PySem.W.Frag} {H H' : Hp} {a : Addr} {xs : List V} (h : SqL K H a xs) (k : At H a H') : SqL K H' a xs := by
  rcases h with (h | ⟨o, h⟩) | h
  · exact .inl (.inl (k _ h))
  · exact .inl (.inr ⟨o, k _ h⟩)
  · exact .inr h
theorem At.tup {K : PySem.W.Frag} {H H' : Hp} {a : Addr} {xs : List V} (h : SqT K H a xs) (k : At H a H') : SqT K H' a xs := by
  rcases h with (h | ⟨o, h⟩) | h
  · exact .inl (.inl (k _ h))
  · exact .inl (.inr ⟨o, k _ h⟩)
  · exact .inr h
theorem At.either {K : PySem.W.Frag} {H H' : Hp} {a : Addr} {xs : List V} (h : SqE K H a xs) (k : At H a H') : SqE K H' a xs := h.imp (At.list · k) (At.tup · k)
/-- enumerate(tuple) -/
def IteT (K : PySem.W.Frag) (a : Addr) : It :=
  ⟨fun i H => ∃ (xs : List V) (x : V), SqT K H a xs ∧ xs[i]? = some x, fun i H v H' => ∃ T x, v = .ref T ∧ H T = none ∧ H' = upd H T (.tup [.int (i : Nat), x]) ∧ ∀ xs, SqT K H a xs → xs[i]? = some x, fun i H => ∃ xs : List V, SqT K H a xs ∧ xs.length ≤ i⟩
theorem turnT {P : Program} {w : World} {K : PySem.W.Frag} {elts : List Expr} {kk : Nat} {tpos : Pos} (a e it : Addr) :
    Turn P w K (.Tuple elts kk tpos) (IteT K a) [e, it] e (fun i h => (∃ old, IsEnum h e it ((i : Nat) : Int) old) ∧ h.IsTupleIter it a i ∧ e ≠ it) where
  mem := List.mem_cons_self
  obj := by
    rintro i h ⟨⟨old, he⟩, ⟨o, ho, hc, hd⟩, _⟩ b hb
    rcases List.mem_cons.mp hb with rfl | hb
    · exact ⟨_, he, fun v q => nomatch q⟩
    · obtain rfl := List.mem_singleton.mp hb
      exact ⟨o, ho, fun v q => by rw [hd] at q; cases q⟩
  keep := by
    rintro i h h' ⟨⟨old, he⟩, hi, hne⟩ k
    exact ⟨⟨old, k e List.mem_cons_self _ he⟩, hi.at fun o q => k it (by simp) o q, hne⟩
  item := by
    intro X hP hw hK hc i pins s σ H E I hf st hg
    subst hP hw hK
    obtain ⟨⟨old, he⟩, hit, hne⟩ := st
    obtain ⟨xs, x, hq, hx⟩ := hg
    obtain ⟨its, rv, isT, _⟩ := I.tuple hq
    obtain ⟨u, hu, ru⟩ := rv.get hx
    have isT' : s.heap.IsTuple a its.toArray := isT
    have le : e < s.heap.objs.size := Heap.lt_size he
    have li : it < s.heap.objs.size := by
      obtain ⟨_, q, _⟩ := hit
      exact Heap.lt_size q
    have ai : a ≠ it := by
      rintro rfl
      obtain ⟨o1, q1, c1, _⟩ := hit
      obtain ⟨o2, q2, c2, _⟩ := isT'
      rw [q1] at q2
      cases q2
      rw [c1] at c2
      injection c2 with z
      exact absurd z (by decide)
    have ae : e ∉ [it, a] := by
      intro m
      rcases List.mem_cons.mp m with q | m
      · exact hne q
      · obtain rfl := List.mem_singleton.mp m
        obtain ⟨o2, q2, c2, _⟩ := isT'
        rw [he] at q2
        cases q2
        injection c2 with z
        exact absurd z (by decide)
    have lt : i < its.toArray.size := by
      have := (List.getElem?_eq_some_iff.mp hu).1
      simpa using this
    have hand : X.A.in1.handled = none := I.ok.hd hc
    refine wpAny_pyNext_enum_itemD (Draws.tuple hand it a ai its.toArray) he ⟨hit, isT'⟩ lt hne ae ?_
    intro y h' tk hy out st' tupN sz keep
    obtain rfl : u = y := by
      have hy' : its.toArray[i]? = some y := hy
      rw [List.getElem?_toArray, hu] at hy'
      exact Option.some.inj hy'
    refine ⟨_, rfl, wpAny_letOwnedTupleGo_enum (s := { s with heap := h', toks := tk + 1 }) out fun h'' he' sb => ?_⟩
    have tup2 : h''.get? s.heap.objs.size = some { cls := .type "tuple", data := .seq #[.int i tk, u] } := (sb.2 _ (Nat.ne_of_gt le)).trans tupN
    have new : ObjOk X.prog X.w (upd H s.heap.objs.size (.tup [.int (i : Nat), x])) h'' s.heap.objs.size (.tup [.int (i : Nat), x]) :=
      ⟨by show 2 ≤ sizeLine; decide, [.int i tk, u], .cons ⟨_, rfl⟩ (.cons ru .nil), ⟨_, tup2, rfl, _, rfl⟩⟩
    have old_ : ∀ b ob, b ∉ [e, it] → s.heap.get? b = some ob → h''.get? b = some ob := fun b ob hb q =>
      (sb.2 b (fun z => hb (by simp [z]))).trans (keep b ob (fun z => hb (by simp [z])) (fun z => hb (by simp [z])) q)
    refine ⟨.ref s.heap.objs.size, _, I.turnedNew (ch := [e, it]) old_ hf (Nat.le_refl _) new, rfl, ⟨_, x, rfl, I.hok.fresh (Nat.le_refl _), rfl, ?_⟩, ⟨⟨u, ?_⟩, st'.1.at fun o q => (sb.2 it (Ne.symm hne)).trans q, hne⟩, ?_⟩
    · intro ys hy
      rw [I.tuple_inj hy hq]
      exact hx
    · have e1 : ((i + 1 : Nat) : Int) = (i : Int) + 1 := by omega
      rw [e1]
      exact he'
    · intro b hb
      have lb : b < s.heap.objs.size := by
        rcases List.mem_cons.mp hb with rfl | hb
        · exact le
        · obtain rfl := List.mem_singleton.mp hb
          exact li
      rw [upd_ne (Nat.ne_of_lt lb)]
      exact (hf b hb).1
  done := by
    intro X hP hw hK hc i pins s σ H E I hf st hg
    subst hP hw hK
    obtain ⟨⟨old, he⟩, hit, hne⟩ := st
    obtain ⟨xs, hq, hx⟩ := hg
    obtain ⟨its, rv, isT, _⟩ := I.tuple hq
    obtain ⟨f0, f1, f2, f3, f4, f5⟩ := hf it (by simp)
    have isT' : s.heap.IsTuple a its.toArray := isT
    have hand : X.A.in1.handled = none := I.ok.hd hc
    have none_ : its.toArray[i]? = none := by
      have := rv.length
      simp
      omega
    have D : Draws X.prog X.w X.A.in1 it [it, a] i (fun _ _ => False) (fun j h => j = i ∧ h.IsTupleIter it a i ∧ h.IsTuple a its.toArray) :=
      { live := fun _ _ st => let ⟨o, ho, _⟩ := st.2.1; ⟨o, ho⟩
        frame := fun _ _ _ st hk => ⟨st.1, st.2.1.at fun o e => hk it (by simp) o e, st.2.2.at fun o e => hk a (by simp) o e⟩
        item := fun j s Q E lt st => absurd st.1 (Nat.ne_of_lt lt)
        done := fun s Q E st hE => wpAny_nextOf_tuple_end hand st.2.1 st.2.2 none_ hE }
    exact wpAny_pyNext_enum_endD D he ⟨rfl, hit, isT'⟩ fun h' eb => ⟨rfl, I.turned (t' := s.toks) (fun b o hb q => eb b o hb q) f0 f1 f3 f4 f5⟩
  self := by
    rintro A i s Q E ⟨⟨_, he⟩, _⟩ h
    exact wpAny_pyIter_enum he h
theorem walkT {K : PySem.W.Frag} {a : Addr} {xs : List V} : Walk (IteT K a) xs.length (fun H => SqT K H a xs) (YPair (fun i => some (.int (i : Nat))) (fun i => xs[i]?)) := by
  refine ⟨fun i _ hi q => ⟨xs, xs[i], q, by simp [hi]⟩, fun _ q => ⟨xs, q, Nat.le_refl _⟩, fun i H v H' _ q y => ?_⟩
  obtain ⟨T, x, h1, h2, h3, h4⟩ := y
  exact ⟨T, .int (i : Nat), x, h1, h2, h3, rfl, h4 xs q⟩
/-- for x in y, y a list or a tuple -/
def iSeq (K : PySem.W.Frag) (tl : TE) : TI := fun σ H R => tl σ H fun x H1 => ∃ a xs, x = .ref a ∧ SqE K H1 a xs ∧ ∀ J, Walk J xs.length (At H1 a) (YAt xs) → R J H1
/-- for i, x in enumerate(y), y a list or a tuple -/
def iEnumS (K : PySem.W.Frag) (ta : TA) : TI := fun σ H R => ta σ H fun vs H1 => ∃ a xs, vs = [.ref a] ∧ SqE K H1 a xs ∧ ∀ J, Walk J xs.length (At H1 a) (YPair (fun i => some (.int (i : Nat))) (fun i => xs[i]?)) → R J H1
theorem pi_seq {X : Cx} {tg l : Expr} {tl : TE} (hl : PE X l tl) : PI X tg l (iSeq X.K tl) := by
  constructor
  intro pins s σ H R I h
  refine thn (hl.run pins s σ H _ I h) ?_
  rintro v s1 ⟨x, H1, I1, r1, a, xs, rfl, sq, q⟩
  cases r1
  have free : ∀ b ∈ [s1.heap.objs.size], FpOk X pins H1 b := fun b hb => by
    obtain rfl := List.mem_singleton.mp hb
    exact I1.fpOk (Nat.le_refl _) (I1.hok.fresh (Nat.le_refl _))
  have kp : ∀ (u : Obj) b o, s1.heap.get? b = some o → (s1.heap.push u).get? b = some o := fun u b o e => Heap.get?_push_of_some _ e
  rcases sq with sq | sq
  · obtain ⟨its, rv, isL, _⟩ := I1.list sq
    exact wpAny_pyIter_list isL.isList ⟨s1.heap.objs.size, [s1.heap.objs.size], _, _, H1, rfl, I1.kept (t' := s1.toks) (kp _), turn_list a _, ⟨_, Heap.get?_push_size _ rfl, rfl, rfl⟩, free, q _ (walk_list.mono (fun _ k => At.list sq k) fun _ _ _ _ _ _ y => y)⟩
  · obtain ⟨its, rv, isT, _⟩ := I1.tuple sq
    exact wpAny_pyIter_tuple (show s1.heap.IsTuple a its.toArray from isT) ⟨s1.heap.objs.size, [s1.heap.objs.size], _, _, H1, rfl, I1.kept (t' := s1.toks) (kp _), turn_tuple a _, ⟨_, Heap.get?_push_size _ rfl, rfl, rfl⟩, free, q _ (walk_tup.mono (fun _ k => At.tup sq k) fun _ _ _ _ _ _ y => y)⟩
theorem pi_enumS {X : Cx} {e : Expr} {ta : TA} {p pos tpos : Pos} {elts : List Expr} {kk : Nat} (hg : Gl X "enumerate") (hm : X.mg "enumerate" = none) (ha : PA X [e] ta) (hs : starEach [e] X.env = [(false, eval e X.env)] := by rfl) :
    PI X (.Tuple elts kk tpos) (.Call (.Name "enumerate" p) [e] [] pos) (iEnumS X.K ta) := by
  constructor
  intro pins s σ H R I h
  refine Call_ (ld_blt I hg hm boot_enumerate (PyProof.Rows.callWith_type1 (thn (ha.run pos pins s σ H _ I h) ?_) hs rfl))
  rintro us s1 ⟨vs, H1, I1, r1, a, xs, rfl, sq, q⟩
  obtain ⟨u, rfl, ru⟩ := vals1 r1
  cases ru
  have free : ∀ (h' : Heap), (∀ b o, s1.heap.get? b = some o → h'.get? b = some o) → ∀ b ∈ [s1.heap.objs.size + 1, s1.heap.objs.size], FpOk X pins H1 b := fun h' k b hb => by
    have le : s1.heap.objs.size ≤ b := by
      rcases List.mem_cons.mp hb with rfl | hb
      · exact Nat.le_succ _
      · obtain rfl := List.mem_singleton.mp hb
        exact Nat.le_refl _
    exact I1.fpOk le (I1.hok.fresh le)
  rcases sq with sq | sq
  · obtain ⟨its, rv, isL, _⟩ := I1.list sq
    refine call_enumerate_list isL.isList fun h' en it sz k => wpAny_pyIter_enum en ?_
    exact ⟨s1.heap.objs.size + 1, [s1.heap.objs.size + 1, s1.heap.objs.size], _, _, H1, rfl, I1.kept (t' := s1.toks) k, turn_enum a _ _, ⟨⟨.none, en⟩, it, Nat.succ_ne_self _⟩, free h' k, q _ (walk_enum.mono (fun _ k => At.list sq k) fun _ _ _ _ _ _ y => y)⟩
  · obtain ⟨its, rv, isT, _⟩ := I1.tuple sq
    refine call_enumT (show s1.heap.IsTuple a its.toArray from isT) fun h' en it sz k => wpAny_pyIter_enum en ?_
    exact ⟨s1.heap.objs.size + 1, [s1.heap.objs.size + 1, s1.heap.objs.size], _, _, H1, rfl, I1.kept (t' := s1.toks) k, turnT a _ _, ⟨⟨.none, en⟩, it, Nat.succ_ne_self _⟩, free h' k, q _ (walkT.mono (fun _ k => At.tup sq k) fun _ _ _ _ _ _ y => y)⟩
end Tk
set_option Elab.async false
set_option maxRecDepth 100000
set_option maxHeartbeats 4000000
/-! Data: its kind, what keeps it; a new instance whose __init__ may raise; the class of a caught error. -/
namespace Tk
open PySem PySem.Spec PyProof.Rows L2
theorem seqT_same {K : PySem.W.Frag} {H H' : Hp} {a : Addr} {xs : List V} (e : Same H H') (h : SqT K H a xs) : SqT K H' a xs := At.tup h fun o q => e _ _ q
section
variable {K : PySem.W.Frag} {H H' : Hp}
mutual
theorem dp_keep (k : Same H H') : ∀ (d : PyData) (v : V), Dp K H v d → Dp K H' v d
  | .none, _, h => by cases h; exact .non
  | .bool b, _, h => by cases h; exact .bl b
  | .int i, _, h => by cases h; exact .int i
  | .str x, _, h => by cases h; exact .str x
  | .list ds, _, h => by
    cases h with
    | lst e r => exact .lst (k.seq e) (dpAll_keep k ds _ r)
  | .tuple ds, _, h => by
    cases h with
    | tup e r => exact .tup (seqT_same k e) (dpAll_keep k ds _ r)
  | .dict _, _, h => by cases h
theorem dpAll_keep (k : Same H H') : ∀ (ds : List PyData) (vs : List V), DpAll K H vs ds → DpAll K H' vs ds
  | [], _, h => by cases h; exact .nil
  | d :: ds, _, h => by
    cases h with
    | cons x r => exact .cons (dp_keep k d _ x) (dpAll_keep k ds _ r)
end
theorem dpAll_len : ∀ {vs : List V} {ds : List PyData}, DpAll K H vs ds → vs.length = ds.length
  | _, _, .nil => rfl
  | _, _, .cons _ r => congrArg Nat.succ (dpAll_len r)
theorem dpAll_at : ∀ {vs : List V} {ds : List PyData} {i : Nat} {v : V}, DpAll K H vs ds → vs[i]? = some v → ∃ d, ds[i]? = some d ∧ Dp K H v d
  | _, _, _, _, .nil, e => by simp at e
  | _, _, 0, _, .cons x _, e => by simp at e; subst e; exact ⟨_, rfl, x⟩
  | _, _, i + 1, _, .cons _ r, e => by
    obtain ⟨d, h1, h2⟩ := dpAll_at (i := i) r (by simpa using e)
    exact ⟨d, by simpa using h1, h2⟩
theorem dpAll_snoc : ∀ {vs : List V} {ds : List PyData} {v : V} {d : PyData}, DpAll K H vs ds → Dp K H v d → DpAll K H (vs ++ [v]) (ds ++ [d])
  | _, _, _, _, .nil, x => .cons x .nil
  | _, _, _, _, .cons y r, x => .cons y (dpAll_snoc r x)
end
/-- a value's kind -/
def kindOf : PyData → String
  | .none => "NoneType"
  | .bool _ => "bool"
  | .int _ => "int"
  | .str _ => "str"
  | .list _ => "list"
  | .tuple _ => "tuple"
  | .dict _ => "dict"
theorem dp_kind {K : PySem.W.Frag} {H : Hp} {v : V} {d : PyData} (h : Dp K H v d) : TyX K H v (.type (kindOf d)) := by
  cases h with
  | non => exact .base .non
  | bl b => exact .base (.bl b)
  | int i => exact .base (.int i)
  | str x => exact .base (.str x)
  | lst e r =>
    rcases e with (e | ⟨o, e⟩) | ⟨o, its, n, e, c, _⟩
    · exact .base (.lst e)
    · exact .base (.frz e)
    · exact .kList e c
  | tup e r =>
    rcases e with (e | ⟨o, e⟩) | ⟨o, its, n, e, c, _⟩
    · exact .base (.tup e)
    · exact .fTuple e
    · exact .kTuple e c
def isI : PyData → Bool | .int _ => true | _ => false
def isB : PyData → Bool | .bool _ => true | _ => false
def isSeq : PyData → Bool | .list _ => true | .tuple _ => true | _ => false
theorem kit_int {K : PySem.W.Frag} (d : PyData) : PySem.W.kitOne K (.type (kindOf d)) (.type "int") = some (isI d || isB d) := kit_ty (by cases d <;> (dsimp only [kindOf, isI, isB]; decide +kernel))
theorem kit_bool {K : PySem.W.Frag} (d : PyData) : PySem.W.kitOne K (.type (kindOf d)) (.type "bool") = some (isB d) := kit_ty (by cases d <;> (dsimp only [kindOf, isI, isB]; decide +kernel))
theorem kit_seq {K : PySem.W.Frag} (d : PyData) : PySem.W.kitAny K (.type (kindOf d)) [.type "list", .type "tuple"] = some (isSeq d) := by
  cases d <;> first
    | exact kitAny_cons (b := true) (kit_ty (by dsimp only [kindOf]; decide +kernel)) (fun h => by cases h) (fun _ => rfl)
    | exact kitAny_cons (b := false) (kit_ty (by dsimp only [kindOf]; decide +kernel)) (fun _ => kitAny_cons (b := true) (kit_ty (by dsimp only [kindOf]; decide +kernel)) (fun h => by cases h) (fun _ => rfl)) (fun h => by cases h)
    | exact kitAny_cons (b := false) (kit_ty (by dsimp only [kindOf]; decide +kernel)) (fun _ => kitAny_cons (b := false) (kit_ty (by dsimp only [kindOf]; decide +kernel)) (fun _ => kitAny_nil) (fun h => by cases h)) (fun h => by cases h)
/-- C(..), __init__ may raise; what is raised is wished for at the caller's slots -/
def tMakeSX (C : Addr) (sp : Sp) (E : L2.St → XK) (t : TA) : TE := fun σ H Q => t σ H fun vs H1 => ∀ x dx, H1 x = none → H1 dx = none → dx ≠ x →
  sp (.ref x :: vs) (upd (upd H1 dx (.own x)) x (.ins C dx [])) (fun v H2 => v = .non ∧ Q (.ref x) H2) (E σ)
theorem pe_makeSX {X : Cx} {k : Nat} {f C : Addr} {fd : FuncData} {ps : List Str} {sp : Sp} {W : WX} {pn : List (Addr × Obj)} {x : Str} {p pos : Pos} {e : Expr} {es : List Expr} {t : TA} (M : Mk X.K C f) (F : FnOk X.prog X.w X.K X.mg X.base (L2.CX X.prog X.w) k f fd ps sp) (hr : Room (k + 1) X.A)
    (hg : Gl X x) (hm : X.mg x = some (.ref C)) (hb : Binds X.K fd ps []) (land : ∀ (pins : List (Addr × Obj)) (σ : L2.St) (H : Hp) (s : Shared) (x dx : Addr) (e : Value) (s' : Shared), Inv X pins σ (upd (upd H dx (.own x)) x (.ins C dx [])) s → L2.CX X.prog X.w X.stack (upd (upd H dx (.own x)) x (.ins C dx [])) s (WE W σ) e s' → X.xe e s')
    (ha : PA X (e :: es) t) (hdb : (x == ("__debug__" : Str)) = false := by decide) (he : starEach (e :: es) X.env = (false, eval e X.env) :: starEach es X.env := by rfl) (hpl : (backTo pos (starEach es X.env)).any (·.1) = false := by rfl) :
    PE X (.Call (.Name x p) (e :: es) [] pos) (tMakeSX C sp (WE W) t) := by
  constructor
  intro pins s σ H Q I h
  refine wpAny_Call_Name_kw (ld_glob I hg hm ?_ hdb)
  refine PySem.W.callWith_K (h₀ := X.base) I.ok.mod.kin M.kp ?_ he hpl
  refine thn (ha.run pos pins s σ H _ I h) ?_
  rintro us s1 ⟨vs, H1, I1, r, q⟩
  refine ⟨I1.kIn, ?_⟩
  have ask := q (s1.heap.objs.size + 1) s1.heap.objs.size (I1.hok.fresh (Nat.le_succ _)) (I1.hok.fresh (Nat.le_refl _)) (Nat.ne_of_lt (Nat.lt_succ_self _))
  have J := Inv.made (C := C) I1
  have rel : Vals (V.ref (s1.heap.objs.size + 1) :: vs) (Value.ref (s1.heap.objs.size + 1) :: us) := .cons rfl r
  have len : (Value.ref (s1.heap.objs.size + 1) :: us).length = ps.length := rel.length.symm.trans (F.len _ _ _ _ ask)
  have bnd := hb _ (Value.ref (s1.heap.objs.size + 1) :: us) J.kIn (by rw [List.append_nil]; exact len)
  rw [List.append_nil] at bnd
  refine wpAny_call (make_map (f := f) I1.kIn M.makes M.init (beq_iff_eq.mp M.fn) (codeAny_mono (F.run _ X.stack _ _ ⟨Value.ref (s1.heap.objs.size + 1) :: us, []⟩ (Value.ref (s1.heap.objs.size + 1) :: us) _ _ (WE W σ) (hr.make C us []) (J.env0.make C us []) bnd rel ask) ?_))
  rintro (er | fl) s' out
  · exact land pins σ H1 _ _ _ er s' J out
  · cases fl with
    | next => exact out.elim
    | brk => exact out.elim
    | cont => exact out.elim
    | ret u =>
      obtain ⟨v, H', J', rv, rfl, qq⟩ := J.after out
      exact ⟨rv, ⟨V.ref (s1.heap.objs.size + 1), H', J', rfl, qq⟩⟩
/-- isinstance(e, c), e the error that the suite holds, with a dict -/
def rIsS (K : PySem.W.Frag) (C a : Addr) (cls : Value) (d : Option Addr) : List V → Hp → VK → Prop := fun xs H Q => ∃ (c : V) (u : Value) (b : Bool) (dd : Addr) (fs : List (Str × V)), xs = [.ref a, c] ∧ cls = .ref C ∧ ClsV c u ∧ d = some dd ∧ H dd = some (.xd fs) ∧ PySem.W.kitOne K (.ref C) u = some b ∧ Q (.bl b) H
theorem call_isS {X : Cx} {a C : Addr} {oe : Obj} {cls : Value} {d : Option Addr} {pn : List (Addr × Obj)} (ec : ExcC X.K C) (hz : Zc cls d oe) (hf : ∃ vs, oe.data = .fields vs) : CallR (X.suite a ((a, oe) :: pn)) (.builtin "isinstance") (rIsS X.K C a cls d) := by
  intro pins s σ H xs us Q I r h
  obtain ⟨c, u, b, dd, fs, rfl, hcl, cv, rfl, ed, kit, q⟩ := h
  subst hcl
  obtain ⟨u1, u2, rfl, r1, r2⟩ := vals2 r
  cases r1
  obtain rfl := cv.eq r2
  have hob : PySem.W.clsIn X.K C ≠ none := by
    obtain ⟨cd, hc, _⟩ := PySem.W.any_some ec.hd
    rw [hc]
    simp
  obtain ⟨at_, _⟩ := I.pin (a, oe) (List.mem_append_left _ List.mem_cons_self)
  obtain ⟨vs, hd⟩ := hf
  have ox : ObjOk X.prog X.w H s.heap dd (.xd fs) := I.hok dd _ ed
  obtain ⟨mA, hns, _⟩ := ox
  obtain ⟨od, ho, _⟩ := lookIn_ns hns
  have inst : PySem.W.InstAt s.heap a oe C (some od) := ⟨at_, hz.1, by unfold PySem.W.notCls; rw [hd] <;> rfl, by rw [hz.2]; exact ho⟩
  exact PySem.W.kia_one (kitxV (od := some od) ec hob) I.kIn inst kit (fun z => nomatch z) fun tk => ⟨.bl b, H, I.tok tk, rfl, q⟩
end Tk
set_option Elab.async false
set_option maxRecDepth 100000
set_option maxHeartbeats 4000000
/-! math.lcm. -/
namespace Tk
open PySem PySem.Spec PyProof.Rows L2
def rLcm : List V → Hp → VK → Prop := fun vs H Q => ∃ a b : Int, vs = [.int a, .int b] ∧ a.natAbs < 2 ^ 64 ∧ b.natAbs < 2 ^ 64 ∧ Q (.int ((Nat.lcm a.natAbs b.natAbs : Nat) : Int)) H
theorem cr_lcm {X : Cx} : CallR X (.builtin "math.lcm") rLcm := by
  intro pins s σ H vs us Q I r h
  obtain ⟨a, b, rfl, ha, hb, q⟩ := h
  obtain ⟨t, u, rfl⟩ := Vals.int2 r
  exact PySem.W.mc_lcm ha hb fun _ => ⟨.int _, H, I.tok _, ⟨_, rfl⟩, q⟩
/-- sum of a tuple of whole numbers, in the heap -/
theorem sum_rawT {pr : Program} {wo : World} {Ar : Around} {Er : Value → Shared → Prop} {st : Shared} {tp : Addr} {us : List Value} {ks : List Int} {R : Value → Shared → Prop}
    (calm : Ar.handled = none) (tup : st.heap.IsTuple tp us.toArray) (whl : IntsAre us ks)
    (fin : ∀ g n u, (∀ c o, st.heap.get? c = some o → g.get? c = some o) → R (.int ks.sum u) { st with heap := g, toks := n }) :
    wpAny (model pr wo) Ar (call (.builtin "sum") [.ref tp]) R Er st := by
  rcases whl.allInts.items with ⟨zs, ez⟩
  have sums : numsOf (intItems zs).toList = ks := ez ▸ whl.numsOf
  rw [ez] at tup
  have old : tp < st.heap.objs.size := tup.elim fun _ z => Heap.lt_size z.1
  have still : (st.heap.push { cls := .type "tuple_iterator", data := .fields #[.ref tp, .int 0 0] }).IsTuple tp (intItems zs) :=
    tup.elim fun o z => ⟨o, Heap.get?_push_of_some _ z.1, z.2⟩
  have walk := Walks.tuple (prog := pr) (w := wo) (A := Ar.in1) calm _ tp (Nat.ne_of_lt old) (intItems zs)
  refine call_sum_walkG (wpAny_pyIter_tuple tup ⟨_, _, _, _, _, _, numAt zs, rfl, walk, ⟨⟨_, Heap.get?_push_size _ rfl, rfl, rfl⟩, still⟩, ?_, (fun _ _ => intItems_at), ?_⟩)
  · intro c hc
    rw [Heap.size_push]
    rcases List.mem_cons.mp hc with z | z
    · exact z ▸ Nat.lt_succ_self _
    · exact List.mem_singleton.mp z ▸ Nat.lt_succ_of_lt old
  · intro g n u kept
    have whole : preSum (numAt zs) (intItems zs).size = ks.sum := by
      rw [← sums, nums_intItems, preSum_eq, List.take_of_length_le]
      simp [intItems]
    rw [whole]
    refine fin g n u fun c o z => kept c o (fun m => ?_) (Heap.get?_push_of_some _ z)
    have := Heap.lt_size z
    rw [List.mem_singleton.mp m] at this
    exact Nat.lt_irrefl _ this
/-- sum(x), x a list or a tuple of whole numbers -/
def rSumE (K : PySem.W.Frag) : List V → Hp → VK → Prop := fun vs H Q => ∃ (a : Addr) (ns : List Int), vs = [V.ref a] ∧ SqE K H a (ns.map V.int) ∧ Q (.int ns.sum) H
theorem cr_sumE {X : Cx} (hc : X.calm = true) : CallR X (.builtin "sum") (rSumE X.K) := by
  intro pins s σ H vs us Q I r h
  obtain ⟨a, ns, rfl, hs, q⟩ := h
  rcases hs with hs | hs
  · exact cr_sum hc pins s σ H _ us Q I r ⟨a, ns, rfl, hs, q⟩
  · obtain ⟨its, rv, hl, _⟩ := I.tuple hs
    rw [Vals.ref1 r]
    exact sum_rawT (I.ok.hd hc) (show s.heap.IsTuple a its.toArray from hl) rv.ints fun h' tk t' hk => ⟨.int _, H, I.kept hk, ⟨_, rfl⟩, q⟩
end Tk
set_option Elab.async false
set_option linter.all false
set_option maxRecDepth 100000
set_option maxHeartbeats 4000000
/-! Values as data, a def's slots as data, and what an expression makes of them. -/
namespace Pl
open PySem PySem.Spec PyProof.Rows L2 Tk

/-- data: what stands for good (wri: a list that was there ahead of the law; ty, cls: a built-in class, an own one); an object of the class number c with the values of its attributes -/
inductive D where
  | non | bl (b : Bool) | int (i : Int) | str (x : Str)
  | lst (l : List D) | tup (l : List D) | wri (l : List D) | obj (c : Nat) (l : List D)
  | ty (n : String) | cls (c : Nat)
/-- keys of dicts: numbers and texts, or tuples of such -/
inductive KK where
  | K | T
/-- a thing that may still change: a list, an object in the making, a dict, a list of lists, a dict of lists -/
inductive MO where
  | lst (l : List D) | ins (c : Nat) (fs : List (Str × D)) | dct (k : KK) (l : List (D × D)) | lls (l : List (List D)) | dls (k : KK) (l : List (D × List D))
/-- what a slot holds: data, a thing of its own, a thing that is only read here -/
inductive SV where
  | dat (d : D) | own (m : MO) | lck (m : MO)
/-- what an expression gives: data, a new thing, the thing of slot i, the thing of slot i to be read only -/
inductive RV where
  | dat (d : D) | own (m : MO) | bor (i : Nat) | shr (i : Nat)
abbrev Sl := List (Option SV)
/-- where the classes stand; the names of their attributes -/
structure Cl where
  adr : Nat → Addr
  att : Nat → List Str
mutual
inductive Rep (K : PySem.W.Frag) (C : Cl) (F : Hp) : V → D → Prop
  | non : Rep K C F .non .non
  | bl (b : Bool) : Rep K C F (.bl b) (.bl b)
  | int (i : Int) : Rep K C F (.int i) (.int i)
  | str (x : Str) : Rep K C F (.str x) (.str x)
  | ty (n : String) : Rep K C F (.ty n) (.ty n)
  | cls (c : Nat) : Rep K C F (.ref (C.adr c)) (.cls c)
  | lst {p : Addr} {xs : List V} {ds : List D} : F p = some (.lst xs) → Reps K C F xs ds → Rep K C F (.ref p) (.lst ds)
  | wri {p : Addr} {xs : List V} {ds : List D} : SqL K F p xs → Reps K C F xs ds → Rep K C F (.ref p) (.wri ds)
  | tup {p : Addr} {xs : List V} {ds : List D} : SqT K F p xs → Reps K C F xs ds → Rep K C F (.ref p) (.tup ds)
  | obj {p dx : Addr} {fs : List (Str × V)} {ds : List D} {c : Nat} : F p = some (.ins (C.adr c) dx fs) → fs.map (·.1) = C.att c → Reps K C F (fs.map (·.2)) ds → Rep K C F (.ref p) (.obj c ds)
inductive Reps (K : PySem.W.Frag) (C : Cl) (F : Hp) : List V → List D → Prop
  | nil : Reps K C F [] []
  | cons {v : V} {vs : List V} {d : D} {ds : List D} : Rep K C F v d → Reps K C F vs ds → Reps K C F (v :: vs) (d :: ds)
end
theorem Same.tup {K : PySem.W.Frag} {H H' : Hp} {a : Addr} {xs : List V} (e : Same H H') (h : SqT K H a xs) : SqT K H' a xs := by
  rcases h with (h | ⟨o, h⟩) | h
  · exact .inl (.inl (e _ _ h))
  · exact .inl (.inr ⟨o, e _ _ h⟩)
  · exact .inr h
section
variable {K : PySem.W.Frag} {C : Cl} {F F' H H' : Hp}
mutual
theorem Rep.mono (s : Same F F') : ∀ (d : D) (v : V), Rep K C F v d → Rep K C F' v d
  | .non, _, h => by cases h; exact .non
  | .bl b, _, h => by cases h; exact .bl b
  | .int i, _, h => by cases h; exact .int i
  | .str x, _, h => by cases h; exact .str x
  | .ty n, _, h => by cases h; exact .ty n
  | .cls c, _, h => by cases h; exact .cls c
  | .lst ds, _, h => by cases h with | lst e r => exact .lst (s _ _ e) (Reps.mono s ds _ r)
  | .wri ds, _, h => by cases h with | wri e r => exact .wri (s.seq e) (Reps.mono s ds _ r)
  | .tup ds, _, h => by cases h with | tup e r => exact .tup (Same.tup s e) (Reps.mono s ds _ r)
  | .obj c ds, _, h => by cases h with | obj e n r => exact .obj (s _ _ e) n (Reps.mono s ds _ r)
theorem Reps.mono (s : Same F F') : ∀ (ds : List D) (vs : List V), Reps K C F vs ds → Reps K C F' vs ds
  | [], _, h => by cases h; exact .nil
  | d :: ds, _, h => by cases h with | cons x r => exact .cons (Rep.mono s d _ x) (Reps.mono s ds _ r)
end
theorem Rep.to {d : D} {v : V} (h : Rep K C F v d) (s : Same F F') : Rep K C F' v d := Rep.mono s d v h
theorem Reps.to {ds : List D} {vs : List V} (h : Reps K C F vs ds) (s : Same F F') : Reps K C F' vs ds := Reps.mono s ds vs h
theorem Reps.length : ∀ {vs : List V} {ds : List D}, Reps K C F vs ds → vs.length = ds.length
  | _, _, .nil => rfl
  | _, _, .cons _ r => congrArg Nat.succ r.length
theorem Reps.snoc : ∀ {vs : List V} {ds : List D} {v : V} {d : D}, Reps K C F vs ds → Rep K C F v d → Reps K C F (vs ++ [v]) (ds ++ [d])
  | _, _, _, _, .nil, x => .cons x .nil
  | _, _, _, _, .cons y r, x => .cons y (r.snoc x)
theorem Reps.append : ∀ {vs us : List V} {ds es : List D}, Reps K C F vs ds → Reps K C F us es → Reps K C F (vs ++ us) (ds ++ es)
  | _, _, _, _, .nil, x => x
  | _, _, _, _, .cons y r, x => .cons y (r.append x)
theorem Reps.get : ∀ {vs : List V} {ds : List D} {i : Nat} {v : V}, Reps K C F vs ds → vs[i]? = some v → ∃ d, ds[i]? = some d ∧ Rep K C F v d
  | _, _, _, _, .nil, e => by simp at e
  | _, _, 0, _, .cons x _, e => by simp at e; subst e; exact ⟨_, rfl, x⟩
  | _, _, i + 1, _, .cons _ r, e => by
    obtain ⟨d, h1, h2⟩ := r.get (i := i) (by simpa using e)
    exact ⟨d, by simpa using h1, h2⟩
theorem Reps.at : ∀ {vs : List V} {ds : List D} {i : Nat} {d : D}, Reps K C F vs ds → ds[i]? = some d → ∃ v, vs[i]? = some v ∧ Rep K C F v d
  | _, _, _, _, .nil, e => by simp at e
  | _, _, 0, _, .cons x _, e => by simp at e; subst e; exact ⟨_, rfl, x⟩
  | _, _, i + 1, _, .cons _ r, e => by
    obtain ⟨d, h1, h2⟩ := r.at (i := i) (by simpa using e)
    exact ⟨d, by simpa using h1, h2⟩
theorem Reps.take : ∀ {vs : List V} {ds : List D} (n : Nat), Reps K C F vs ds → Reps K C F (vs.take n) (ds.take n)
  | _, _, 0, _ => .nil
  | _, _, _ + 1, .nil => .nil
  | _, _, n + 1, .cons x r => .cons x (r.take n)
theorem Reps.drop : ∀ {vs : List V} {ds : List D} (n : Nat), Reps K C F vs ds → Reps K C F (vs.drop n) (ds.drop n)
  | _, _, 0, r => r
  | _, _, _ + 1, .nil => .nil
  | _, _, n + 1, .cons _ r => r.drop n
theorem Reps.set : ∀ {vs : List V} {ds : List D} (n : Nat) {v : V} {d : D}, Reps K C F vs ds → Rep K C F v d → Reps K C F (vs.set n v) (ds.set n d)
  | _, _, _, _, _, .nil, _ => .nil
  | _, _, 0, _, _, .cons _ r, x => .cons x r
  | _, _, n + 1, _, _, .cons y r, x => .cons y (r.set n x)
theorem Reps.reverse : ∀ {vs : List V} {ds : List D}, Reps K C F vs ds → Reps K C F vs.reverse ds.reverse
  | _, _, .nil => .nil
  | _, _, .cons x r => by
    rw [List.reverse_cons, List.reverse_cons]
    exact r.reverse.snoc x
end

/-! ### things that may change -/
def KD : Key → D
  | .inl i => .int i
  | .inr x => .str x
/-- at a is a dict of these pairs -/
def DictAt (k : KK) (H : Hp) (a : Addr) (ps : List (D × V)) : Prop := match k with
  | .K => ∃ kvs : List (Key × V), H a = some (.dK kvs) ∧ ps = kvs.map fun p => (KD p.1, p.2)
  | .T => ∃ kvs : List (List Key × V), H a = some (.dT kvs) ∧ ps = kvs.map fun p => (.tup (p.1.map KD), p.2)
/-- at each address of as a list of its own stands -/
inductive Lists (K : PySem.W.Frag) (C : Cl) (F H : Hp) : List Addr → List (List D) → Prop
  | nil : Lists K C F H [] []
  | cons {b : Addr} {as : List Addr} {vs : List V} {l : List D} {ls : List (List D)} : F b = none → H b = some (.lst vs) → Reps K C F vs l → Lists K C F H as ls → Lists K C F H (b :: as) (l :: ls)
/-- what stands at a is the thing m, its parts data (or lists of its own) -/
def RepM (K : PySem.W.Frag) (C : Cl) (F H : Hp) (a : Addr) : MO → Prop
  | .lst l => F a = none ∧ ∃ vs, H a = some (.lst vs) ∧ Reps K C F vs l
  | .ins c fs => F a = none ∧ ∃ dx vs, H a = some (.ins (C.adr c) dx vs) ∧ vs.map (·.1) = fs.map (·.1) ∧ Reps K C F (vs.map (·.2)) (fs.map (·.2))
  | .dct k l => F a = none ∧ ∃ ps, DictAt k H a ps ∧ ps.map (·.1) = l.map (·.1) ∧ Reps K C F (ps.map (·.2)) (l.map (·.2))
  | .lls l => F a = none ∧ ∃ as : List Addr, H a = some (.lst (as.map .ref)) ∧ (a :: as).Nodup ∧ Lists K C F H as l
  | .dls k l => F a = none ∧ ∃ (ps : List (D × V)) (as : List Addr), DictAt k H a ps ∧ ps.map (·.1) = l.map (·.1) ∧ ps.map (·.2) = as.map .ref ∧ (a :: as).Nodup ∧ Lists K C F H as (l.map (·.2))
/-- where the parts stand that may change -/
def Foot (H : Hp) (a : Addr) : MO → Addr → Prop
  | .lls _ => fun x => x = a ∨ ∃ as : List Addr, H a = some (.lst (as.map .ref)) ∧ x ∈ as
  | .dls k _ => fun x => x = a ∨ ∃ (ps : List (D × V)) (as : List Addr), DictAt k H a ps ∧ ps.map (·.2) = as.map .ref ∧ x ∈ as
  | _ => fun x => x = a
theorem Foot.root (H : Hp) (a : Addr) (m : MO) : Foot H a m a := by
  cases m with
  | lls _ => exact .inl rfl
  | dls _ _ => exact .inl rfl
  | _ => rfl
section
variable {K : PySem.W.Frag} {C : Cl} {F F' H H' : Hp}
theorem DictAt.same {k : KK} {a : Addr} {ps : List (D × V)} (h : DictAt k H a ps) (e : H' a = H a) : DictAt k H' a ps := by
  cases k with
  | K => obtain ⟨kvs, q, z⟩ := h; exact ⟨kvs, e.trans q, z⟩
  | T => obtain ⟨kvs, q, z⟩ := h; exact ⟨kvs, e.trans q, z⟩
theorem DictAt.there {k : KK} {a : Addr} {ps : List (D × V)} (h : DictAt k H a ps) : ∃ o, H a = some o := by
  cases k with
  | K => obtain ⟨kvs, q, z⟩ := h; exact ⟨_, q⟩
  | T => obtain ⟨kvs, q, z⟩ := h; exact ⟨_, q⟩
theorem refs_inj : ∀ {as bs : List Addr}, as.map V.ref = bs.map V.ref → as = bs
  | [], [], _ => rfl
  | [], _ :: _, h => by cases h
  | _ :: _, [], h => by cases h
  | a :: as, b :: bs, h => by
    rw [List.map_cons, List.map_cons] at h
    injection h with h1 h2
    injection h1 with h1
    rw [h1, refs_inj h2]
theorem DictAt.one {k : KK} {a : Addr} {ps qs : List (D × V)} (h : DictAt k H a ps) (h' : DictAt k H a qs) : ps = qs := by
  cases k with
  | K =>
    obtain ⟨kvs, q, z⟩ := h
    obtain ⟨kvs', q', z'⟩ := h'
    rw [q] at q'
    cases q'
    rw [z, z']
  | T =>
    obtain ⟨kvs, q, z⟩ := h
    obtain ⟨kvs', q', z'⟩ := h'
    rw [q] at q'
    cases q'
    rw [z, z']
theorem Lists.at : ∀ {as : List Addr} {ls : List (List D)} {b : Addr}, Lists K C F H as ls → b ∈ as → F b = none ∧ ∃ vs, H b = some (.lst vs)
  | _, _, _, .nil, h => by cases h
  | _, _, b, .cons n e r t, h => by
    rcases List.mem_cons.mp h with rfl | h
    · exact ⟨n, _, e⟩
    · exact t.at h
theorem Lists.length : ∀ {as : List Addr} {ls : List (List D)}, Lists K C F H as ls → as.length = ls.length
  | _, _, .nil => rfl
  | _, _, .cons _ _ _ t => congrArg Nat.succ t.length
theorem Lists.to (s : Same F F') : ∀ {as : List Addr} {ls : List (List D)}, Lists K C F H as ls → (∀ x ∈ as, H' x = H x ∧ F' x = none) → Lists K C F' H' as ls
  | _, _, .nil, _ => .nil
  | _, _, .cons n e r t, h => .cons (h _ List.mem_cons_self).2 ((h _ List.mem_cons_self).1.trans e) (r.to s) (t.to s fun x hx => h x (List.mem_cons_of_mem _ hx))
theorem Lists.get : ∀ {as : List Addr} {ls : List (List D)} {i : Nat} {l : List D}, Lists K C F H as ls → ls[i]? = some l → ∃ b vs, as[i]? = some b ∧ F b = none ∧ H b = some (.lst vs) ∧ Reps K C F vs l
  | _, _, _, _, .nil, e => by simp at e
  | _, _, 0, _, .cons n h r _, e => by simp at e; subst e; exact ⟨_, _, rfl, n, h, r⟩
  | _, _, i + 1, _, .cons _ _ _ t, e => by
    obtain ⟨b, vs, h1, h2⟩ := t.get (i := i) (by simpa using e)
    exact ⟨b, vs, by simpa using h1, h2⟩
theorem RepM.foot {a : Addr} {m : MO} (h : RepM K C F H a m) {x : Addr} (f : Foot H a m x) : F x = none ∧ ∃ o, H x = some o := by
  cases m with
  | lst l => obtain ⟨n, vs, e, _⟩ := h; cases (show x = a from f); exact ⟨n, _, e⟩
  | ins c fs => obtain ⟨n, dx, vs, e, _⟩ := h; cases (show x = a from f); exact ⟨n, _, e⟩
  | dct k l => obtain ⟨n, ps, e, _⟩ := h; cases (show x = a from f); exact ⟨n, e.there⟩
  | lls l =>
    obtain ⟨n, as, e, _, t⟩ := h
    rcases f with rfl | ⟨bs, e', hx⟩
    · exact ⟨n, _, e⟩
    · rw [e] at e'
      injection e' with e'
      injection e' with e'
      rw [← refs_inj e'] at hx
      obtain ⟨n', vs, h'⟩ := t.at hx
      exact ⟨n', _, h'⟩
  | dls k l =>
    obtain ⟨n, ps, as, e, _, er, _, t⟩ := h
    rcases f with rfl | ⟨qs, bs, e', er', hx⟩
    · exact ⟨n, e.there⟩
    · rw [e.one e', er'] at er
      rw [refs_inj er] at hx
      obtain ⟨n', vs, h'⟩ := t.at hx
      exact ⟨n', _, h'⟩
theorem RepM.there {a : Addr} {m : MO} (h : RepM K C F H a m) : ∃ o, H a = some o := (h.foot (Foot.root H a m)).2
theorem RepM.free {a : Addr} {m : MO} (h : RepM K C F H a m) : F a = none := (h.foot (Foot.root H a m)).1
theorem Foot.same {a : Addr} {m : MO} (e : H' a = H a) {x : Addr} : Foot H' a m x ↔ Foot H a m x := by
  cases m with
  | lls l => exact ⟨fun f => f.imp_right fun ⟨as, q, hx⟩ => ⟨as, e.symm.trans q, hx⟩, fun f => f.imp_right fun ⟨as, q, hx⟩ => ⟨as, e.trans q, hx⟩⟩
  | dls k l => exact ⟨fun f => f.imp_right fun ⟨ps, as, q, er, hx⟩ => ⟨ps, as, q.same e.symm, er, hx⟩, fun f => f.imp_right fun ⟨ps, as, q, er, hx⟩ => ⟨ps, as, q.same e, er, hx⟩⟩
  | lst _ => exact Iff.rfl
  | ins _ _ => exact Iff.rfl
  | dct _ _ => exact Iff.rfl
theorem RepM.to {a : Addr} {m : MO} (h : RepM K C F H a m) (s : Same F F') (e : ∀ x, Foot H a m x → H' x = H x ∧ F' x = none) : RepM K C F' H' a m := by
  have ea := e a (Foot.root H a m)
  cases m with
  | lst l => obtain ⟨n, vs, q, r⟩ := h; exact ⟨ea.2, vs, ea.1.trans q, r.to s⟩
  | ins c fs => obtain ⟨n, dx, vs, q, nm, r⟩ := h; exact ⟨ea.2, dx, vs, ea.1.trans q, nm, r.to s⟩
  | dct k l => obtain ⟨n, ps, q, nm, r⟩ := h; exact ⟨ea.2, ps, q.same ea.1, nm, r.to s⟩
  | lls l => obtain ⟨n, as, q, nd, t⟩ := h; exact ⟨ea.2, as, ea.1.trans q, nd, t.to s fun x hx => e x (.inr ⟨as, q, hx⟩)⟩
  | dls k l => obtain ⟨n, ps, as, q, nm, er, nd, t⟩ := h; exact ⟨ea.2, ps, as, q.same ea.1, nm, er, nd, t.to s fun x hx => e x (.inr ⟨ps, as, q, er, hx⟩)⟩
end

/-- a slot's thing that may change, and where its parts stand -/
def OwnA (ρ : Sl) (σ : L2.St) (H : Hp) (x : Addr) : Prop := ∃ (i : Nat) (m : MO) (a : Addr), ρ[i]? = some (some (.own m)) ∧ σ[i]? = some (some (.ref a)) ∧ Foot H a m x
/-- a thing of a slot -/
def thing : SV → Option MO
  | .dat _ => none
  | .own m => some m
  | .lck m => some m
def Held (ρ : Sl) (σ : L2.St) (H : Hp) (x : Addr) : Prop := ∃ (i : Nat) (s : SV) (m : MO) (a : Addr), ρ[i]? = some (some s) ∧ thing s = some m ∧ σ[i]? = some (some (.ref a)) ∧ Foot H a m x
theorem OwnA.held {ρ : Sl} {σ : L2.St} {H : Hp} {x : Addr} (h : OwnA ρ σ H x) : Held ρ σ H x := by
  obtain ⟨i, m, a, e1, e2, f⟩ := h
  exact ⟨i, _, m, a, e1, rfl, e2, f⟩
/-- the borrowed things: where the slots below np had them at the entry -/
structure Bw where
  B : Nat → Option Addr
  np : Nat
def noB : Bw := ⟨fun _ => none, 0⟩
structure RepSt (K : PySem.W.Frag) (C : Cl) (B : Bw) (ρ : Sl) (F : Hp) (σ : L2.St) (H : Hp) : Prop where
  len : σ.length = ρ.length
  sub : Same F H
  dat : ∀ (i : Nat) (d : D), ρ[i]? = some (some (.dat d)) → ∃ v, σ[i]? = some (some v) ∧ Rep K C F v d
  thg : ∀ (i : Nat) (s : SV) (m : MO), ρ[i]? = some (some s) → thing s = some m → ∃ a, σ[i]? = some (some (.ref a)) ∧ RepM K C F H a m
  sep : ∀ (i j : Nat) (a b x : Addr) (m m' : MO) (s : SV), i ≠ j → ρ[i]? = some (some (.own m)) → ρ[j]? = some (some s) → thing s = some m' → σ[i]? = some (some (.ref a)) → σ[j]? = some (some (.ref b)) → Foot H a m x → Foot H b m' x → False
  fix : ∀ (i : Nat) (m : MO), i < B.np → ρ[i]? = some (some (.own m)) → ∃ a, B.B i = some a ∧ σ[i]? = some (some (.ref a))
section
variable {K : PySem.W.Frag} {C : Cl} {B : Bw} {F H : Hp} {ρ : Sl} {σ : L2.St}
theorem RepSt.own (st : RepSt K C B ρ F σ H) {i : Nat} {m : MO} (h : ρ[i]? = some (some (.own m))) : ∃ a, σ[i]? = some (some (.ref a)) ∧ RepM K C F H a m := st.thg i _ m h rfl
theorem RepSt.held (st : RepSt K C B ρ F σ H) {x : Addr} (h : Held ρ σ H x) : F x = none ∧ ∃ o, H x = some o := by
  obtain ⟨i, s, m, a, e1, e2, e3, f⟩ := h
  obtain ⟨b, q, r⟩ := st.thg i s m e1 e2
  rw [e3] at q
  cases q
  exact r.foot f
end
/-- a start: what may change there, what is held, the data's heap, the heap -/
structure At0 where
  S : Addr → Prop
  L : Addr → Prop
  F : Hp
  H : Hp
  K : Nat → Addr → MO → Prop
/-- the slots that are read only, and where their things stand -/
def Lck (ρ : Sl) (σ : L2.St) (i : Nat) (a : Addr) (m : MO) : Prop := ρ[i]? = some (some (.lck m)) ∧ σ[i]? = some (some (.ref a))
def here (ρ : Sl) (F : Hp) (σ : L2.St) (H : Hp) : At0 := ⟨OwnA ρ σ H, Held ρ σ H, F, H, Lck ρ σ⟩
/-- from the start z here -/
structure Post (K : PySem.W.Frag) (C : Cl) (B : Bw) (z : At0) (ρ : Sl) (F : Hp) (σ : L2.St) (H : Hp) : Prop where
  mono : Same z.F F
  frame : ∀ b o, z.H b = some o → ¬ z.S b → H b = some o
  new : ∀ b o, F b = some o → z.F b = some o ∨ z.H b = none ∨ z.S b
  st : RepSt K C B ρ F σ H
  low : ∀ a, OwnA ρ σ H a → z.S a ∨ z.H a = none
  lowL : ∀ a, Held ρ σ H a → z.L a ∨ z.H a = none
  good : ∀ x, z.S x → z.L x
  lks : ∀ i a m, Lck ρ σ i a m → z.K i a m
section
variable {K : PySem.W.Frag} {C : Cl} {B : Bw} {z : At0} {F1 H1 F2 H2 F H : Hp} {ρ ρ1 ρ2 : Sl} {σ σ1 σ2 : L2.St}
theorem Post.start (h : RepSt K C B ρ F σ H) : Post K C B (here ρ F σ H) ρ F σ H :=
  ⟨Same.refl _, fun _ _ e _ => e, fun _ _ e => .inl e, h, fun _ y => .inl y, fun _ y => .inl y, fun _ y => OwnA.held y, fun _ _ _ y => y⟩
theorem Post.there (p : Post K C B z ρ1 F1 σ1 H1) {b : Addr} (h : H1 b = none) : z.S b ∨ z.H b = none := by
  by_cases s : z.S b
  · exact .inl s
  · cases e : z.H b with
    | none => exact .inr rfl
    | some o =>
      rw [p.frame b o e s] at h
      cases h
theorem Post.old (p : Post K C B z ρ1 F1 σ1 H1) {b : Addr} (h : H1 b = none) : z.L b ∨ z.H b = none := (p.there h).imp_left (p.good b)
theorem Post.trans (p : Post K C B z ρ1 F1 σ1 H1) {B' : Bw} (q : Post K C B' (here ρ1 F1 σ1 H1) ρ2 F2 σ2 H2) : Post K C B' z ρ2 F2 σ2 H2 where
  mono := p.mono.trans q.mono
  frame := fun b o e s => q.frame b o (p.frame b o e s) fun y => (p.low b y).elim s fun n => by rw [n] at e; cases e
  new := fun b o e => by
    rcases q.new b o e with h | h | h
    · exact p.new b o h
    · exact (p.there h).symm.imp_right id |> .inr
    · exact .inr (p.low b h).symm
  st := q.st
  low := fun a y => by
    rcases q.low a y with h | h
    · exact p.low a h
    · exact p.there h
  lowL := fun a y => by
    rcases q.lowL a y with h | h
    · exact p.lowL a h
    · exact p.old h
  good := p.good
  lks := fun i a m y => p.lks i a m (q.lks i a m y)
/-- what is not of the own things stays, free of data -/
theorem Post.stays (q : Post K C B (here ρ1 F1 σ1 H1) ρ2 F2 σ2 H2) {x : Addr} (n : F1 x = none) {o : HO} (h : H1 x = some o) (no : ¬ OwnA ρ1 σ1 H1 x) : H2 x = H1 x ∧ F2 x = none := by
  refine ⟨(q.frame x o h no).trans h.symm, ?_⟩
  cases y : F2 x with
  | none => rfl
  | some u =>
    rcases q.new x u y with h' | h' | h'
    · exact n.symm.trans h' |> fun w => by cases w
    · exact h.symm.trans h' |> fun w => by cases w
    · exact (no h').elim

/-- v is what r tells; a new thing is new since the start -/
def RepRV (K : PySem.W.Frag) (C : Cl) (z : At0) (ρ : Sl) (F : Hp) (σ : L2.St) (H : Hp) (v : V) : RV → Prop
  | .dat d => Rep K C F v d
  | .own m => ∃ a, v = .ref a ∧ RepM K C F H a m ∧ ∀ x, Foot H a m x → ¬ Held ρ σ H x ∧ (z.S x ∨ z.H x = none)
  | .bor i => σ[i]? = some (some v)
  | .shr i => σ[i]? = some (some v)
theorem Held.of {s : SV} {m : MO} {i : Nat} {a x : Addr} (e : ρ[i]? = some (some s)) (t : thing s = some m) (q : σ[i]? = some (some (.ref a))) (f : Foot H a m x) : Held ρ σ H x := ⟨i, s, m, a, e, t, q, f⟩
theorem RepRV.carry {v : V} {r : RV} (h : RepRV K C z ρ1 F1 σ H1 v r) (q : Post K C B (here ρ1 F1 σ H1) ρ2 F2 σ H2) : RepRV K C z ρ2 F2 σ H2 v r := by
  cases r with
  | dat d => exact Rep.to h q.mono
  | bor i => exact h
  | shr i => exact h
  | own m =>
    obtain ⟨a, e, rm, no⟩ := h
    have st : ∀ x, Foot H1 a m x → H2 x = H1 x ∧ F2 x = none := fun x f => by
      obtain ⟨n, o, ho⟩ := rm.foot f
      exact q.stays n ho fun y => (no x f).1 y.held
    have ea := (st a (Foot.root _ _ _)).1
    refine ⟨a, e, rm.to q.mono st, fun x f => ?_⟩
    have f1 := (Foot.same ea).mp f
    refine ⟨fun y => ?_, (no x f1).2⟩
    rcases q.lowL x y with h | h
    · exact (no x f1).1 h
    · obtain ⟨_, o, ho⟩ := rm.foot f1
      exact h.symm.trans ho |> fun w => by cases w
/-- as seen from an earlier start -/
theorem RepRV.since {v : V} {r : RV} (p : Post K C B z ρ1 F1 σ1 H1) (h : RepRV K C (here ρ1 F1 σ1 H1) ρ2 F2 σ2 H2 v r) : RepRV K C z ρ2 F2 σ2 H2 v r := by
  cases r with
  | dat d => exact h
  | bor i => exact h
  | shr i => exact h
  | own m =>
    obtain ⟨a, e, rm, no⟩ := h
    refine ⟨a, e, rm, fun x f => ⟨(no x f).1, ?_⟩⟩
    rcases (no x f).2 with s | s
    · exact p.low x s
    · exact p.there s
end

/-! ### what an expression makes -/
inductive Res (α : Type) where
  | ok (a : α) (ρ : Sl)
  | exc (c : Nat) (fs : List (Str × D)) (ρ : Sl)
abbrev Ef (α : Type) := Sl → Option (Res α)
abbrev DE := Ef RV
def bindE {α β : Type} (f : Ef α) (k : α → Ef β) : Ef β := fun ρ => match f ρ with
  | some (.ok a ρ') => k a ρ'
  | some (.exc c fs ρ') => some (.exc c fs ρ')
  | none => none
def retE {α : Type} (a : α) : Ef α := fun ρ => some (.ok a ρ)
def failE {α : Type} : Ef α := fun _ => none
/-- an error's own attributes -/
def ExcAt (K : PySem.W.Frag) (C : Cl) (F H : Hp) : Option Addr → List (Str × D) → Prop
  | none, fs => fs = []
  | some d, fs => F d = none ∧ ∃ vs, H d = some (.xd vs) ∧ vs.map (·.1) = fs.map (·.1) ∧ Reps K C F (vs.map (·.2)) (fs.map (·.2))
/-- kinds of what is made: α by the reading, β in the machine -/
structure Kd (K : PySem.W.Frag) (C : Cl) (α β : Type) where
  rep : At0 → Sl → Hp → L2.St → Hp → β → α → Prop
  since : ∀ {B : Bw} {z : At0} {F1 H1 F2 H2 : Hp} {ρ1 ρ2 : Sl} {σ1 σ2 : L2.St} {v : β} {a : α}, Post K C B z ρ1 F1 σ1 H1 → rep (here ρ1 F1 σ1 H1) ρ2 F2 σ2 H2 v a → rep z ρ2 F2 σ2 H2 v a
def kR (K : PySem.W.Frag) (C : Cl) : Kd K C RV V := ⟨RepRV K C, fun p h => RepRV.since p h⟩
def kB (K : PySem.W.Frag) (C : Cl) : Kd K C Bool Bool := ⟨fun _ _ _ _ _ v a => v = a, fun _ h => h⟩
inductive RepRVs (K : PySem.W.Frag) (C : Cl) (z : At0) (ρ : Sl) (F : Hp) (σ : L2.St) (H : Hp) : List V → List RV → Prop
  | nil : RepRVs K C z ρ F σ H [] []
  | cons {v : V} {vs : List V} {r : RV} {rs : List RV} : RepRV K C z ρ F σ H v r → RepRVs K C z ρ F σ H vs rs →
    (∀ m, r = .own m → ∀ (k : Nat) (m' : MO) (a b x : Addr), rs[k]? = some (.own m') → vs[k]? = some (.ref b) → v = .ref a → Foot H a m x → ¬ Foot H b m' x) → RepRVs K C z ρ F σ H (v :: vs) (r :: rs)
theorem RepRVs.since {K : PySem.W.Frag} {C : Cl} {B : Bw} {z : At0} {F1 H1 F2 H2 : Hp} {ρ1 ρ2 : Sl} {σ1 σ2 : L2.St} (p : Post K C B z ρ1 F1 σ1 H1) : ∀ {vs : List V} {rs : List RV}, RepRVs K C (here ρ1 F1 σ1 H1) ρ2 F2 σ2 H2 vs rs → RepRVs K C z ρ2 F2 σ2 H2 vs rs
  | _, _, .nil => .nil
  | _, _, .cons x r n => .cons (RepRV.since p x) (RepRVs.since p r) n
theorem RepRVs.at {K : PySem.W.Frag} {C : Cl} {z : At0} {F H : Hp} {ρ : Sl} {σ : L2.St} : ∀ {vs : List V} {rs : List RV} {k : Nat} {r : RV}, RepRVs K C z ρ F σ H vs rs → rs[k]? = some r → ∃ v, vs[k]? = some v ∧ RepRV K C z ρ F σ H v r
  | _, _, _, _, .nil, e => by simp at e
  | _, _, 0, _, .cons x _ _, e => by simp at e; subst e; exact ⟨_, rfl, x⟩
  | _, _, k + 1, _, .cons _ t _, e => by
    obtain ⟨v, h1, h2⟩ := t.at (k := k) (by simpa using e)
    exact ⟨v, by simpa using h1, h2⟩
theorem RepRVs.length {K : PySem.W.Frag} {C : Cl} {z : At0} {F H : Hp} {ρ : Sl} {σ : L2.St} : ∀ {vs : List V} {rs : List RV}, RepRVs K C z ρ F σ H vs rs → vs.length = rs.length
  | _, _, .nil => rfl
  | _, _, .cons _ t _ => congrArg Nat.succ t.length
def kL (K : PySem.W.Frag) (C : Cl) : Kd K C (List RV) (List V) := ⟨RepRVs K C, fun p h => RepRVs.since p h⟩
/-- what is still to be shown, o being what is made -/
def GoalA {K : PySem.W.Frag} {C : Cl} {α β : Type} (k : Kd K C α β) (B : Bw) (W : WX) (z : At0) (σ : L2.St) (Q : β → Hp → Prop) : Option (Res α) → Prop
  | some (.ok r ρ) => ∀ v F H, Post K C B z ρ F σ H → k.rep z ρ F σ H v r → Q v H
  | some (.exc c fs ρ) => ∀ dd F H, Post K C B z ρ F σ H → ExcAt K C F H dd fs → W (.ref (C.adr c)) dd σ H
  | none => False
abbrev Goal (K : PySem.W.Frag) (C : Cl) (B : Bw) (W : WX) (z : At0) (σ : L2.St) (Q : VK) : Option (Res RV) → Prop := GoalA (kR K C) B W z σ Q
/-- the reading of what makes f -/
def tG {K : PySem.W.Frag} {C : Cl} {α β : Type} (k : Kd K C α β) (B : Bw) (W : WX) (f : Ef α) (σ : L2.St) (H : Hp) (Q : β → Hp → Prop) : Prop := ∃ ρ F, RepSt K C B ρ F σ H ∧ GoalA k B W (here ρ F σ H) σ Q (f ρ)
abbrev tD (K : PySem.W.Frag) (C : Cl) (B : Bw) (W : WX) (f : DE) : TE := tG (kR K C) B W f
abbrev tT (K : PySem.W.Frag) (C : Cl) (B : Bw) (W : WX) (f : Ef Bool) : TT := tG (kB K C) B W f
abbrev tL (K : PySem.W.Frag) (C : Cl) (B : Bw) (W : WX) (f : Ef (List RV)) : TA := tG (kL K C) B W f
abbrev PD (X : Cx) (C : Cl) (B : Bw) (W : WX) (e : Expr) (f : DE) : Prop := PE X e (tD X.K C B W f)
abbrev PDT (X : Cx) (C : Cl) (B : Bw) (W : WX) (e : Expr) (f : Ef Bool) : Prop := PT X e (tT X.K C B W f)
abbrev PDW (X : Cx) (C : Cl) (B : Bw) (W : WX) (e : Expr) (f : Ef Bool) : Prop := PW X e (tT X.K C B W f)
abbrev PDA (X : Cx) (C : Cl) (B : Bw) (W : WX) (es : List Expr) (f : Ef (List RV)) : Prop := PA X es (tL X.K C B W f)
theorem PE.conv {X : Cx} {e : Expr} {t t' : TE} (h : PE X e t) (c : ∀ σ H Q, t' σ H Q → t σ H Q) : PE X e t' := ⟨fun pins s σ H Q I q => h.run pins s σ H Q I (c σ H Q q)⟩
theorem PT.conv {X : Cx} {e : Expr} {t t' : TT} (h : PT X e t) (c : ∀ σ H Q, t' σ H Q → t σ H Q) : PT X e t' := ⟨fun pins s σ H Q I q => h.run pins s σ H Q I (c σ H Q q)⟩
theorem PW.conv {X : Cx} {e : Expr} {t t' : TT} (h : PW X e t) (c : ∀ σ H Q, t' σ H Q → t σ H Q) : PW X e t' := ⟨fun w pins s σ H Q I q => h.run w pins s σ H Q I (c σ H Q q)⟩
theorem PA.conv {X : Cx} {es : List Expr} {t t' : TA} (h : PA X es t) (c : ∀ σ H Q, t' σ H Q → t σ H Q) : PA X es t' := ⟨fun pos pins s σ H Q I q => h.run pos pins s σ H Q I (c σ H Q q)⟩
/-- what is never reached needs no rule -/
theorem pd_fail {X : Cx} {C : Cl} {B : Bw} {W : WX} {e : Expr} : PD X C B W e failE := ⟨fun _ _ _ _ _ _ ⟨_, _, _, q⟩ => q.elim⟩
section
variable {K : PySem.W.Frag} {C : Cl} {B : Bw} {W : WX} {z : At0} {F H : Hp} {ρ : Sl} {σ : L2.St} {Q : VK}
/-- one step, then the rest -/
theorem tG_bindR {α β γ δ : Type} {k1 : Kd K C α β} {k2 : Kd K C γ δ} {f : Ef α} {k : α → Ef γ} {Qa : β → Hp → Prop} {Q : δ → Hp → Prop} (p : Post K C B z ρ F σ H) (g : GoalA k2 B W z σ Q (bindE f k ρ))
    (h : ∀ r1 ρ1 v F1 H1, GoalA k2 B W z σ Q (k r1 ρ1) → Post K C B z ρ1 F1 σ H1 → Post K C B (here ρ F σ H) ρ1 F1 σ H1 → k1.rep z ρ1 F1 σ H1 v r1 → k1.rep (here ρ F σ H) ρ1 F1 σ H1 v r1 → Qa v H1) : tG k1 B W f σ H Qa := by
  refine ⟨ρ, F, p.st, ?_⟩
  unfold bindE at g
  cases e : f ρ with
  | none => rw [e] at g; exact g
  | some r =>
    rw [e] at g
    cases r with
    | ok r1 ρ1 => exact fun v F1 H1 q rv => h r1 ρ1 v F1 H1 g (p.trans q) q (k1.since p rv) rv
    | exc c fs ρ1 => exact fun dd F1 H1 q ex => g dd F1 H1 (p.trans q) ex
theorem tG_bind {α β γ δ : Type} {k1 : Kd K C α β} {k2 : Kd K C γ δ} {f : Ef α} {k : α → Ef γ} {Qa : β → Hp → Prop} {Q : δ → Hp → Prop} (p : Post K C B z ρ F σ H) (g : GoalA k2 B W z σ Q (bindE f k ρ))
    (h : ∀ r1 ρ1 v F1 H1, GoalA k2 B W z σ Q (k r1 ρ1) → Post K C B z ρ1 F1 σ H1 → Post K C B (here ρ F σ H) ρ1 F1 σ H1 → k1.rep z ρ1 F1 σ H1 v r1 → Qa v H1) : tG k1 B W f σ H Qa :=
  tG_bindR p g fun r1 ρ1 v F1 H1 g1 p1 s1 q1 _ => h r1 ρ1 v F1 H1 g1 p1 s1 q1
/-- the last step -/
theorem tG_last {α β : Type} {k1 : Kd K C α β} {f : Ef α} {Q : β → Hp → Prop} (p : Post K C B z ρ F σ H) (g : GoalA k1 B W z σ Q (f ρ)) : tG k1 B W f σ H Q := by
  refine ⟨ρ, F, p.st, ?_⟩
  cases e : f ρ with
  | none => rw [e] at g; exact g
  | some r =>
    rw [e] at g
    cases r with
    | ok r1 ρ1 => exact fun v F1 H1 q rv => g v F1 H1 (p.trans q) (k1.since p rv)
    | exc c fs ρ1 => exact fun dd F1 H1 q ex => g dd F1 H1 (p.trans q) ex
/-- data that is there -/
theorem Goal.isHere {d : D} {v : V} (g : Goal K C B W z σ Q (some (.ok (.dat d) ρ))) (p : Post K C B z ρ F σ H) (r : Rep K C F v d) : Q v H := g v F H p r
/-- the heap is changed where no slot's thing stands -/
theorem Post.aside (p : Post K C B z ρ F σ H) {a : Addr} {o : HO} (n0 : z.S a ∨ z.H a = none) (nF : F a = none) (no : ¬ Held ρ σ H a) : Post K C B z ρ F σ (upd H a o) := by
  have keep : ∀ {s : SV} {m : MO} {i : Nat} {b : Addr}, ρ[i]? = some (some s) → thing s = some m → σ[i]? = some (some (.ref b)) → b ≠ a := fun e t q w => no (Held.of e t q (w ▸ Foot.root _ _ _))
  have held : ∀ {x : Addr}, Held ρ σ (upd H a o) x → Held ρ σ H x := fun ⟨i, s, m, b, e, t, q, f⟩ => ⟨i, s, m, b, e, t, q, (Foot.same (upd_ne (keep e t q))).mp f⟩
  have own : ∀ {x : Addr}, OwnA ρ σ (upd H a o) x → OwnA ρ σ H x := fun ⟨i, m, b, e, q, f⟩ => ⟨i, m, b, e, q, (Foot.same (upd_ne (keep e rfl q))).mp f⟩
  refine ⟨p.mono, fun b u e s => ?_, p.new, ⟨p.st.len, fun b u e => ?_, p.st.dat, fun i s m e t => ?_, fun i j b c x m m' s h e1 e2 t q1 q2 f1 f2 => ?_, p.st.fix⟩, fun b h => p.low b (own h), fun b h => p.lowL b (held h), p.good, p.lks⟩
  · have ne : b ≠ a := by
      rintro rfl
      rcases n0 with y | y
      · exact s y
      · rw [e] at y; cases y
    rw [upd_ne ne]
    exact p.frame b u e s
  · rw [upd_ne (ne_of_none e nF)]
    exact p.st.sub b u e
  · obtain ⟨b, q, r⟩ := p.st.thg i s m e t
    refine ⟨b, q, r.to (Same.refl _) fun x f => ⟨upd_ne ?_, (r.foot f).1⟩⟩
    rintro rfl
    exact no (Held.of e t q f)
  · exact p.st.sep i j b c x m m' s h e1 e2 t q1 q2 ((Foot.same (upd_ne (keep e1 rfl q1))).mp f1) ((Foot.same (upd_ne (keep e2 t q2))).mp f2)
theorem Post.notHeld (p : Post K C B z ρ F σ H) {a : Addr} (n : H a = none) : ¬ Held ρ σ H a := fun h => by
  obtain ⟨_, o, ho⟩ := p.st.held h
  rw [n] at ho
  cases ho
/-- a new object that may change -/
theorem Post.newO (p : Post K C B z ρ F σ H) {a : Addr} (n : H a = none) (o : HO) : Post K C B z ρ F σ (upd H a o) := p.aside (p.there n) (p.st.sub.free n) (p.notHeld n)
/-- things that no slot holds become data: F grows to F' -/
theorem Post.fixed (p : Post K C B z ρ F σ H) {F' : Hp} (s : Same F F') (h : ∀ x u, F' x = some u → F x = some u ∨ (H x = some u ∧ ¬ Held ρ σ H x ∧ (z.S x ∨ z.H x = none))) : Post K C B z ρ F' σ H := by
  refine ⟨p.mono.trans s, p.frame, fun b u e => ?_, ⟨p.st.len, fun b u e => ?_, fun i d e => ?_, fun i sv m e t => ?_, p.st.sep, p.st.fix⟩, p.low, p.lowL, p.good, p.lks⟩
  · rcases h b u e with y | ⟨_, _, y⟩
    · exact p.new b u y
    · exact .inr y.symm
  · rcases h b u e with y | ⟨y, _⟩
    · exact p.st.sub b u y
    · exact y
  · obtain ⟨v, q, r⟩ := p.st.dat i d e
    exact ⟨v, q, r.to s⟩
  · obtain ⟨a, q, r⟩ := p.st.thg i sv m e t
    refine ⟨a, q, r.to s fun x f => ⟨rfl, ?_⟩⟩
    cases y : F' x with
    | none => rfl
    | some u =>
      rcases h x u y with w | ⟨_, w, _⟩
      · rw [(r.foot f).1] at w; cases w
      · exact (w (Held.of e t q f)).elim
/-- a new object that never changes -/
theorem Post.newF (p : Post K C B z ρ F σ H) {a : Addr} (n : H a = none) (o : HO) : Post K C B z ρ (upd F a o) σ (upd H a o) := by
  have q := p.newO n o
  refine q.fixed (fun b u e => by rw [upd_ne (ne_of_none e (p.st.sub.free n))]; exact e) fun x u e => ?_
  by_cases hx : x = a
  · subst hx
    rw [upd_same] at e
    refine .inr ⟨by rw [upd_same]; exact e, fun h => ?_, p.there n⟩
    obtain ⟨i, s, m, b, e1, t, q2, f⟩ := h
    have ne : b ≠ x := fun w => p.notHeld n (Held.of e1 t q2 (w ▸ Foot.root _ _ _))
    exact p.notHeld n ⟨i, s, m, b, e1, t, q2, (Foot.same (upd_ne ne)).mp f⟩
  · rw [upd_ne hx] at e
    exact .inl e
/-- a new list -/
theorem Goal.newL {l : List D} {vs : List V} (g : Goal K C B W z σ Q (some (.ok (.own (.lst l)) ρ))) (p : Post K C B z ρ F σ H) {a : Addr} (n : H a = none) (r : Reps K C F vs l) : Q (.ref a) (upd H a (.lst vs)) := by
  refine g _ F _ (p.newO n _) ⟨a, rfl, ⟨p.st.sub.free n, vs, upd_same, r⟩, ?_⟩
  intro x f
  obtain rfl : x = a := f
  refine ⟨fun h => ?_, p.there n⟩
  obtain ⟨i, s, m, b, e1, t, q2, f⟩ := h
  have ne : b ≠ x := fun w => p.notHeld n (Held.of e1 t q2 (w ▸ Foot.root _ _ _))
  exact p.notHeld n ⟨i, s, m, b, e1, t, q2, (Foot.same (upd_ne ne)).mp f⟩
/-- a new tuple -/
theorem Goal.newT {l : List D} {vs : List V} (g : Goal K C B W z σ Q (some (.ok (.dat (.tup l)) ρ))) (p : Post K C B z ρ F σ H) {a : Addr} (n : H a = none) (r : Reps K C F vs l) : Q (.ref a) (upd H a (.tup vs)) :=
  g _ _ _ (p.newF n _) (.tup (SqT.of upd_same) (r.to fun b u e => by rw [upd_ne (ne_of_none e (p.st.sub.free n))]; exact e))

/-! ### slots -/
/-- slots agree with older ones, some forgotten -/
theorem Post.less (p : Post K C B z ρ F σ H) {ρ' : Sl} (l : ρ'.length = ρ.length) (h : ∀ (i : Nat) (x : SV), ρ'[i]? = some (some x) → ρ[i]? = some (some x)) : Post K C B z ρ' F σ H :=
  ⟨p.mono, p.frame, p.new, ⟨p.st.len.trans l.symm, p.st.sub, fun i d e => p.st.dat i d (h i _ e), fun i s m e t => p.st.thg i s m (h i s e) t, fun i j a b x m m' s n e1 e2 t => p.st.sep i j a b x m m' s n (h i _ e1) (h j s e2) t, fun i m hi e => p.st.fix i m hi (h i _ e)⟩,
    fun a ⟨i, m, b, e, q, f⟩ => p.low a ⟨i, m, b, h i _ e, q, f⟩, fun a ⟨i, s, m, b, e, t, q, f⟩ => p.lowL a ⟨i, s, m, b, h i s e, t, q, f⟩, p.good, fun i a m ⟨e, q⟩ => p.lks i a m ⟨h i _ e, q⟩⟩
theorem set_cases {ρ : Sl} {i j : Nat} {y : Option SV} {x : SV} (h : (ρ.set i y)[j]? = some (some x)) : (j = i ∧ y = some x ∧ i < ρ.length) ∨ (j ≠ i ∧ ρ[j]? = some (some x)) := by
  by_cases hj : j = i
  · subst hj
    by_cases hl : j < ρ.length
    · rw [List.getElem?_set_self hl] at h
      cases h
      exact .inl ⟨rfl, rfl, hl⟩
    · rw [List.getElem?_eq_none (by rw [List.length_set]; omega)] at h; cases h
  · rw [List.getElem?_set_ne (Ne.symm hj)] at h
    exact .inr ⟨hj, h⟩
/-- a slot is forgotten -/
theorem Post.drop (p : Post K C B z ρ F σ H) (i : Nat) : Post K C B z (ρ.set i none) F σ H := p.less (by rw [List.length_set]) fun j x h => by
  rcases set_cases h with ⟨_, y, _⟩ | ⟨_, y⟩
  · cases y
  · exact y
/-- a slot's value is told as data -/
theorem Post.putD (p : Post K C B z ρ F σ H) {i : Nat} {v : V} {d : D} (s : σ[i]? = some (some v)) (r : Rep K C F v d) : Post K C B z (ρ.set i (some (.dat d))) F σ H := by
  have cs : ∀ {j : Nat} {x : SV} {m : MO}, (ρ.set i (some (.dat d)))[j]? = some (some x) → thing x = some m → ρ[j]? = some (some x) := by
    intro j x m h t
    rcases set_cases h with ⟨_, y, _⟩ | ⟨_, y⟩
    · cases y; cases t
    · exact y
  refine ⟨p.mono, p.frame, p.new, ⟨by rw [List.length_set]; exact p.st.len, p.st.sub, fun j d' h => ?_, fun j s m e t => p.st.thg j s m (cs e t) t, fun j k a b x m m' s n e1 e2 t => p.st.sep j k a b x m m' s n (cs e1 rfl) (cs e2 t) t, fun j m hi e => p.st.fix j m hi (cs e rfl)⟩,
    fun a ⟨j, m, b, e, q, f⟩ => p.low a ⟨j, m, b, cs e rfl, q, f⟩, fun a ⟨j, s, m, b, e, t, q, f⟩ => p.lowL a ⟨j, s, m, b, cs e t, t, q, f⟩, p.good, fun j a m ⟨e, q⟩ => p.lks j a m ⟨cs e rfl, q⟩⟩
  rcases set_cases h with ⟨rfl, y, _⟩ | ⟨_, y⟩
  · cases y
    exact ⟨v, s, r⟩
  · exact p.st.dat j d' y
theorem sig_ne {σ : L2.St} {i j : Nat} {v : Option V} (h : j ≠ i) : (σ.set i v)[j]? = σ[j]? := List.getElem?_set_ne (Ne.symm h)
/-- the machine's slot changes where nothing is told -/
theorem Post.sig (p : Post K C B z ρ F σ H) {i : Nat} {v : Option V} (h : ∀ x, ρ[i]? ≠ some (some x)) : Post K C B z ρ F (σ.set i v) H := by
  have ne : ∀ {j : Nat} {x : SV}, ρ[j]? = some (some x) → (σ.set i v)[j]? = σ[j]? := fun e => sig_ne fun w => h _ (w ▸ e)
  refine ⟨p.mono, p.frame, p.new, ⟨by rw [List.length_set]; exact p.st.len, p.st.sub, fun j d e => by rw [ne e]; exact p.st.dat j d e, fun j s m e t => by rw [ne e]; exact p.st.thg j s m e t,
    fun j k a b x m m' s n e1 e2 t q1 q2 => p.st.sep j k a b x m m' s n e1 e2 t (by rw [← ne e1]; exact q1) (by rw [← ne e2]; exact q2), fun j m hi e => by rw [ne e]; exact p.st.fix j m hi e⟩,
    fun a ⟨j, m, b, e, q, f⟩ => p.low a ⟨j, m, b, e, by rw [← ne e]; exact q, f⟩, fun a ⟨j, s, m, b, e, t, q, f⟩ => p.lowL a ⟨j, s, m, b, e, t, by rw [← ne e]; exact q, f⟩, p.good, fun j a m ⟨e, q⟩ => p.lks j a m ⟨e, by rw [← ne e]; exact q⟩⟩
theorem set_none {ρ : Sl} {i : Nat} (x : SV) : (ρ.set i none)[i]? ≠ some (some x) := fun h => by
  rcases set_cases h with ⟨_, y, _⟩ | ⟨y, _⟩
  · cases y
  · exact y rfl
theorem set_set_none {ρ : Sl} {i : Nat} {y : Option SV} : (ρ.set i none).set i y = ρ.set i y := by rw [List.set_set]
/-- a slot gets data -/
theorem Post.setD (p : Post K C B z ρ F σ H) {i : Nat} {v : V} {d : D} (r : Rep K C F v d) : Post K C B z (ρ.set i (some (.dat d))) F (σ.set i (some v)) H := by
  by_cases hi : i < ρ.length
  · have p1 := (p.drop i).sig (v := some v) fun x => set_none x
    have := p1.putD (d := d) (v := v) (i := i) (by rw [List.getElem?_set_self (by rw [p.st.len]; exact hi)]) r
    rw [set_set_none] at this
    exact this
  · have e1 : ρ.set i (some (.dat d)) = ρ := List.set_eq_of_length_le (by omega)
    have e2 : σ.set i (some v) = σ := List.set_eq_of_length_le (by rw [p.st.len]; omega)
    rw [e1, e2]
    exact p
/-- a slot's value is told as a thing of its own -/
theorem Post.putN (p : Post K C B z ρ F σ H) {i : Nat} {a : Addr} {m : MO} (free : ∀ x, ρ[i]? ≠ some (some x)) (s : σ[i]? = some (some (.ref a))) (rm : RepM K C F H a m) (no : ∀ x, Foot H a m x → ¬ Held ρ σ H x ∧ (z.S x ∨ z.H x = none)) (fx : i < B.np → ∃ b, B.B i = some b ∧ σ[i]? = some (some (.ref b))) :
    Post K C B z (ρ.set i (some (.own m))) F σ H := by
  have cs : ∀ {j : Nat} {x : SV}, (ρ.set i (some (.own m)))[j]? = some (some x) → (j = i ∧ x = .own m) ∨ (j ≠ i ∧ ρ[j]? = some (some x)) := fun h => by
    rcases set_cases h with ⟨h1, y, _⟩ | h
    · cases y; exact .inl ⟨h1, rfl⟩
    · exact .inr h
  refine ⟨p.mono, p.frame, p.new, ⟨by rw [List.length_set]; exact p.st.len, p.st.sub, fun j d h => ?_, fun j x m' e t => ?_, fun j k a1 b1 x m1 m2 s' n e1 e2 t q1 q2 f1 f2 => ?_, fun j m' hi e => ?_⟩, ?_, ?_, p.good, ?_⟩
  · rcases cs h with ⟨_, y⟩ | ⟨_, y⟩
    · cases y
    · exact p.st.dat j d y
  · rcases cs e with ⟨rfl, rfl⟩ | ⟨_, y⟩
    · cases t
      exact ⟨a, s, rm⟩
    · exact p.st.thg j x m' y t
  · rcases cs e1 with ⟨rfl, y⟩ | ⟨h1, y⟩
    · cases y
      rw [s] at q1
      cases q1
      rcases cs e2 with ⟨rfl, _⟩ | ⟨_, y2⟩
      · exact n rfl
      · exact (no x f1).1 (Held.of y2 t q2 f2)
    · rcases cs e2 with ⟨rfl, rfl⟩ | ⟨_, y2⟩
      · cases t
        rw [s] at q2
        cases q2
        exact (no x f2).1 (Held.of y rfl q1 f1)
      · exact p.st.sep j k a1 b1 x m1 m2 s' n y y2 t q1 q2 f1 f2
  · rcases cs e with ⟨rfl, _⟩ | ⟨_, y⟩
    · exact fx hi
    · exact p.st.fix j m' hi y
  · rintro x ⟨j, m', b, e, q, f⟩
    rcases cs e with ⟨rfl, y⟩ | ⟨_, y⟩
    · cases y
      rw [s] at q
      cases q
      exact (no x f).2
    · exact p.low x ⟨j, m', b, y, q, f⟩
  · rintro x ⟨j, s', m', b, e, t, q, f⟩
    rcases cs e with ⟨rfl, rfl⟩ | ⟨_, y⟩
    · cases t
      rw [s] at q
      cases q
      exact (no x f).2.imp_left (p.good x)
    · exact p.lowL x ⟨j, s', m', b, y, t, q, f⟩
  · rintro j b m' ⟨e, q⟩
    rcases cs e with ⟨_, y⟩ | ⟨_, y⟩
    · cases y
    · exact p.lks j b m' ⟨y, q⟩
theorem Held.less {ρ' : Sl} (h : ∀ (i : Nat) (x : SV), ρ'[i]? = some (some x) → ρ[i]? = some (some x)) {x : Addr} : Held ρ' σ H x → Held ρ σ H x := fun ⟨i, s, m, a, e, t, q, f⟩ => ⟨i, s, m, a, h i s e, t, q, f⟩
theorem Held.drop {i : Nat} {x : Addr} : Held (ρ.set i none) σ H x → Held ρ σ H x := Held.less fun j y h => by
  rcases set_cases h with ⟨_, w, _⟩ | ⟨_, w⟩
  · cases w
  · exact w
theorem Held.sig {i : Nat} {v : Option V} {x : Addr} (h : ∀ x, ρ[i]? ≠ some (some x)) : Held ρ (σ.set i v) H x → Held ρ σ H x := fun ⟨j, s, m, a, e, t, q, f⟩ => ⟨j, s, m, a, e, t, by rw [sig_ne fun w => h _ (w ▸ e)] at q; exact q, f⟩
/-- a slot gets a new thing -/
theorem Post.setN (p : Post K C B z ρ F σ H) {i : Nat} {v : V} {m : MO} (hi : B.np ≤ i) (h : RepRV K C z ρ F σ H v (.own m)) : Post K C B z (ρ.set i (some (.own m))) F (σ.set i (some v)) H := by
  by_cases hl : i < ρ.length
  · obtain ⟨a, rfl, rm, no⟩ := h
    have p1 := (p.drop i).sig (v := some (.ref a)) fun x => set_none x
    have := p1.putN (m := m) (a := a) (i := i) (fun x => set_none x) (by rw [List.getElem?_set_self (by rw [p.st.len]; exact hl)]) rm (fun x f => ⟨fun y => (no x f).1 (Held.drop (Held.sig (fun x => set_none x) y)), (no x f).2⟩) fun w => by omega
    rw [set_set_none] at this
    exact this
  · have e1 : ρ.set i (some (.own m)) = ρ := List.set_eq_of_length_le (by omega)
    have e2 : σ.set i (some v) = σ := List.set_eq_of_length_le (by rw [p.st.len]; omega)
    rw [e1, e2]
    exact p

/-! ### a thing becomes data for good -/
def MO.fix : MO → Option D
  | .lst l => some (.lst l)
  | .lls l => some (.lst (l.map .lst))
  | _ => none
open Classical in
theorem RepM.fix {a : Addr} {m : MO} {d : D} (h : RepM K C F H a m) (e : m.fix = some d) : ∃ F', Same F F' ∧ Rep K C F' (.ref a) d ∧ ∀ x u, F' x = some u → F x = some u ∨ (H x = some u ∧ Foot H a m x) := by
  refine ⟨fun x => if Foot H a m x then H x else F x, ?_⟩
  have s : Same F (fun x => if Foot H a m x then H x else F x) := fun x u q => by
    by_cases f : Foot H a m x
    · rw [(h.foot f).1] at q; cases q
    · show (if Foot H a m x then H x else F x) = some u
      rw [if_neg f]; exact q
  have at_ : ∀ x, Foot H a m x → (fun x => if Foot H a m x then H x else F x) x = H x := fun x f => if_pos f
  refine ⟨s, ?_, fun x u q => ?_⟩
  · cases m with
    | lst l =>
      cases e
      obtain ⟨n, vs, q, r⟩ := h
      exact .lst ((at_ a rfl).trans q) (r.to s)
    | lls l =>
      cases e
      obtain ⟨n, as, q, nd, t⟩ := h
      refine .lst ((at_ a (.inl rfl)).trans q) ?_
      have go : ∀ (bs : List Addr) (ls : List (List D)), Lists K C F H bs ls → (∀ x ∈ bs, Foot H a (.lls l) x) → Reps K C (fun x => if Foot H a (.lls l) x then H x else F x) (bs.map .ref) (ls.map .lst) := by
        intro bs ls t
        induction t with
        | nil => intro _; exact .nil
        | cons n e r t ih =>
          intro hx
          exact .cons (.lst ((at_ _ (hx _ List.mem_cons_self)).trans e) (r.to s)) (ih fun x h => hx x (List.mem_cons_of_mem _ h))
      exact go as l t fun x hx => .inr ⟨as, q, hx⟩
    | _ => cases e
  · have q : (if Foot H a m x then H x else F x) = some u := q
    by_cases f : Foot H a m x
    · rw [if_pos f] at q; exact .inr ⟨q, f⟩
    · rw [if_neg f] at q; exact .inl q
def toDat (r : RV) : Ef D := fun ρ => match r with
  | .dat d => some (.ok d ρ)
  | .own m => match m.fix with
    | some d => some (.ok d ρ)
    | none => none
  | .bor i => match ρ[i]? with
    | some (some (.dat d)) => some (.ok d ρ)
    | some (some (.own m)) => match m.fix with
      | some d => some (.ok d (ρ.set i (some (.dat d))))
      | none => none
    | _ => none
  | .shr _ => none
theorem Post.toDat (p : Post K C B z ρ F σ H) {v : V} {r : RV} {d : D} {ρ' : Sl} (h : RepRV K C z ρ F σ H v r) (e : toDat r ρ = some (.ok d ρ')) : ∃ F', Post K C B z ρ' F' σ H ∧ Rep K C F' v d ∧ Same F F' := by
  cases r with
  | dat d' =>
    cases e
    exact ⟨F, p, h, Same.refl _⟩
  | shr i => cases e
  | own m =>
    unfold Pl.toDat at e
    dsimp only at e
    split at e
    · rename_i d' em
      cases e
      obtain ⟨a, rfl, rm, no⟩ := h
      obtain ⟨F', s, rp, w⟩ := rm.fix em
      exact ⟨F', p.fixed s fun x u q => (w x u q).imp_right fun ⟨q1, f⟩ => ⟨q1, (no x f).1, (no x f).2⟩, rp, s⟩
    · cases e
  | bor i =>
    have h : σ[i]? = some (some v) := h
    unfold Pl.toDat at e
    dsimp only at e
    split at e
    · rename_i d' q
      cases e
      obtain ⟨v', e1, r⟩ := p.st.dat i _ q
      rw [h] at e1
      cases e1
      exact ⟨F, p, r, Same.refl _⟩
    · rename_i m q
      split at e
      · rename_i d' em
        cases e
        obtain ⟨a, e1, rm⟩ := p.st.own q
        rw [h] at e1
        cases e1
        obtain ⟨F', s, rp, w⟩ := rm.fix em
        have own : ∀ x, Foot H a m x → ¬ Held (ρ.set i none) σ H x ∧ (z.S x ∨ z.H x = none) := fun x f => by
          refine ⟨?_, p.low x ⟨i, m, a, q, h, f⟩⟩
          rintro ⟨j, sv, m', b, e1, t, e2, f2⟩
          rcases set_cases e1 with ⟨_, y, _⟩ | ⟨hj, y⟩
          · cases y
          · exact p.st.sep i j a b x m m' sv (Ne.symm hj) q y t h e2 f f2
        have p1 := (p.drop i).fixed s fun x u q => (w x u q).imp_right fun ⟨q1, f⟩ => ⟨q1, (own x f).1, (own x f).2⟩
        have p2 := p1.putD h rp
        rw [set_set_none] at p2
        exact ⟨F', p2, rp, s⟩
      · cases e
    · cases e

/-! ### reading a thing as data, for the moment -/
def MO.see : MO → Option D
  | .lst l => some (.lst l)
  | _ => none
def SV.see : SV → Option D
  | .dat d => some d
  | .own m => m.see
  | .lck m => m.see
def slotSee : Option (Option SV) → Option D
  | some (some sv) => sv.see
  | _ => none
def RV.see (ρ : Sl) : RV → Option D
  | .dat d => some d
  | .own m => m.see
  | .bor i => slotSee ρ[i]?
  | .shr i => slotSee ρ[i]?
theorem slotSee_cases {o : Option (Option SV)} {d : D} (h : slotSee o = some d) : o = some (some (.dat d)) ∨ ∃ s m, o = some (some s) ∧ thing s = some m ∧ m.see = some d := by
  match o, h with
  | some (some (.dat d')), h => cases h; exact .inl rfl
  | some (some (.own m)), h => exact .inr ⟨_, m, rfl, rfl, h⟩
  | some (some (.lck m)), h => exact .inr ⟨_, m, rfl, rfl, h⟩
/-- the top in H, the parts among the data -/
def RepP (K : PySem.W.Frag) (C : Cl) (F H : Hp) (v : V) : D → Prop
  | .lst l => ∃ a vs, v = .ref a ∧ H a = some (.lst vs) ∧ Reps K C F vs l
  | .wri l => ∃ a vs, v = .ref a ∧ SqL K H a vs ∧ Reps K C F vs l
  | .tup l => ∃ a vs, v = .ref a ∧ SqT K H a vs ∧ Reps K C F vs l
  | d => Rep K C F v d
theorem Rep.parts {v : V} {d : D} (r : Rep K C F v d) (s : Same F H) : RepP K C F H v d := by
  cases r with
  | lst e r => exact ⟨_, _, rfl, s _ _ e, r⟩
  | wri e r => exact ⟨_, _, rfl, s.seq e, r⟩
  | tup e r => exact ⟨_, _, rfl, Same.tup s e, r⟩
  | non => exact .non
  | bl b => exact .bl b
  | int i => exact .int i
  | str x => exact .str x
  | ty n => exact .ty n
  | cls c => exact .cls c
  | obj e n r => exact .obj e n r
theorem RepP.rep {v : V} {d : D} (r : RepP K C F H v d) (s : Same F H) : Rep K C H v d := by
  cases d with
  | lst l => obtain ⟨a, vs, rfl, e, r⟩ := r; exact .lst e (r.to s)
  | wri l => obtain ⟨a, vs, rfl, e, r⟩ := r; exact .wri e (r.to s)
  | tup l => obtain ⟨a, vs, rfl, e, r⟩ := r; exact .tup e (r.to s)
  | _ => exact Rep.to r s
theorem RepM.parts {a : Addr} {m : MO} {d : D} (h : RepM K C F H a m) (e : m.see = some d) : RepP K C F H (.ref a) d := by
  cases m with
  | lst l =>
    obtain ⟨n, vs, q, r⟩ := h
    cases e
    exact ⟨_, _, rfl, q, r⟩
  | _ => cases e
theorem slot_parts (st : RepSt K C B ρ F σ H) {i : Nat} {v : V} {d : D} (h : σ[i]? = some (some v)) (e : slotSee ρ[i]? = some d) : RepP K C F H v d := by
  rcases slotSee_cases e with q | ⟨s, m, q, t, em⟩
  · obtain ⟨v', e1, r⟩ := st.dat i _ q
    rw [h] at e1
    cases e1
    exact r.parts st.sub
  · obtain ⟨a, e1, r⟩ := st.thg i s m q t
    rw [h] at e1
    cases e1
    exact r.parts em
theorem RepRV.parts {v : V} {r : RV} {d : D} (h : RepRV K C z ρ F σ H v r) (st : RepSt K C B ρ F σ H) (e : r.see ρ = some d) : RepP K C F H v d := by
  cases r with
  | dat d' => cases e; exact Rep.parts h st.sub
  | own m =>
    obtain ⟨a, rfl, rm, no⟩ := h
    exact rm.parts e
  | bor i => exact slot_parts st h e
  | shr i => exact slot_parts st h e
theorem RepRV.see {v : V} {r : RV} {d : D} (h : RepRV K C z ρ F σ H v r) (st : RepSt K C B ρ F σ H) (e : r.see ρ = some d) : Rep K C H v d := (h.parts st e).rep st.sub
/-- data but a list is data for good -/
theorem RepRV.keep {v : V} {r : RV} {d : D} (h : RepRV K C z ρ F σ H v r) (st : RepSt K C B ρ F σ H) (e : r.see ρ = some d) (n : ∀ l, d ≠ .lst l) : Rep K C F v d := by
  have no : ∀ m : MO, m.see = some d → False := fun m em => by
    cases m with
    | lst l => cases em; exact n l rfl
    | _ => cases em
  have slot : ∀ i : Nat, σ[i]? = some (some v) → slotSee ρ[i]? = some d → Rep K C F v d := fun i h e => by
    rcases slotSee_cases e with q | ⟨s, m, q, t, em⟩
    · obtain ⟨v', e1, r⟩ := st.dat i _ q
      rw [h] at e1
      cases e1
      exact r
    · exact (no m em).elim
  cases r with
  | dat d' => cases e; exact h
  | own m => exact (no m e).elim
  | bor i => exact slot i h e
  | shr i => exact slot i h e
theorem Rep.int_inv {v : V} {i : Int} (r : Rep K C F v (.int i)) : v = .int i := by cases r; rfl
theorem Rep.bl_inv {v : V} {b : Bool} (r : Rep K C F v (.bl b)) : v = .bl b := by cases r; rfl
theorem Rep.str_inv {v : V} {x : Str} (r : Rep K C F v (.str x)) : v = .str x := by cases r; rfl
theorem Rep.non_inv {v : V} (r : Rep K C F v .non) : v = .non := by cases r; rfl
theorem RepP.int_inv {v : V} {i : Int} (r : RepP K C F H v (.int i)) : v = .int i := Rep.int_inv r
theorem RepP.str_inv {v : V} {i : Str} (r : RepP K C F H v (.str i)) : v = .str i := Rep.str_inv r
theorem RepP.bl_inv {v : V} {i : Bool} (r : RepP K C F H v (.bl i)) : v = .bl i := Rep.bl_inv r
/-- the items of a list or a tuple -/
def D.items : D → Option (List D)
  | .lst l => some l
  | .wri l => some l
  | .tup l => some l
  | _ => none
def RV.items (ρ : Sl) (r : RV) : Option (List D) := (r.see ρ).bind D.items
theorem RepP.seq {v : V} {d : D} {l : List D} (r : RepP K C F H v d) (e : d.items = some l) : ∃ a vs, v = .ref a ∧ (SqL K H a vs ∨ SqT K H a vs) ∧ Reps K C F vs l := by
  cases d with
  | lst l' => cases e; obtain ⟨a, vs, rfl, q, z⟩ := r; exact ⟨a, vs, rfl, .inl (SqL.of q), z⟩
  | wri l' => cases e; obtain ⟨a, vs, rfl, q, z⟩ := r; exact ⟨a, vs, rfl, .inl q, z⟩
  | tup l' => cases e; obtain ⟨a, vs, rfl, q, z⟩ := r; exact ⟨a, vs, rfl, .inr q, z⟩
  | _ => cases e
theorem RepRV.items {v : V} {r : RV} {l : List D} (h : RepRV K C z ρ F σ H v r) (st : RepSt K C B ρ F σ H) (e : r.items ρ = some l) : ∃ a vs, v = .ref a ∧ (SqL K H a vs ∨ SqT K H a vs) ∧ Reps K C F vs l := by
  unfold RV.items at e
  cases q : r.see ρ with
  | none => rw [q] at e; cases e
  | some d =>
    rw [q] at e
    exact (h.parts st q).seq e

/-! ### a slot's own thing is changed -/
theorem Post.write (p : Post K C B z ρ F σ H) {i : Nat} {m m' : MO} {a x : Addr} {o : HO} (e : ρ[i]? = some (some (.own m))) (s : σ[i]? = some (some (.ref a))) (fx : Foot H a m x) (r : RepM K C F (upd H x o) a m') (hf : ∀ y, Foot (upd H x o) a m' y → Foot H a m y) :
    Post K C B z (ρ.set i (some (.own m'))) F σ (upd H x o) := by
  have own : ∀ y, Foot H a m y → ¬ Held (ρ.set i none) σ H y ∧ (z.S y ∨ z.H y = none) := fun y f => by
    refine ⟨?_, p.low y ⟨i, m, a, e, s, f⟩⟩
    rintro ⟨j, sv, m', b, e1, t, e2, f2⟩
    rcases set_cases e1 with ⟨_, w, _⟩ | ⟨hj, w⟩
    · cases w
    · exact p.st.sep i j a b y m m' sv (Ne.symm hj) e w t s e2 f f2
  obtain ⟨b, eb, rm⟩ := p.st.own e
  rw [s] at eb
  cases eb
  have p1 := (p.drop i).aside (a := x) (o := o) (own x fx).2 (rm.foot fx).1 (own x fx).1
  have p2 := p1.putN (i := i) (m := m') (fun y => set_none y) s r (fun y f => ⟨fun w => (own y (hf y f)).1 ?_, (own y (hf y f)).2⟩) fun hi => p.st.fix i m hi e
  · rw [set_set_none] at p2
    exact p2
  · obtain ⟨j, sv, m1, c, e1, t, e2, f2⟩ := w
    have nc : c ≠ x := fun w => (own x fx).1 (Held.of e1 t e2 (w ▸ Foot.root _ _ _))
    exact ⟨j, sv, m1, c, e1, t, e2, (Foot.same (upd_ne nc)).mp f2⟩

/-! ### a slot's list is read only for a while -/
def lock1 (i : Nat) (ρ : Sl) : Sl := match ρ[i]? with
  | some (some (.own (.lst l))) => ρ.set i (some (.lck (.lst l)))
  | _ => ρ
def free1 (i : Nat) (ρ : Sl) : Sl := match ρ[i]? with
  | some (some (.lck m)) => ρ.set i (some (.own m))
  | _ => ρ
def isOwnL (i : Nat) (ρ : Sl) : Bool := match ρ[i]? with
  | some (some (.own (.lst _))) => true
  | _ => false
theorem isOwnL_inv {i : Nat} (h : isOwnL i ρ = true) : ∃ l, ρ[i]? = some (some (.own (.lst l))) := by
  unfold isOwnL at h
  split at h
  · rename_i l e; exact ⟨l, e⟩
  · cases h
theorem RepSt.lock (st : RepSt K C B ρ F σ H) (i : Nat) : RepSt K C B (lock1 i ρ) F σ H := by
  unfold lock1
  split
  · rename_i l e
    have cs : ∀ {j : Nat} {x : SV}, (ρ.set i (some (.lck (.lst l))))[j]? = some (some x) → (j = i ∧ x = .lck (.lst l)) ∨ (j ≠ i ∧ ρ[j]? = some (some x)) := fun h => by
      rcases set_cases h with ⟨h1, y, _⟩ | h
      · cases y; exact .inl ⟨h1, rfl⟩
      · exact .inr h
    refine ⟨by rw [List.length_set]; exact st.len, st.sub, fun j d h => ?_, fun j s m h t => ?_, fun j k a b x m m' s n e1 e2 t q1 q2 f1 f2 => ?_, fun j m hi h => ?_⟩
    · rcases cs h with ⟨_, y⟩ | ⟨_, y⟩
      · cases y
      · exact st.dat j d y
    · rcases cs h with ⟨rfl, rfl⟩ | ⟨_, y⟩
      · cases t
        exact st.thg j _ _ e rfl
      · exact st.thg j s m y t
    · rcases cs e1 with ⟨_, y⟩ | ⟨_, y⟩
      · cases y
      · rcases cs e2 with ⟨rfl, rfl⟩ | ⟨_, y2⟩
        · cases t
          exact st.sep j k a b x m _ _ n y e rfl q1 q2 f1 f2
        · exact st.sep j k a b x m m' s n y y2 t q1 q2 f1 f2
    · rcases cs h with ⟨_, y⟩ | ⟨_, y⟩
      · cases y
      · exact st.fix j m hi y
  · exact st
theorem own_lock {i : Nat} {x : Addr} (h : OwnA (lock1 i ρ) σ H x) : OwnA ρ σ H x := by
  unfold lock1 at h
  split at h
  · obtain ⟨j, m, a, e, q, f⟩ := h
    rcases set_cases e with ⟨_, y, _⟩ | ⟨_, y⟩
    · cases y
    · exact ⟨j, m, a, y, q, f⟩
  · exact h
theorem held_lock {i : Nat} {x : Addr} (h : Held (lock1 i ρ) σ H x) : Held ρ σ H x := by
  unfold lock1 at h
  split at h
  · rename_i l el
    obtain ⟨j, s, m, a, e, t, q, f⟩ := h
    rcases set_cases e with ⟨rfl, y, _⟩ | ⟨_, y⟩
    · cases y
      cases t
      exact ⟨j, _, _, a, el, rfl, q, f⟩
    · exact ⟨j, s, m, a, y, t, q, f⟩
  · exact h
theorem held_free {i : Nat} {x : Addr} (h : Held (free1 i ρ) σ H x) : Held ρ σ H x := by
  unfold free1 at h
  split at h
  · rename_i m0 el
    obtain ⟨j, s, m, a, e, t, q, f⟩ := h
    rcases set_cases e with ⟨rfl, y, _⟩ | ⟨_, y⟩
    · cases y
      cases t
      exact ⟨j, _, _, a, el, rfl, q, f⟩
    · exact ⟨j, s, m, a, y, t, q, f⟩
  · exact h
/-- the list of slot i is not of the own things of the locked slots -/
theorem lock_apart (st : RepSt K C B ρ F σ H) {i : Nat} {l : List D} {a : Addr} (e : ρ[i]? = some (some (.own (.lst l)))) (s : σ[i]? = some (some (.ref a))) : ¬ OwnA (lock1 i ρ) σ H a := by
  rintro ⟨j, m, b, e1, q, f⟩
  unfold lock1 at e1
  rw [e] at e1
  dsimp only at e1
  rcases set_cases e1 with ⟨_, y, _⟩ | ⟨n, y⟩
  · cases y
  · exact st.sep i j a b a (.lst l) m _ (Ne.symm n) e y rfl s q rfl f
/-- behind what was done under the lock -/
theorem Post.unlock (p : Post K C B z ρ1 F1 σ1 H1) {i : Nat} (o : isOwnL i ρ1 = true) (q : Post K C B (here (lock1 i ρ1) F1 σ1 H1) ρ2 F2 σ2 H2) : Post K C B z (free1 i ρ2) F2 σ2 H2 := by
  obtain ⟨l, e⟩ := isOwnL_inv o
  obtain ⟨a, s, rm⟩ := p.st.own e
  have el : lock1 i ρ1 = ρ1.set i (some (.lck (.lst l))) := by unfold lock1; rw [e]
  have ownz : ∀ x, OwnA (lock1 i ρ1) σ1 H1 x → z.S x ∨ z.H x = none := fun x h => p.low x (own_lock h)
  have ap := lock_apart p.st e s
  -- the slots' things that are read only
  have lkd : ∀ {j : Nat} {m : MO} {b : Addr}, ρ2[j]? = some (some (.lck m)) → σ2[j]? = some (some (.ref b)) → (j = i ∧ b = a ∧ m = .lst l) ∨ (j ≠ i ∧ ρ1[j]? = some (some (.lck m)) ∧ σ1[j]? = some (some (.ref b))) := by
    intro j m b e1 q1
    obtain ⟨e2, q2⟩ := q.lks j b m ⟨e1, q1⟩
    rw [el] at e2
    rcases set_cases e2 with ⟨rfl, y, _⟩ | ⟨n, y⟩
    · rw [s] at q2
      cases q2
      cases y
      exact .inl ⟨rfl, rfl, rfl⟩
    · exact .inr ⟨n, y, q2⟩
  have lo : ∀ x, OwnA ρ2 σ2 H2 x → z.S x ∨ z.H x = none := fun x h => by
    rcases q.low x h with y | y
    · exact ownz x y
    · exact p.there y
  have loL : ∀ x, Held ρ2 σ2 H2 x → z.L x ∨ z.H x = none := fun x h => by
    rcases q.lowL x h with y | y
    · exact p.lowL x (held_lock y)
    · exact p.old y
  have frm : ∀ b u, z.H b = some u → ¬ z.S b → H2 b = some u := fun b u e1 n => q.frame b u (p.frame b u e1 n) fun y => (ownz b y).elim n fun w => by rw [w] at e1; cases e1
  have nw : ∀ b u, F2 b = some u → z.F b = some u ∨ z.H b = none ∨ z.S b := fun b u e1 => by
    rcases q.new b u e1 with y | y | y
    · exact p.new b u y
    · exact .inr (p.there y).symm
    · exact .inr (ownz b y).symm
  have pb : Post K C B z (ρ2.set i none) F2 σ2 H2 := by
    refine ⟨p.mono.trans q.mono, frm, nw, ((Post.start q.st).drop i).st, fun x => ?_, fun x h => loL x (Held.drop h), p.good, fun j b m => ?_⟩
    · rintro ⟨j, m, b, e1, q1, f⟩
      rcases set_cases e1 with ⟨_, y, _⟩ | ⟨_, y⟩
      · cases y
      · exact lo x ⟨j, m, b, y, q1, f⟩
    · rintro ⟨e1, q1⟩
      rcases set_cases e1 with ⟨_, y, _⟩ | ⟨n, y⟩
      · cases y
      · rcases lkd y q1 with ⟨w, _⟩ | ⟨_, e2, q2⟩
        · exact (n w).elim
        · exact p.lks j b m ⟨e2, q2⟩
  unfold free1
  split
  · rename_i m e2
    obtain ⟨b, q1, r⟩ := q.st.thg i _ m e2 rfl
    rcases lkd e2 q1 with ⟨_, rfl, rfl⟩ | ⟨n, _⟩
    · have foot : ∀ x, Foot H2 b (.lst l) x → ¬ Held (ρ2.set i none) σ2 H2 x ∧ (z.S x ∨ z.H x = none) := by
        intro x f
        obtain rfl : x = b := f
        refine ⟨?_, p.low x ⟨i, _, x, e, s, rfl⟩⟩
        rintro ⟨j, sv, m', c, e3, t, q3, f3⟩
        rcases set_cases e3 with ⟨_, w, _⟩ | ⟨hj, w⟩
        · cases w
        · cases sv with
          | dat d => cases t
          | own m1 => exact q.st.sep j i c x x m1 _ _ hj w e2 rfl q3 q1 (by cases t; exact f3) rfl
          | lck m' =>
            cases t
            rcases lkd w q3 with ⟨w', _⟩ | ⟨_, e4, q4⟩
            · exact hj w'
            · -- that slot's thing stands as it stood
              obtain ⟨c', qc, rc⟩ := p.st.thg j _ m' e4 rfl
              rw [q4] at qc
              cases qc
              obtain ⟨nc, oc, hc⟩ := rc.foot (Foot.root H1 c m')
              have nOwn : ¬ OwnA (lock1 i ρ1) σ1 H1 c := by
                rintro ⟨k, m2, d, e5, q5, f5⟩
                rw [el] at e5
                rcases set_cases e5 with ⟨_, y, _⟩ | ⟨_, y⟩
                · cases y
                · by_cases hk : k = j
                  · subst hk
                    rw [e4] at y
                    cases y
                  · exact p.st.sep k j d c c m2 m' _ hk y e4 rfl q5 q4 f5 (Foot.root _ _ _)
              have st := (q.stays nc hc nOwn).1
              exact p.st.sep i j x c x (.lst l) m' _ (Ne.symm hj) e e4 rfl s q4 rfl ((Foot.same st).mp f3)
      have := pb.putN (i := i) (m := .lst l) (a := b) (fun y => set_none y) q1 r foot fun hi => by
        obtain ⟨c, h1, h2⟩ := p.st.fix i _ hi e
        rw [s] at h2
        cases h2
        exact ⟨b, h1, q1⟩
      rw [set_set_none] at this
      exact this
    · exact (n rfl).elim
  · rename_i n
    refine ⟨p.mono.trans q.mono, frm, nw, q.st, lo, loL, p.good, fun j b m => ?_⟩
    rintro ⟨e1, q1⟩
    rcases lkd e1 q1 with ⟨rfl, _, _⟩ | ⟨_, e2, q2⟩
    · exact (n m e1).elim
    · exact p.lks j b m ⟨e2, q2⟩
/-- a result, seen behind the lock -/
theorem RepRV.unlock (p : Post K C B z ρ1 F1 σ1 H1) {i : Nat} {v : V} {r : RV} (h : RepRV K C (here (lock1 i ρ1) F1 σ1 H1) ρ2 F2 σ2 H2 v r) : RepRV K C z (free1 i ρ2) F2 σ2 H2 v r := by
  cases r with
  | dat d => exact h
  | bor j => exact h
  | shr j => exact h
  | own m =>
    obtain ⟨a, e, rm, no⟩ := h
    refine ⟨a, e, rm, fun x f => ⟨fun y => (no x f).1 (held_free y), ?_⟩⟩
    rcases (no x f).2 with y | y
    · exact p.low x (own_lock y)
    · exact p.there y
end
end Pl
set_option Elab.async false
set_option linter.all false
set_option maxRecDepth 100000
set_option maxHeartbeats 4000000
/-! What expressions make: names, constants, operators, comparisons, tests, displays, subscripts, built-ins. -/
namespace Pl
open PySem PySem.Spec PyProof.Rows L2 Tk

theorem line10000 {n : Nat} (h : n ≤ 10000) : n ≤ sizeLine := Nat.le_trans h (by decide)
theorem line10000' {n : Nat} (h : n < 10000) : n < sizeLine := Nat.lt_of_lt_of_le h (by decide)
/-! ### names, constants -/
def dVar (i : Nat) : DE := fun ρ => match ρ[i]? with
  | some (some (.dat d)) => some (.ok (.dat d) ρ)
  | some (some _) => some (.ok (.bor i) ρ)
  | _ => none
section
variable {X : Cx} {C : Cl} {B : Bw} {W : WX} {pos : Pos}
theorem pd_var {i : Nat} {x : Str} (h : PE X (.Name x pos) (tVar i)) : PD X C B W (.Name x pos) (dVar i) := PE.conv h fun σ H Q ⟨ρ, F, st, g⟩ => by
  unfold dVar at g
  split at g
  · rename_i d e
    obtain ⟨v, e1, r⟩ := st.dat i d e
    exact ⟨v, e1, g v F H (Post.start st) r⟩
  · rename_i s n e
    cases s with
    | dat d => exact (n d rfl).elim
    | own m => obtain ⟨a, e1, _⟩ := st.thg i _ m e rfl; exact ⟨_, e1, g _ F H (Post.start st) e1⟩
    | lck m => obtain ⟨a, e1, _⟩ := st.thg i _ m e rfl; exact ⟨_, e1, g _ F H (Post.start st) e1⟩
  · exact False.elim g
theorem pd_const {e : Expr} {v : V} {d : D} (h : PE X e (tC v)) (r : ∀ F, Rep X.K C F v d) : PD X C B W e (retE (.dat d)) := PE.conv h fun σ H Q ⟨ρ, F, st, g⟩ => g v F H (Post.start st) (r F)
theorem pd_int {i : Int} {j} : PD X C B W (.Constant (.int i) j pos) (retE (.dat (.int i))) := pd_const pe_int fun _ => .int i
theorem pd_bl {b : Bool} {j} : PD X C B W (.Constant (.bool b) j pos) (retE (.dat (.bl b))) := pd_const pe_bl fun _ => .bl b
theorem pd_str {x : Str} {j} : PD X C B W (.Constant (.str x) j pos) (retE (.dat (.str x))) := pd_const pe_str fun _ => .str x
theorem pd_non {j} : PD X C B W (.Constant .none j pos) (retE (.dat .non)) := pd_const pe_non fun _ => .non
end

/-! ### two operands -/
/-- an operation by values makes g -/
def Op2 (K : PySem.W.Frag) (C : Cl) (r : R2) (g : RV → RV → DE) : Prop := ∀ (B : Bw) (W : WX) (z : At0) (ρ : Sl) (σ : L2.St) (F H : Hp) (x y : V) (r1 r2 : RV) (Q : VK),
  Post K C B z ρ F σ H → RepRV K C z ρ F σ H x r1 → RepRV K C z ρ F σ H y r2 → Goal K C B W z σ Q (g r1 r2 ρ) → r x y H Q
def dBin (g : RV → RV → DE) (fa fb : DE) : DE := bindE fa fun r1 => bindE fb fun r2 => g r1 r2
/-- from data to data -/
def lift2 (h : D → D → Option D) (r1 r2 : RV) : DE := fun ρ => match r1.see ρ, r2.see ρ with
  | some a, some b => match h a b with
    | some d => some (.ok (.dat d) ρ)
    | none => none
  | _, _ => none
def Sc2 (K : PySem.W.Frag) (C : Cl) (r : R2) (h : D → D → Option D) : Prop := ∀ (H : Hp) (x y : V) (a b d : D) (Q : VK), Rep K C H x a → Rep K C H y b → h a b = some d → (∀ v, (∀ F, Rep K C F v d) → Q v H) → r x y H Q
theorem Sc2.op {K : PySem.W.Frag} {C : Cl} {r : R2} {h : D → D → Option D} (s : Sc2 K C r h) : Op2 K C r (lift2 h) := by
  intro B W z ρ σ F H x y r1 r2 Q p q1 q2 g
  unfold lift2 at g
  split at g
  · rename_i a b e1 e2
    split at g
    · rename_i d e
      exact s H x y a b d Q (q1.see p.st e1) (q2.see p.st e2) e fun v r => g v F H p (r F)
    · exact False.elim g
  · exact False.elim g
theorem Op2.or {K : PySem.W.Frag} {C : Cl} {r r' : R2} {g g' : RV → RV → DE} (h : Op2 K C r g) (h' : Op2 K C r' g') : Op2 K C (fun x y H Q => r x y H Q ∨ r' x y H Q) (fun r1 r2 ρ => match g r1 r2 ρ with | some o => some o | none => g' r1 r2 ρ) := by
  intro B W z ρ σ F H x y r1 r2 Q p q1 q2 q
  dsimp only at q
  cases e : g r1 r2 ρ with
  | some o => rw [e] at q; exact .inl (h B W z ρ σ F H x y r1 r2 Q p q1 q2 (by rw [e]; exact q))
  | none => rw [e] at q; exact .inr (h' B W z ρ σ F H x y r1 r2 Q p q1 q2 q)
section
variable {X : Cx} {C : Cl} {B : Bw} {W : WX} {a b : Expr} {fa fb : DE} {pos : Pos} {r : R2} {g : RV → RV → DE}
theorem op2_run (og : Op2 X.K C r g) {σ : L2.St} {H : Hp} {Q : VK} (h : tD X.K C B W (dBin g fa fb) σ H Q) : tOp r (tD X.K C B W fa) (tD X.K C B W fb) σ H Q := by
  obtain ⟨ρ, F, st, g0⟩ := h
  refine tG_bind (Post.start st) g0 fun r1 ρ1 v1 F1 H1 g1 p1 _ q1 => tG_bind p1 g1 fun r2 ρ2 v2 F2 H2 g2 p2 s2 q2 => ?_
  exact og B W _ ρ2 σ F2 H2 v1 v2 r1 r2 Q p2 (RepRV.carry q1 s2) q2 g2
theorem pd_bin {op : Operator} (ho : OpR X (binaryOp op) r) (og : Op2 X.K C r g) (ha : PD X C B W a fa) (hb : PD X C B W b fb) : PD X C B W (.BinOp a op b pos) (dBin g fa fb) := PE.conv (pe_op ho ha hb) fun _ _ _ h => op2_run og h
theorem pd_cmp {op : CmpOp} (ho : OpR X (compareOp op) r) (og : Op2 X.K C r g) (ha : PD X C B W a fa) (hb : PD X C B W b fb) (hm : behindInMarks op b = false) : PD X C B W (.Compare a [op] [b] pos) (dBin g fa fb) := PE.conv (pe_cmpR ho ha hb hm) fun _ _ _ h => op2_run og h
theorem pd_ixR (hr : IxR X r) (og : Op2 X.K C r g) (ha : PD X C B W a fa) (hb : PD X C B W b fb) (hs : PlainIx b) : PD X C B W (.Subscript a b pos) (dBin g fa fb) := PE.conv (pe_ix hr ha hb hs) fun _ _ _ h => op2_run og h
end

/-! ### whole numbers -/
def hI (f : Int → Int → Option D) : D → D → Option D
  | .int a, .int b => f a b
  | _, _ => none
theorem hI_inv {f : Int → Int → Option D} {a b d : D} (h : hI f a b = some d) : ∃ i j, a = .int i ∧ b = .int j ∧ f i j = some d := by
  match a, b, h with
  | .int i, .int j, h => exact ⟨i, j, rfl, rfl, h⟩
def cMul (i j : Int) : Bool := (decide (i.natAbs < 2 ^ 64) || decide (j.natAbs < 2 ^ 64)) || decide (i.natAbs.log2 + j.natAbs.log2 < 1000000)
def cDiv (i j : Int) : Bool := decide (0 < j) && decide (j.natAbs.log2 < 9000)
def cPow (i j : Int) : Bool := decide (0 ≤ j) && decide (j ≤ 1000000) && decide (i.natAbs < 2 ^ 64)
section
variable {K : PySem.W.Frag} {C : Cl} {X : Cx}
theorem sc_I0 {g : Int → Int → V} {f : Int → Int → D} (rep : ∀ i j F, Rep K C F (g i j) (f i j)) : Sc2 K C (rI0 g) (hI fun i j => some (f i j)) := by
  intro H x y a b d Q ra rb e q
  obtain ⟨i, j, rfl, rfl, h⟩ := hI_inv e
  cases h
  exact ⟨i, j, ra.int_inv, rb.int_inv, q _ (rep i j)⟩
theorem sc_I {Cd : Int → Int → Prop} {c : Int → Int → Bool} {g : Int → Int → V} {f : Int → Int → D} (hc : ∀ i j, c i j = true → Cd i j) (rep : ∀ i j F, Rep K C F (g i j) (f i j)) : Sc2 K C (rI Cd g) (hI fun i j => if c i j = true then some (f i j) else none) := by
  intro H x y a b d Q ra rb e q
  obtain ⟨i, j, rfl, rfl, h⟩ := hI_inv e
  by_cases hh : c i j = true
  · rw [if_pos hh] at h
    cases h
    exact ⟨i, j, ra.int_inv, rb.int_inv, hc i j hh, q _ (rep i j)⟩
  · rw [if_neg hh] at h
    cases h
abbrev gSub := lift2 (hI fun i j => some (.int (i - j)))
abbrev gFdiv := lift2 (hI fun i j => if cDiv i j = true then some (.int (i / j)) else none)
abbrev gMod := lift2 (hI fun i j => if decide (0 < j) = true then some (.int (i % j)) else none)
abbrev gPow := lift2 (hI fun i j => if cPow i j = true then some (.int (i ^ j.toNat)) else none)
abbrev gShr := lift2 (hI fun i j => if decide (0 ≤ j) = true then some (.int (i / 2 ^ j.toNat)) else none)
abbrev gShl := lift2 (hI fun i j => if cPow i j = true then some (.int (i * 2 ^ j.toNat)) else none)
abbrev gBand := lift2 (hI fun i j => some (.int (Builtin.bitAnd i j)))
abbrev gLt := lift2 (hI fun i j => some (.bl (decide (i < j))))
abbrev gLe := lift2 (hI fun i j => some (.bl (decide (i ≤ j))))
abbrev gGt := lift2 (hI fun i j => some (.bl (decide (j < i))))
abbrev gGe := lift2 (hI fun i j => some (.bl (decide (j ≤ i))))
theorem o_sub : Op2 K C (rI0 fun i j => .int (i - j)) gSub := (sc_I0 fun _ _ _ => .int _).op
theorem o_fdiv : Op2 K C (rI CDivW fun i j => .int (i / j)) gFdiv := (sc_I (fun i j h => by unfold cDiv at h; simp only [Bool.and_eq_true, decide_eq_true_eq] at h; exact h) fun _ _ _ => .int _).op
theorem o_mod : Op2 K C (rI (fun _ j => 0 < j) fun i j => .int (i % j)) gMod := (sc_I (fun i j h => of_decide_eq_true h) fun _ _ _ => .int _).op
theorem o_pow : Op2 K C (rI CPow fun i j => .int (i ^ j.toNat)) gPow := (sc_I (fun i j h => by unfold cPow at h; simp only [Bool.and_eq_true, decide_eq_true_eq] at h; exact ⟨h.1.1, h.1.2, h.2⟩) fun _ _ _ => .int _).op
theorem o_shr : Op2 K C (rI (fun _ j => 0 ≤ j) fun i j => .int (i / 2 ^ j.toNat)) gShr := (sc_I (fun i j h => of_decide_eq_true h) fun _ _ _ => .int _).op
theorem o_shl : Op2 K C (rI CPow fun i j => .int (i * 2 ^ j.toNat)) gShl := (sc_I (fun i j h => by unfold cPow at h; simp only [Bool.and_eq_true, decide_eq_true_eq] at h; exact ⟨h.1.1, h.1.2, h.2⟩) fun _ _ _ => .int _).op
theorem o_band : Op2 K C (rI0 fun i j => .int (Builtin.bitAnd i j)) gBand := (sc_I0 fun _ _ _ => .int _).op
theorem o_lt : Op2 K C (rI0 fun i j => .bl (decide (i < j))) gLt := (sc_I0 fun _ _ _ => .bl _).op
theorem o_le : Op2 K C (rI0 fun i j => .bl (decide (i ≤ j))) gLe := (sc_I0 fun _ _ _ => .bl _).op
theorem o_gt : Op2 K C (rI0 fun i j => .bl (decide (j < i))) gGt := (sc_I0 fun _ _ _ => .bl _).op
theorem o_ge : Op2 K C (rI0 fun i j => .bl (decide (j ≤ i))) gGe := (sc_I0 fun _ _ _ => .bl _).op

/-! ### + of numbers, texts, lists, tuples; * of numbers, of a list or a tuple so often -/
def gAdd (r1 r2 : RV) : DE := fun ρ => match r1.see ρ, r2.see ρ with
  | some (.int a), some (.int b) => some (.ok (.dat (.int (a + b))) ρ)
  | some (.str a), some (.str b) => if a.length + b.length ≤ 10000 then some (.ok (.dat (.str (a ++ b))) ρ) else none
  | some (.lst a), some (.lst b) => if a.length + b.length ≤ 10000 then some (.ok (.own (.lst (a ++ b))) ρ) else none
  | some (.tup a), some (.tup b) => if a.length + b.length ≤ 10000 then some (.ok (.dat (.tup (a ++ b))) ρ) else none
  | _, _ => none
theorem op_addA : OpR X (binaryOp .Add) (fun x y H Q => rI0 (fun i j => .int (i + j)) x y H Q ∨ (∃ i j, x = .str i ∧ y = .str j ∧ i.length + j.length ≤ sizeLine ∧ Q (.str (i ++ j)) H) ∨ rCat x y H Q ∨ rCatA X.K x y H Q) := op_add.or (op_add_str.or (op_cat.or op_catA))
theorem o_add : Op2 K C (fun x y H Q => rI0 (fun i j => .int (i + j)) x y H Q ∨ (∃ i j, x = .str i ∧ y = .str j ∧ i.length + j.length ≤ sizeLine ∧ Q (.str (i ++ j)) H) ∨ rCat x y H Q ∨ rCatA K x y H Q) gAdd := by
  intro B W z ρ σ F H x y r1 r2 Q p q1 q2 g
  unfold gAdd at g
  split at g
  · rename_i e1 e2
    exact .inl ⟨_, _, (q1.see p.st e1).int_inv, (q2.see p.st e2).int_inv, g _ F H p (.int _)⟩
  · rename_i a b e1 e2
    by_cases h : a.length + b.length ≤ 10000
    · rw [if_pos h] at g
      exact .inr (.inl ⟨_, _, (q1.see p.st e1).str_inv, (q2.see p.st e2).str_inv, line10000 h, g _ F H p (.str _)⟩)
    · rw [if_neg h] at g
      exact False.elim g
  · rename_i a b e1 e2
    by_cases h : a.length + b.length ≤ 10000
    · rw [if_pos h] at g
      obtain ⟨a1, vs1, rfl, h1, z1⟩ := q1.parts p.st e1
      obtain ⟨a2, vs2, rfl, h2, z2⟩ := q2.parts p.st e2
      exact .inr (.inr (.inl ⟨a1, a2, vs1, vs2, rfl, rfl, h1, h2, by rw [z1.length, z2.length]; exact line10000 h, fun l n => g.newL p n (z1.append z2)⟩))
    · rw [if_neg h] at g
      exact False.elim g
  · rename_i a b e1 e2
    by_cases h : a.length + b.length ≤ 10000
    · rw [if_pos h] at g
      obtain ⟨a1, vs1, rfl, h1, z1⟩ := q1.parts p.st e1
      obtain ⟨a2, vs2, rfl, h2, z2⟩ := q2.parts p.st e2
      refine .inr (.inr (.inr ⟨a1, a2, vs1, vs2, rfl, rfl, h1, h2, by rw [z1.length, z2.length]; exact line10000 h, ?_⟩))
      refine ⟨fun h0 => ?_, fun _ h0 => ?_, fun _ _ l n => g.newT p n (z1.append z2)⟩
      · subst h0
        cases z1
        exact g _ F H p (q2.keep p.st e2 fun _ z => by cases z)
      · subst h0
        cases z2
        rw [List.append_nil] at g
        exact g _ F H p (q1.keep p.st e1 fun _ z => by cases z)
    · rw [if_neg h] at g
      exact False.elim g
  · exact False.elim g
def gMul (r1 r2 : RV) : DE := fun ρ => match r1.see ρ, r2.see ρ with
  | some (.int a), some (.int b) => if cMul a b = true then some (.ok (.dat (.int (a * b))) ρ) else none
  | some (.lst a), some (.int b) => if decide (0 ≤ b) && decide (b ≤ 1000) && decide (a.length ≤ 10) then some (.ok (.own (.lst (List.replicate b.toNat a).flatten)) ρ) else none
  | some (.tup a), some (.int b) => if decide (0 < a.length) && decide (2 ≤ b) && decide (b ≤ 1000) && decide (a.length ≤ 10) then some (.ok (.dat (.tup (List.replicate b.toNat a).flatten)) ρ) else none
  | _, _ => none
theorem op_mulA : OpR X (binaryOp .Mult) (fun x y H Q => (rI CMul (fun i j => .int (i * j)) x y H Q ∨ rI CMulW (fun i j => .int (i * j)) x y H Q) ∨ rRep x y H Q ∨ rRepT X.K x y H Q) := (op_mul.or op_mulW).or (op_rep.or op_repT)
theorem Reps.times {F : Hp} {vs : List V} {ds : List D} (r : Reps K C F vs ds) : ∀ n : Nat, Reps K C F (List.replicate n vs).flatten (List.replicate n ds).flatten
  | 0 => .nil
  | n + 1 => by
    rw [List.replicate_succ, List.replicate_succ, List.flatten_cons, List.flatten_cons]
    exact r.append (Reps.times r n)
theorem o_mul : Op2 K C (fun x y H Q => (rI CMul (fun i j => .int (i * j)) x y H Q ∨ rI CMulW (fun i j => .int (i * j)) x y H Q) ∨ rRep x y H Q ∨ rRepT K x y H Q) gMul := by
  intro B W z ρ σ F H x y r1 r2 Q p q1 q2 g
  unfold gMul at g
  split at g
  · rename_i a b e1 e2
    by_cases h : cMul a b = true
    · rw [if_pos h] at g
      have q := g _ F H p (.int _)
      have x1 := (q1.see p.st e1).int_inv
      have y1 := (q2.see p.st e2).int_inv
      unfold cMul at h
      simp only [Bool.or_eq_true, decide_eq_true_eq] at h
      rcases h with (h | h) | h
      · exact .inl (.inl ⟨_, _, x1, y1, .inl ⟨by omega, by omega⟩, q⟩)
      · exact .inl (.inl ⟨_, _, x1, y1, .inr ⟨by omega, by omega⟩, q⟩)
      · exact .inl (.inr ⟨_, _, x1, y1, h, q⟩)
    · rw [if_neg h] at g
      exact False.elim g
  · rename_i a b e1 e2
    split at g
    · rename_i h
      simp only [Bool.and_eq_true, decide_eq_true_eq] at h
      obtain ⟨a1, vs1, rfl, h1, z1⟩ := q1.parts p.st e1
      refine .inr (.inl ⟨a1, b, vs1, rfl, (q2.see p.st e2).int_inv, h1, by omega, by omega, ?_, fun l n => g.newL p n (z1.times _)⟩)
      rw [z1.length]
      refine line10000 (Nat.le_trans (Nat.mul_le_mul h.2 (show b.toNat ≤ 1000 by omega)) (by decide))
    · exact False.elim g
  · rename_i a b e1 e2
    split at g
    · rename_i h
      simp only [Bool.and_eq_true, decide_eq_true_eq] at h
      obtain ⟨a1, vs1, rfl, h1, z1⟩ := q1.parts p.st e1
      have l1 := z1.length
      refine .inr (.inr ⟨a1, b, vs1, rfl, (q2.see p.st e2).int_inv, h1, fun z => by rw [z] at l1; simp at l1; omega, by omega, by omega, by omega, fun l n => g.newT p n (z1.times _)⟩)
    · exact False.elim g
  · exact False.elim g

/-! ### items -/
def ixD (d : D) (i : Int) : Option D := match d with
  | .lst l => atI l i
  | .tup l => atI l i
  | .wri l => atI l i
  | .str z => if z.length ≤ 10000 then (atI z.cps.toList i).map fun c => .str ⟨#[c]⟩ else none
  | _ => none
def gIx (r1 r2 : RV) : DE := fun ρ => match r1.see ρ, r2.see ρ with
  | some d, some (.int i) => match ixD d i with
    | some z => some (.ok (.dat z) ρ)
    | none => none
  | _, _ => none
theorem atI_reps {F : Hp} {vs : List V} {ds : List D} {i : Int} {d : D} (r : Reps K C F vs ds) (e : atI ds i = some d) : ∃ v, atI vs i = some v ∧ Rep K C F v d := by
  unfold atI at e ⊢
  rw [r.length]
  cases h : ixN ds.length i with
  | none => rw [h] at e; cases e
  | some j =>
    rw [h] at e
    exact r.at e
theorem o_ix : Op2 K C (rIx K) gIx := by
  intro B W z ρ σ F H x y r1 r2 Q p q1 q2 g
  unfold gIx at g
  split at g
  · rename_i d i e1 e2
    have yi := (q2.see p.st e2).int_inv
    split at g
    · rename_i z ez
      cases d with
      | lst l =>
        obtain ⟨a1, vs1, rfl, h1, z1⟩ := q1.parts p.st e1
        obtain ⟨v, ev, rv⟩ := atI_reps z1 ez
        exact .inl ⟨_, _, _, _, rfl, yi, SqL.of h1, ev, g _ F H p rv⟩
      | wri l =>
        obtain ⟨a1, vs1, rfl, h1, z1⟩ := q1.parts p.st e1
        obtain ⟨v, ev, rv⟩ := atI_reps z1 ez
        exact .inl ⟨_, _, _, _, rfl, yi, h1, ev, g _ F H p rv⟩
      | tup l =>
        obtain ⟨a1, vs1, rfl, h1, z1⟩ := q1.parts p.st e1
        obtain ⟨v, ev, rv⟩ := atI_reps z1 ez
        exact .inr (.inl ⟨_, _, _, _, rfl, yi, h1, ev, g _ F H p rv⟩)
      | str s =>
        unfold ixD at ez
        dsimp only at ez
        split at ez
        · rename_i hl
          cases hc : atI s.cps.toList i with
          | none => rw [hc] at ez; cases ez
          | some c =>
            rw [hc] at ez
            cases ez
            exact .inr (.inr ⟨s, i, c, (q1.see p.st e1).str_inv, yi, line10000 hl, hc, g _ F H p (.str _)⟩)
        · cases ez
      | _ => cases ez
    · exact False.elim g
  · exact False.elim g
end
end Pl
set_option Elab.async false
set_option linter.all false
set_option maxRecDepth 100000
set_option maxHeartbeats 4000000
/-! Data as the library's PyData: ==, in, repr; tests; displays; calls of built-ins. -/
namespace Pl
open PySem PySem.Spec PyProof.Rows L2 Tk
mutual
def D.py : D → PyData
  | .non => .none
  | .bl b => .bool b
  | .int i => .int i
  | .str x => .str x
  | .lst l => .list (D.pys l)
  | .wri l => .list (D.pys l)
  | .tup l => .tuple (D.pys l)
  | .obj _ _ => .dict []
  | .ty _ => .dict []
  | .cls _ => .dict []
def D.pys : List D → List PyData
  | [] => []
  | d :: r => d.py :: D.pys r
end
mutual
def D.isPy : D → Bool
  | .non => true
  | .bl _ => true
  | .int _ => true
  | .str _ => true
  | .lst l => D.arePy l
  | .wri l => D.arePy l
  | .tup l => D.arePy l
  | .obj _ _ => false
  | .ty _ => false
  | .cls _ => false
def D.arePy : List D → Bool
  | [] => true
  | d :: r => d.isPy && D.arePy r
end
theorem D.pys_eq : ∀ l : List D, D.pys l = l.map D.py
  | [] => rfl
  | d :: r => by rw [D.pys, D.pys_eq r, List.map_cons]
theorem D.arePy_iff : ∀ l : List D, D.arePy l = true ↔ ∀ d ∈ l, d.isPy = true
  | [] => by simp [D.arePy]
  | d :: r => by rw [D.arePy, Bool.and_eq_true, D.arePy_iff r]; simp
section
variable {K : PySem.W.Frag} {C : Cl} {F : Hp}
mutual
theorem Rep.dp : ∀ (d : D) (v : V), Rep K C F v d → d.isPy = true → Dp K F v d.py
  | .non, _, h, _ => by cases h; exact .non
  | .bl b, _, h, _ => by cases h; exact .bl b
  | .int i, _, h, _ => by cases h; exact .int i
  | .str x, _, h, _ => by cases h; exact .str x
  | .lst ds, _, h, e => by cases h with | lst q r => exact .lst (SqL.of q) (Reps.dp ds _ r e)
  | .wri ds, _, h, e => by cases h with | wri q r => exact .lst q (Reps.dp ds _ r e)
  | .tup ds, _, h, e => by cases h with | tup q r => exact .tup q (Reps.dp ds _ r e)
  | .obj _ _, _, _, e => by cases e
  | .ty _, _, _, e => by cases e
  | .cls _, _, _, e => by cases e
theorem Reps.dp : ∀ (ds : List D) (vs : List V), Reps K C F vs ds → D.arePy ds = true → DpAll K F vs (D.pys ds)
  | [], _, h, _ => by cases h; exact .nil
  | d :: ds, _, h, e => by
    rw [D.arePy, Bool.and_eq_true] at e
    cases h with
    | cons x r => exact .cons (Rep.dp d _ x e.1) (Reps.dp ds _ r e.2)
end
end

/-! ### == and != -/
/-- data that is compared as the library compares it -/
def D.plain (d : D) : Bool := d.isPy && SeqAt.shaped d.py
/-- scalars that the library compares at once -/
def sEq : D → D → Option Bool
  | .int i, .int j => some (decide (i = j))
  | .str i, .str j => some (decide (i = j))
  | .bl i, .bl j => some (decide (i = j))
  | .non, .non => some true
  | .non, .int _ => some false
  | .int _, .non => some false
  | .non, .bl _ => some false
  | .bl _, .non => some false
  | .non, .str _ => some false
  | .str _, .non => some false
  | .int _, .str _ => some false
  | .str _, .int _ => some false
  | .bl _, .str _ => some false
  | .str _, .bl _ => some false
  | _, _ => none
def dEq (a b : D) : Option Bool := match sEq a b with
  | some c => some c
  | none => if a.plain && b.plain then some (PyData.eqv a.py b.py) else none
def hEq (a b : D) : Option D := (dEq a b).map fun c => .bl c
def hNe (a b : D) : Option D := (dEq a b).map fun c => .bl !c
abbrev gEq := lift2 hEq
abbrev gNe := lift2 hNe
section
variable {K : PySem.W.Frag} {C : Cl} {X : Cx}
theorem sEq_scal {H : Hp} {x y : V} {a b : D} {c : Bool} (ra : Rep K C H x a) (rb : Rep K C H y b) (e : sEq a b = some c) : scal x y = true ∧ decide (x = y) = c := by
  cases ra <;> cases rb <;> first
    | (cases e; done)
    | (cases e; exact ⟨rfl, by simp⟩)
theorem op_eqA (hu : X.A.units + 64 < cLine) : OpR X (compareOp .Eq) (fun x y H Q => rEq x y H Q ∨ rEqD X.K x y H Q) := op_eq.or (op_eqD hu)
theorem op_neA (hu : X.A.units + 64 < cLine) : OpR X (compareOp .NotEq) (fun x y H Q => rNe x y H Q ∨ rNeD X.K x y H Q) := op_ne.or (op_neD hu)
theorem dEq_cases {a b : D} {c : Bool} (h : dEq a b = some c) : sEq a b = some c ∨ (a.isPy = true ∧ b.isPy = true ∧ SeqAt.shaped a.py = true ∧ SeqAt.shaped b.py = true ∧ PyData.eqv a.py b.py = c) := by
  unfold dEq at h
  split at h
  · rename_i c' e
    cases h
    exact .inl e
  · split at h
    · rename_i p
      cases h
      unfold D.plain at p
      simp only [Bool.and_eq_true] at p
      exact .inr ⟨p.1.1, p.2.1, p.1.2, p.2.2, rfl⟩
    · cases h
theorem o_eq : Op2 K C (fun x y H Q => rEq x y H Q ∨ rEqD K x y H Q) gEq := Sc2.op (by
  intro H x y a b d Q ra rb e q
  unfold hEq at e
  cases h : dEq a b with
  | none => rw [h] at e; cases e
  | some c =>
    rw [h] at e
    cases e
    rcases dEq_cases h with s | ⟨p1, p2, s1, s2, z⟩
    · obtain ⟨t1, t2⟩ := sEq_scal ra rb s
      refine .inl ⟨t1, ?_⟩
      rw [t2]
      exact q _ fun F => .bl _
    · refine .inr ⟨_, _, Rep.dp _ _ ra p1, Rep.dp _ _ rb p2, s1, s2, ?_⟩
      rw [z]
      exact q _ fun F => .bl _)
theorem o_ne : Op2 K C (fun x y H Q => rNe x y H Q ∨ rNeD K x y H Q) gNe := Sc2.op (by
  intro H x y a b d Q ra rb e q
  unfold hNe at e
  cases h : dEq a b with
  | none => rw [h] at e; cases e
  | some c =>
    rw [h] at e
    cases e
    rcases dEq_cases h with s | ⟨p1, p2, s1, s2, z⟩
    · obtain ⟨t1, t2⟩ := sEq_scal ra rb s
      refine .inl ⟨t1, ?_⟩
      rw [t2]
      exact q _ fun F => .bl _
    · refine .inr ⟨_, _, Rep.dp _ _ ra p1, Rep.dp _ _ rb p2, s1, s2, ?_⟩
      rw [z]
      exact q _ fun F => .bl _)

/-! ### is None -/
def isNon : D → Bool
  | .non => true
  | _ => false
def hIsN (a b : D) : Option D := match b with
  | .non => some (.bl (isNon a))
  | _ => none
def hNotN (a b : D) : Option D := match b with
  | .non => some (.bl (!isNon a))
  | _ => none
abbrev gIsN := lift2 hIsN
abbrev gNotN := lift2 hNotN
theorem Rep.isNon {F : Hp} {v : V} {d : D} (r : Rep K C F v d) : decide (v = .non) = isNon d := by
  cases r <;> simp [Pl.isNon]
theorem o_isN : Op2 K C (fun x y H Q => y = .non ∧ Q (.bl (decide (x = .non))) H) gIsN := Sc2.op (by
  intro H x y a b d Q ra rb e q
  unfold hIsN at e
  split at e
  · cases e
    refine ⟨rb.non_inv, ?_⟩
    rw [ra.isNon]
    exact q _ fun F => .bl _
  · cases e)
theorem o_notN : Op2 K C (fun x y H Q => y = .non ∧ Q (.bl (!decide (x = .non))) H) gNotN := Sc2.op (by
  intro H x y a b d Q ra rb e q
  unfold hNotN at e
  split at e
  · cases e
    refine ⟨rb.non_inv, ?_⟩
    rw [ra.isNon]
    exact q _ fun F => .bl _
  · cases e)
end

/-! ### a value that becomes data; tests; both, either, choice -/
def froze (f : DE) : DE := bindE f fun r ρ => match toDat r ρ with
  | some (.ok d ρ') => some (.ok (.dat d) ρ')
  | _ => none
def asB (f : DE) : Ef Bool := bindE f fun r ρ => match r.see ρ with
  | some (.bl b) => some (.ok b ρ)
  | _ => none
def dAndT (fa fb : Ef Bool) : Ef Bool := bindE fa fun c => if c = true then fb else retE false
def dOrT (fa fb : Ef Bool) : Ef Bool := bindE fa fun c => if c = true then retE true else fb
def dNotT (fa : Ef Bool) : Ef Bool := bindE fa fun c => retE (!c)
def dAndV (fa fb : DE) : DE := bindE (asB fa) fun c => if c = true then fb else retE (.dat (.bl false))
def dOrV (fa fb : DE) : DE := bindE (asB fa) fun c => if c = true then retE (.dat (.bl true)) else fb
def dNotV (fa : DE) : DE := bindE (asB fa) fun c => retE (.dat (.bl (!c)))
def dIfE (fc : Ef Bool) (fa fb : DE) : DE := bindE fc fun c => if c = true then fa else fb
section
variable {X : Cx} {C : Cl} {B : Bw} {W : WX} {a b c : Expr} {fa fb : DE} {ta tb : Ef Bool} {pos : Pos} {rest : List Expr}
theorem pd_frz (h : PD X C B W a fa) : PD X C B W a (froze fa) := PE.conv h fun σ H Q ⟨ρ, F, st, g⟩ => tG_bind (Post.start st) g fun r1 ρ1 v F1 H1 g1 p1 _ q1 => by
  try dsimp only at g1
  split at g1
  · rename_i d ρ' e
    obtain ⟨F2, p2, r2, _⟩ := p1.toDat q1 e
    exact g1 v F2 H1 p2 r2
  · exact False.elim g1
theorem asB_run {K : PySem.W.Frag} {σ : L2.St} {H : Hp} {Q : Bool → Hp → Prop} (h : tT K C B W (asB fa) σ H Q) : tD K C B W fa σ H fun x H1 => ∃ k, x = .bl k ∧ Q k H1 := by
  obtain ⟨ρ, F, st, g⟩ := h
  refine tG_bind (Post.start st) g fun r1 ρ1 v F1 H1 g1 p1 _ q1 => ?_
  try dsimp only at g1
  split at g1
  · rename_i k e
    exact ⟨k, (RepRV.see q1 p1.st e).bl_inv, g1 k F1 H1 p1 rfl⟩
  · exact False.elim g1
theorem pdt_val (h : PD X C B W a fa) (he : ∀ whole, isTrue a X.env whole = (do let v ← whole; standAt a.pos; holding [v] (truthy v)) := by intro _; rfl) : PDT X C B W a (asB fa) := PT.conv (pt_val h he) fun _ _ _ q => asB_run q
theorem pdt_cmp {r : R2} {g : RV → RV → DE} {op : CmpOp} (ho : OpR X (compareOp op) r) (og : Op2 X.K C r g) (ha : PD X C B W a fa) (hb : PD X C B W b fb) (hm : behindInMarks op b = false) : PDT X C B W (.Compare a [op] [b] pos) (asB (dBin g fa fb)) := PT.conv (pt_cmpR ho ha hb hm) fun σ H Q q => by
  have z := asB_run q
  exact op2_run (fa := fa) (fb := fb) og (C := C) (B := B) (W := W) z
theorem pdw_one_and (h : PDT X C B W a ta) : PDW X C B W (.BoolOp .And [a] pos) ta := pw_and1 h
theorem pdw_one_or (h : PDT X C B W a ta) : PDW X C B W (.BoolOp .Or [a] pos) ta := pw_or1 h
theorem pdw_and (ha : PDT X C B W a ta) (hb : PDW X C B W (.BoolOp .And (b :: rest) pos) tb) : PDW X C B W (.BoolOp .And (a :: b :: rest) pos) (dAndT ta tb) := PW.conv (pw_and ha hb) fun σ H Q ⟨ρ, F, st, g⟩ => tG_bind (Post.start st) g fun r1 ρ1 v F1 H1 g1 p1 _ q1 => by
  obtain rfl : v = r1 := q1
  cases v with
  | true => rw [if_pos rfl] at g1 ⊢; exact tG_last p1 g1
  | false => rw [if_neg Bool.false_ne_true] at g1 ⊢; exact g1 false F1 H1 p1 rfl
theorem pdw_or (ha : PDT X C B W a ta) (hb : PDW X C B W (.BoolOp .Or (b :: rest) pos) tb) : PDW X C B W (.BoolOp .Or (a :: b :: rest) pos) (dOrT ta tb) := PW.conv (pw_or ha hb) fun σ H Q ⟨ρ, F, st, g⟩ => tG_bind (Post.start st) g fun r1 ρ1 v F1 H1 g1 p1 _ q1 => by
  obtain rfl : v = r1 := q1
  cases v with
  | true => rw [if_pos rfl] at g1 ⊢; exact g1 true F1 H1 p1 rfl
  | false => rw [if_neg Bool.false_ne_true] at g1 ⊢; exact tG_last p1 g1
theorem pdt_w (h : PDW X C B W a ta) : PDT X C B W a ta := PW.pt h
theorem pdt_not (ha : PDT X C B W a ta) : PDT X C B W (.UnaryOp .Not a pos) (dNotT ta) := PT.conv (pt_not ha) fun σ H Q ⟨ρ, F, st, g⟩ => tG_bind (Post.start st) g fun r1 ρ1 v F1 H1 g1 p1 _ q1 => by
  obtain rfl : v = r1 := q1
  exact g1 _ F1 H1 p1 rfl
theorem pd_one {op} (h : PD X C B W a fa) : PD X C B W (.BoolOp op [a] pos) fa := pe_one h
theorem asB_bind {K : PySem.W.Frag} {z : At0} {F H : Hp} {ρ : Sl} {σ : L2.St} {Q : VK} {k : Bool → DE} {Qa : VK} (p : Post K C B z ρ F σ H) (g : Goal K C B W z σ Q (bindE (asB fa) k ρ))
    (h : ∀ c ρ1 F1 H1, Goal K C B W z σ Q (k c ρ1) → Post K C B z ρ1 F1 σ H1 → Qa (.bl c) H1) : tD K C B W fa σ H Qa := by
  have e : bindE (asB fa) k ρ = bindE fa (fun r => bindE (fun ρ => match r.see ρ with | some (.bl b) => some (.ok b ρ) | _ => none) k) ρ := by
    unfold bindE asB bindE
    cases fa ρ with
    | none => rfl
    | some o => cases o <;> rfl
  rw [e] at g
  refine tG_bind p g fun r1 ρ1 v F1 H1 g1 p1 _ q1 => ?_
  unfold bindE at g1
  try dsimp only at g1
  cases s : r1.see ρ1 with
  | none => rw [s] at g1; exact False.elim g1
  | some d =>
    rw [s] at g1
    cases d with
    | bl c =>
      rw [(RepRV.see q1 p1.st s).bl_inv]
      exact h c ρ1 F1 H1 g1 p1
    | _ => exact False.elim g1
theorem pd_and (ha : PD X C B W a fa) (hb : PD X C B W (.BoolOp .And (b :: rest) pos) fb) : PD X C B W (.BoolOp .And (a :: b :: rest) pos) (dAndV fa fb) := PE.conv (pe_and ha hb) fun σ H Q ⟨ρ, F, st, g⟩ => asB_bind (Post.start st) g fun c ρ1 F1 H1 g1 p1 => by
  refine ⟨c, rfl, ?_⟩
  cases c with
  | true => rw [if_pos rfl] at g1 ⊢; exact tG_last p1 g1
  | false => rw [if_neg Bool.false_ne_true] at g1 ⊢; exact g1 _ F1 H1 p1 (.bl false)
theorem pd_or (ha : PD X C B W a fa) (hb : PD X C B W (.BoolOp .Or (b :: rest) pos) fb) : PD X C B W (.BoolOp .Or (a :: b :: rest) pos) (dOrV fa fb) := PE.conv (pe_or ha hb) fun σ H Q ⟨ρ, F, st, g⟩ => asB_bind (Post.start st) g fun c ρ1 F1 H1 g1 p1 => by
  refine ⟨c, rfl, ?_⟩
  cases c with
  | true => rw [if_pos rfl] at g1 ⊢; exact g1 _ F1 H1 p1 (.bl true)
  | false => rw [if_neg Bool.false_ne_true] at g1 ⊢; exact tG_last p1 g1
theorem pd_not (ha : PD X C B W a fa) : PD X C B W (.UnaryOp .Not a pos) (dNotV fa) := PE.conv (pe_not ha) fun σ H Q ⟨ρ, F, st, g⟩ => asB_bind (Post.start st) g fun c ρ1 F1 H1 g1 p1 => ⟨c, rfl, g1 _ F1 H1 p1 (.bl _)⟩
theorem pd_if (hc : PDT X C B W c ta) (ha : PD X C B W a fa) (hb : PD X C B W b fb) : PD X C B W (.IfExp c a b pos) (dIfE ta fa fb) := PE.conv (pe_ifExp hc ha hb) fun σ H Q ⟨ρ, F, st, g⟩ => tG_bind (Post.start st) g fun r1 ρ1 v F1 H1 g1 p1 _ q1 => by
  obtain rfl : v = r1 := q1
  cases v with
  | true => rw [if_pos rfl] at g1 ⊢; exact tG_last p1 g1
  | false => rw [if_neg Bool.false_ne_true] at g1 ⊢; exact tG_last p1 g1
end

/-! ### lists of values, displays -/
def dNil : Ef (List RV) := retE []
def dCons (fa : DE) (fr : Ef (List RV)) : Ef (List RV) := bindE fa fun r => bindE fr fun rs => retE (r :: rs)
def allDat : List RV → Option (List D)
  | [] => some []
  | .dat d :: r => (allDat r).map fun ds => d :: ds
  | _ :: _ => none
theorem RepRVs.dats {K : PySem.W.Frag} {C : Cl} {z : At0} {F H : Hp} {ρ : Sl} {σ : L2.St} : ∀ {vs : List V} {rs : List RV} {ds : List D}, RepRVs K C z ρ F σ H vs rs → allDat rs = some ds → Reps K C F vs ds
  | _, _, _, .nil, e => by cases e; exact .nil
  | _, _, ds, .cons (r := r) (rs := rs) x t _, e => by
    cases r with
    | dat d =>
      unfold allDat at e
      cases h : allDat rs with
      | none => rw [h] at e; cases e
      | some l =>
        rw [h] at e
        cases e
        exact .cons x (t.dats h)
    | own m => cases e
    | bor i => cases e
    | shr i => cases e
def dTup (fl : Ef (List RV)) : DE := bindE fl fun rs ρ => match allDat rs with
  | some ds => if ds.length ≤ 1000 then some (.ok (.dat (.tup ds)) ρ) else none
  | none => none
def dLst (fl : Ef (List RV)) : DE := bindE fl fun rs ρ => match allDat rs with
  | some ds => if ds.length ≤ 1000 then some (.ok (.own (.lst ds)) ρ) else none
  | none => none
/-- a call by values makes g -/
def OpL (K : PySem.W.Frag) (C : Cl) (r : List V → Hp → VK → Prop) (g : List RV → DE) : Prop := ∀ (B : Bw) (W : WX) (z : At0) (ρ : Sl) (σ : L2.St) (F H : Hp) (vs : List V) (rs : List RV) (Q : VK),
  Post K C B z ρ F σ H → RepRVs K C z ρ F σ H vs rs → Goal K C B W z σ Q (g rs ρ) → r vs H Q
def dCall (g : List RV → DE) (fl : Ef (List RV)) : DE := bindE fl g
section
variable {X : Cx} {C : Cl} {B : Bw} {W : WX} {a e : Expr} {es : List Expr} {fa : DE} {fl : Ef (List RV)} {pos p : Pos} {x : Str} {id T : String} {r : List V → Hp → VK → Prop} {g : List RV → DE}
theorem pda_nil : PDA X C B W [] dNil := PA.conv pa_nil fun σ H Q ⟨ρ, F, st, g⟩ => g _ F H (Post.start st) .nil
theorem pda_cons (ha : PD X C B W a fa) (hr : PDA X C B W es fl) (hs : starEach (a :: es) X.env = (false, eval a X.env) :: starEach es X.env := by rfl) : PDA X C B W (a :: es) (dCons fa fl) := PA.conv (pa_cons ha hr hs) fun σ H Q ⟨ρ, F, st, g⟩ =>
  tG_bind (Post.start st) g fun r1 ρ1 v F1 H1 g1 p1 _ q1 => tG_bindR (k1 := kL X.K C) p1 g1 fun r2 ρ2 vs F2 H2 g2 p2 s2 q2 raw => g2 (v :: vs) F2 H2 p2 (.cons (RepRV.carry q1 s2) q2 (by
    rintro m rfl k m' a b x hk hv rfl f f2
    obtain ⟨a', ea, rm, no⟩ := q1
    cases ea
    obtain ⟨v', e, b', eb, rm', no'⟩ := RepRVs.at raw hk
    rw [hv] at e
    cases e
    cases eb
    have st : H2 a = H1 a := by
      obtain ⟨n, o, ho⟩ := rm.foot (Foot.root H1 a m)
      exact (s2.stays n ho fun y => (no a (Foot.root H1 a m)).1 y.held).1
    have f1 := (Foot.same st).mp f
    rcases (no' x f2).2 with y | y
    · exact (no x f1).1 (OwnA.held y)
    · obtain ⟨_, o, ho⟩ := rm.foot f1
      exact y.symm.trans ho |> fun w => by cases w))
theorem pd_tup {k} (h : PDA X C B W es fl) : PD X C B W (.Tuple es k pos) (dTup fl) := PE.conv (pe_tup h) fun σ H Q ⟨ρ, F, st, g⟩ => tG_bind (k1 := kL X.K C) (Post.start st) g fun rs ρ1 vs F1 H1 g1 p1 _ q1 => by
  try dsimp only at g1
  split at g1
  · rename_i ds e
    have q := RepRVs.dats q1 e
    split at g1
    · rename_i l
      exact ⟨by rw [q.length]; exact Nat.le_of_lt (small1000 l), fun a n => Goal.newT g1 p1 n q⟩
    · exact False.elim g1
  · exact False.elim g1
theorem pd_lst (h : PDA X C B W es fl) : PD X C B W (.List es pos) (dLst fl) := PE.conv (pe_lst h) fun σ H Q ⟨ρ, F, st, g⟩ => tG_bind (k1 := kL X.K C) (Post.start st) g fun rs ρ1 vs F1 H1 g1 p1 _ q1 => by
  try dsimp only at g1
  split at g1
  · rename_i ds e
    have q := RepRVs.dats q1 e
    split at g1
    · rename_i l
      exact ⟨by rw [q.length]; exact Nat.le_of_lt (small1000 l), fun a n => Goal.newL g1 p1 n q⟩
    · exact False.elim g1
  · exact False.elim g1
theorem opL_run (og : OpL X.K C r g) {σ : L2.St} {H : Hp} {Q : VK} (h : tD X.K C B W (dCall g fl) σ H Q) : tCB r (tL X.K C B W fl) σ H Q := by
  obtain ⟨ρ, F, st, g0⟩ := h
  exact tG_bind (k1 := kL X.K C) (Post.start st) g0 fun rs ρ1 vs F1 H1 g1 p1 _ q1 => og B W _ ρ1 σ F1 H1 vs rs Q p1 q1 g1
theorem pd_callB (hc : CallR X (.builtin id) r) (og : OpL X.K C r g) (hg : Gl X x) (hm : X.mg x = none) (hv : bootBuiltins x = some (.builtin id)) (ha : PDA X C B W (e :: es) fl) (hn : x ≠ "__name__" := by decide) (hdb : (x == ("__debug__" : Str)) = false := by decide)
    (he : starEach (e :: es) X.env = (false, eval e X.env) :: starEach es X.env := by rfl) (hpl : (backTo pos (starEach es X.env)).any (·.1) = false := by rfl) : PD X C B W (.Call (.Name x p) (e :: es) [] pos) (dCall g fl) := PE.conv (pe_callB hc hg hm hv ha hn hdb he hpl) fun _ _ _ h => opL_run og h
theorem pd_callTy (hc : CallR X (.type T) r) (og : OpL X.K C r g) (hg : Gl X x) (hm : X.mg x = none) (hv : bootBuiltins x = some (.type T)) (ha : PDA X C B W (e :: es) fl) (hn : x ≠ "__name__" := by decide) (hdb : (x == ("__debug__" : Str)) = false := by decide)
    (he : starEach (e :: es) X.env = (false, eval e X.env) :: starEach es X.env := by rfl) (hpl : (backTo pos (starEach es X.env)).any (·.1) = false := by rfl) : PD X C B W (.Call (.Name x p) (e :: es) [] pos) (dCall g fl) := PE.conv (pe_callTy hc hg hm hv ha hn hdb he hpl) fun _ _ _ h => opL_run og h
theorem pd_callM (hc : CallR X (.builtin id) r) (og : OpL X.K C r g) (hg : Gl X x) (hm : X.mg x = some (.builtin id)) (ha : PDA X C B W (e :: es) fl) (hdb : (x == ("__debug__" : Str)) = false := by decide)
    (he : starEach (e :: es) X.env = (false, eval e X.env) :: starEach es X.env := by rfl) (hpl : (backTo pos (starEach es X.env)).any (·.1) = false := by rfl) : PD X C B W (.Call (.Name x p) (e :: es) [] pos) (dCall g fl) := PE.conv (pe_callBfun hc hg hm ha hdb he hpl) fun _ _ _ h => opL_run og h
/-- a built-in class as a value -/
theorem pd_ty {T : String} (hg : Gl X x) (hm : X.mg x = none) (hv : bootBuiltins x = some (.type T)) (hn : x ≠ "__name__" := by decide) (hd : (x == ("__debug__" : Str)) = false := by decide) : PD X C B W (.Name x pos) (retE (.dat (.ty T))) := pd_const (pe_bltn (v := .ty T) hg hm hv rfl hn hd) fun _ => .ty T
/-- an own class as a value -/
theorem pd_cls {c : Nat} (hg : Gl X x) (hm : X.mg x = some (.ref (C.adr c))) (hd : (x == ("__debug__" : Str)) = false := by decide) : PD X C B W (.Name x pos) (retE (.dat (.cls c))) := pd_const (pe_glob (v := .ref (C.adr c)) hg hm rfl hd) fun _ => .cls c
end
end Pl
set_option Elab.async false
set_option linter.all false
set_option maxRecDepth 100000
set_option maxHeartbeats 4000000
/-! Built-ins by values; isinstance; repr. -/
namespace Pl
open PySem PySem.Spec PyProof.Rows L2 Tk
theorem CallR.or {X : Cx} {f : Value} {r r' : List V → Hp → VK → Prop} (h : CallR X f r) (h' : CallR X f r') : CallR X f (fun xs H Q => r xs H Q ∨ r' xs H Q) := by
  intro pins s σ H xs us Q I rx q
  rcases q with q | q
  · exact h pins s σ H xs us Q I rx q
  · exact h' pins s σ H xs us Q I rx q
section
variable {K : PySem.W.Frag} {C : Cl} {X : Cx}
/-- one value, seen as data -/
def on1 (h : D → Option D) : List RV → DE := fun rs ρ => match rs with
  | [r] => match r.see ρ with
    | some a => match h a with
      | some d => some (.ok (.dat d) ρ)
      | none => none
    | none => none
  | _ => none
def on2 (h : D → D → Option D) : List RV → DE := fun rs ρ => match rs with
  | [r, r'] => match r.see ρ, r'.see ρ with
    | some a, some b => match h a b with
      | some d => some (.ok (.dat d) ρ)
      | none => none
    | _, _ => none
  | _ => none
/-- what one value must bring -/
theorem on1_op {r : List V → Hp → VK → Prop} {h : D → Option D} (ok : ∀ (F H : Hp) (x : V) (a d : D) (Q : VK), RepP K C F H x a → h a = some d → (∀ v, (∀ F, Rep K C F v d) → Q v H) → r [x] H Q) : OpL K C r (on1 h) := by
  intro B W z ρ σ F H vs rs Q p q g
  unfold on1 at g
  split at g
  · rename_i r1
    cases q with
    | cons q1 qt _ =>
    cases qt
    split at g
    · rename_i a e
      split at g
      · rename_i d z
        exact ok F H _ a d Q (q1.parts p.st e) z fun v r => g v F H p (r F)
      · exact False.elim g
    · exact False.elim g
  · exact False.elim g
theorem on2_op {r : List V → Hp → VK → Prop} {h : D → D → Option D} (ok : ∀ (F H : Hp) (x y : V) (a b d : D) (Q : VK), RepP K C F H x a → RepP K C F H y b → h a b = some d → (∀ v, (∀ F, Rep K C F v d) → Q v H) → r [x, y] H Q) : OpL K C r (on2 h) := by
  intro B W z ρ σ F H vs rs Q p q g
  unfold on2 at g
  split at g
  · rename_i r1 r2
    cases q with
    | cons q1 qt _ =>
    cases qt with
    | cons q2 qt _ =>
    cases qt
    split at g
    · rename_i a b e1 e2
      split at g
      · rename_i d z
        exact ok F H _ _ a b d Q (q1.parts p.st e1) (q2.parts p.st e2) z fun v r => g v F H p (r F)
      · exact False.elim g
    · exact False.elim g
  · exact False.elim g

def hLen : D → Option D
  | .lst l => some (.int l.length)
  | .wri l => some (.int l.length)
  | .tup l => some (.int l.length)
  | .str z => if z.length ≤ 10000 then some (.int z.length) else none
  | _ => none
theorem o_len : OpL K C (fun xs H Q => ∃ x n, xs = [x] ∧ LenV K x H n ∧ Q (.int n) H) (on1 hLen) := on1_op (by
  intro F H x a d Q r e q
  unfold hLen at e
  split at e
  · cases e
    obtain ⟨p, vs, rfl, h, z⟩ := r
    exact ⟨_, vs.length, rfl, .inl ⟨_, SqL.of h, rfl⟩, by rw [z.length]; exact q _ fun F => .int _⟩
  · cases e
    obtain ⟨p, vs, rfl, h, z⟩ := r
    exact ⟨_, vs.length, rfl, .inl ⟨_, h, rfl⟩, by rw [z.length]; exact q _ fun F => .int _⟩
  · cases e
    obtain ⟨p, vs, rfl, h, z⟩ := r
    exact ⟨_, vs.length, rfl, .inr ⟨_, h, rfl⟩, by rw [z.length]; exact q _ fun F => .int _⟩
  · rename_i z
    split at e
    · rename_i l
      cases e
      cases r.str_inv
      exact ⟨_, z.length, rfl, ⟨line10000 l, rfl⟩, q _ fun F => .int _⟩
    · cases e
  · cases e)
def hAbs : D → Option D
  | .int i => some (.int (if i < 0 then -i else i))
  | _ => none
theorem o_abs : OpL K C (fun xs H Q => ∃ i, xs = [.int i] ∧ Q (.int (if i < 0 then -i else i)) H) (on1 hAbs) := on1_op (by
  intro F H x a d Q r e q
  unfold hAbs at e
  split at e
  · cases e
    cases r.int_inv
    exact ⟨_, rfl, q _ fun F => .int _⟩
  · cases e)
def hInt : D → Option D
  | .int i => some (.int i)
  | .bl b => some (.int (if b then 1 else 0))
  | _ => none
theorem o_int : OpL K C (fun xs H Q => (∃ i, xs = [.int i] ∧ Q (.int i) H) ∨ ∃ k, xs = [.bl k] ∧ Q (.int (if k then 1 else 0)) H) (on1 hInt) := on1_op (by
  intro F H x a d Q r e q
  unfold hInt at e
  split at e
  · cases e
    cases r.int_inv
    exact .inl ⟨_, rfl, q _ fun F => .int _⟩
  · cases e
    cases r.bl_inv
    exact .inr ⟨_, rfl, q _ fun F => .int _⟩
  · cases e)
def hMax2 : D → D → Option D := hI fun i j => some (.int (if j > i then j else i))
def hMin2 : D → D → Option D := hI fun i j => some (.int (if j < i then j else i))
theorem o_max2 : OpL K C (fun xs H Q => ∃ i j, xs = [.int i, .int j] ∧ Q (.int (if j > i then j else i)) H) (on2 hMax2) := on2_op (by
  intro F H x y a b d Q r1 r2 e q
  obtain ⟨i, j, rfl, rfl, h⟩ := hI_inv e
  cases h
  cases r1.int_inv
  cases r2.int_inv
  exact ⟨_, _, rfl, q _ fun F => .int _⟩)
theorem o_min2 : OpL K C (fun xs H Q => ∃ i j, xs = [.int i, .int j] ∧ Q (.int (if j < i then j else i)) H) (on2 hMin2) := on2_op (by
  intro F H x y a b d Q r1 r2 e q
  obtain ⟨i, j, rfl, rfl, h⟩ := hI_inv e
  cases h
  cases r1.int_inv
  cases r2.int_inv
  exact ⟨_, _, rfl, q _ fun F => .int _⟩)
def hGcd : D → D → Option D := hI fun i j => some (.int ((Nat.gcd i.natAbs j.natAbs : Nat) : Int))
def cLcm (i j : Int) : Bool := decide (i.natAbs < 2 ^ 64) && decide (j.natAbs < 2 ^ 64)
def hLcm : D → D → Option D := hI fun i j => if cLcm i j = true then some (.int ((Nat.lcm i.natAbs j.natAbs : Nat) : Int)) else none
theorem o_gcd : OpL K C rGcd (on2 hGcd) := on2_op (by
  intro F H x y a b d Q r1 r2 e q
  obtain ⟨i, j, rfl, rfl, h⟩ := hI_inv e
  cases h
  cases r1.int_inv
  cases r2.int_inv
  exact ⟨_, _, rfl, q _ fun F => .int _⟩)
theorem o_lcm : OpL K C rLcm (on2 hLcm) := on2_op (by
  intro F H x y a b d Q r1 r2 e q
  obtain ⟨i, j, rfl, rfl, h⟩ := hI_inv e
  split at h
  · rename_i c
    unfold cLcm at c
    simp only [Bool.and_eq_true, decide_eq_true_eq] at c
    cases h
    cases r1.int_inv
    cases r2.int_inv
    exact ⟨_, _, rfl, c.1, c.2, q _ fun F => .int _⟩
  · cases h)
/-- whole numbers alone -/
def wholes : List D → Option (List Int)
  | [] => some []
  | .int i :: r => (wholes r).map fun l => i :: l
  | _ :: _ => none
theorem Reps.ints_ {F : Hp} : ∀ {vs : List V} {ds : List D} {ns : List Int}, Reps K C F vs ds → Pl.wholes ds = some ns → vs = ns.map V.int
  | _, _, _, .nil, e => by cases e; rfl
  | _, _, ns, .cons (d := d) (ds := ds) x r, e => by
    cases d with
    | int i =>
      unfold Pl.wholes at e
      cases h : Pl.wholes ds with
      | none => rw [h] at e; cases e
      | some l =>
        rw [h] at e
        cases e
        rw [x.int_inv, r.ints_ h]
        rfl
    | _ => cases e
def D.nums (d : D) : Option (List Int) := d.items.bind wholes
theorem RepP.nums {F H : Hp} {v : V} {d : D} {ns : List Int} (r : RepP K C F H v d) (e : d.nums = some ns) : ∃ a, v = .ref a ∧ (SqL K H a (ns.map V.int) ∨ SqT K H a (ns.map V.int)) := by
  unfold D.nums at e
  cases h : d.items with
  | none => rw [h] at e; cases e
  | some l =>
    rw [h] at e
    obtain ⟨a, vs, rfl, s, z⟩ := r.seq h
    rw [z.ints_ e] at s
    exact ⟨a, rfl, s⟩
def hSum (d : D) : Option D := d.nums.map fun ns => .int ns.sum
theorem o_sum : OpL K C (rSumE K) (on1 hSum) := on1_op (by
  intro F H x a d Q r e q
  unfold hSum at e
  cases h : a.nums with
  | none => rw [h] at e; cases e
  | some ns =>
    rw [h] at e
    cases e
    obtain ⟨p, rfl, s⟩ := r.nums h
    exact ⟨p, ns, rfl, s, q _ fun F => .int _⟩)
def maxI : List Int → Int
  | [] => 0
  | [i] => i
  | i :: r => let m := maxI r; if m ≥ i then m else i
def minI : List Int → Int
  | [] => 0
  | [i] => i
  | i :: r => let m := minI r; if m ≤ i then m else i
theorem maxI_cons (i j : Int) (r : List Int) : maxI (i :: j :: r) = if maxI (j :: r) ≥ i then maxI (j :: r) else i := rfl
theorem minI_cons (i j : Int) (r : List Int) : minI (i :: j :: r) = if minI (j :: r) ≤ i then minI (j :: r) else i := rfl
theorem maxI_spec : ∀ l : List Int, 0 < l.length → maxI l ∈ l ∧ ∀ y ∈ l, y ≤ maxI l
  | [], h => absurd h (by decide)
  | [i], _ => ⟨by simp [maxI], fun y hy => by rw [List.mem_singleton.mp hy]; exact Int.le_refl _⟩
  | i :: j :: r, _ => by
    obtain ⟨h1, h2⟩ := maxI_spec (j :: r) (by simp)
    rw [maxI_cons]
    split
    · exact ⟨List.mem_cons_of_mem _ h1, fun y hy => by
        rcases List.mem_cons.mp hy with rfl | hy
        · assumption
        · exact h2 y hy⟩
    · exact ⟨List.mem_cons_self, fun y hy => by
        rcases List.mem_cons.mp hy with rfl | hy
        · exact Int.le_refl _
        · have := h2 y hy; omega⟩
theorem minI_spec : ∀ l : List Int, 0 < l.length → minI l ∈ l ∧ ∀ y ∈ l, minI l ≤ y
  | [], h => absurd h (by decide)
  | [i], _ => ⟨by simp [minI], fun y hy => by rw [List.mem_singleton.mp hy]; exact Int.le_refl _⟩
  | i :: j :: r, _ => by
    obtain ⟨h1, h2⟩ := minI_spec (j :: r) (by simp)
    rw [minI_cons]
    split
    · exact ⟨List.mem_cons_of_mem _ h1, fun y hy => by
        rcases List.mem_cons.mp hy with rfl | hy
        · assumption
        · exact h2 y hy⟩
    · exact ⟨List.mem_cons_self, fun y hy => by
        rcases List.mem_cons.mp hy with rfl | hy
        · exact Int.le_refl _
        · have := h2 y hy; omega⟩
def hMaxL (d : D) : Option D := match d with
  | .lst l => match wholes l with
    | some ns => if 0 < ns.length then some (.int (maxI ns)) else none
    | none => none
  | _ => none
def hMinL (d : D) : Option D := match d with
  | .lst l => match wholes l with
    | some ns => if 0 < ns.length then some (.int (minI ns)) else none
    | none => none
  | _ => none
theorem o_maxL : OpL K C (rMax K) (on1 hMaxL) := on1_op (by
  intro F H x a d Q r e q
  unfold hMaxL at e
  split at e
  · rename_i l
    split at e
    · rename_i ns h
      split at e
      · rename_i n0
        cases e
        obtain ⟨p, vs, rfl, s, z⟩ := r
        rw [z.ints_ h] at s
        obtain ⟨m1, m2⟩ := maxI_spec ns n0
        refine ⟨p, ns, rfl, SqL.of s, n0, fun m hm hy => ?_⟩
        have : m = maxI ns := Int.le_antisymm (m2 m hm) (hy _ m1)
        rw [this]
        exact q _ fun F => .int _
      · cases e
    · cases e
  · cases e)
theorem o_minL : OpL K C (rMin K) (on1 hMinL) := on1_op (by
  intro F H x a d Q r e q
  unfold hMinL at e
  split at e
  · rename_i l
    split at e
    · rename_i ns h
      split at e
      · rename_i n0
        cases e
        obtain ⟨p, vs, rfl, s, z⟩ := r
        rw [z.ints_ h] at s
        obtain ⟨m1, m2⟩ := minI_spec ns n0
        refine ⟨p, ns, rfl, SqL.of s, n0, fun m hm hy => ?_⟩
        have : m = minI ns := Int.le_antisymm (hy _ m1) (m2 m hm)
        rw [this]
        exact q _ fun F => .int _
      · cases e
    · cases e
  · cases e)
/-- list(x), tuple(x) -/
def gListOf : List RV → DE := fun rs ρ => match rs with
  | [r] => match r.items ρ with
    | some l => some (.ok (.own (.lst l)) ρ)
    | none => none
  | _ => none
theorem o_listOf : OpL K C (fun xs H Q => ∃ p ys, xs = [.ref p] ∧ (SqL K H p ys ∨ SqT K H p ys) ∧ ∀ l, H l = none → Q (.ref l) (upd H l (.lst ys))) gListOf := by
  intro B W z ρ σ F H vs rs Q p q g
  unfold gListOf at g
  split at g
  · cases q with
    | cons q1 qt _ =>
    cases qt
    split at g
    · rename_i l e
      obtain ⟨a, ws, rfl, s, z⟩ := q1.items p.st e
      exact ⟨a, ws, rfl, s, fun b n => Goal.newL g p n z⟩
    · exact False.elim g
  · exact False.elim g
def gTupOf : List RV → DE := fun rs ρ => match rs with
  | [r] => match r.see ρ with
    | some (.lst l) => some (.ok (.dat (.tup l)) ρ)
    | some (.tup l) => some (.ok (.dat (.tup l)) ρ)
    | _ => none
  | _ => none
theorem o_tupOf : OpL K C (fun xs H Q => ∃ p ys, xs = [.ref p] ∧ ((SqL K H p ys ∧ ∀ l, H l = none → Q (.ref l) (upd H l (.tup ys))) ∨ (SqT K H p ys ∧ Q (.ref p) H))) gTupOf := by
  intro B W z ρ σ F H vs rs Q p q g
  unfold gTupOf at g
  split at g
  · cases q with
    | cons q1 qt _ =>
    cases qt
    split at g
    · rename_i l e
      obtain ⟨a, ws, rfl, s, z⟩ := q1.parts p.st e
      exact ⟨a, ws, rfl, .inl ⟨SqL.of s, fun b n => Goal.newT g p n z⟩⟩
    · rename_i l e
      have k := q1.keep p.st e fun _ z => by cases z
      obtain ⟨a, ws, rfl, s, z⟩ := q1.parts p.st e
      exact ⟨a, ws, rfl, .inr ⟨s, g _ F H p k⟩⟩
    · exact False.elim g
  · exact False.elim g
def hStr : D → Option D
  | .int i => if i.natAbs.log2 < 1920 then some (.str (toString i)) else none
  | _ => none
theorem o_strI : OpL K C (fun xs H Q => ∃ i : Int, xs = [.int i] ∧ i.natAbs.log2 < 1920 ∧ Q (.str (toString i)) H) (on1 hStr) := on1_op (by
  intro F H x a d Q r e q
  unfold hStr at e
  split at e
  · split at e
    · rename_i c
      cases e
      cases r.int_inv
      exact ⟨_, rfl, c, q _ fun F => .str _⟩
    · cases e
  · cases e)
/-- repr(x) -/
def hRepr (d : D) : Option D := if d.isPy && d.py.showable && !d.py.hasDict && decide (d.py.depth ≤ 60) && decide (d.py.shown.length ≤ 10000) then some (.str d.py.shown) else none
theorem o_repr : OpL K C (rRepr K) (on1 hRepr) := by
  intro B W z ρ σ F H vs rs Q p q g
  unfold on1 at g
  split at g
  · cases q with
    | cons q1 qt _ =>
    cases qt
    split at g
    · rename_i a e
      unfold hRepr at g
      split at g
      · rename_i d z
        split at z
        · rename_i c
          simp only [Bool.and_eq_true, decide_eq_true_eq, Bool.not_eq_true'] at c
          cases z
          exact ⟨_, _, rfl, Rep.dp _ _ (RepRV.see q1 p.st e) c.1.1.1.1, c.1.1.1.2, c.1.1.2, c.1.2, Nat.le_trans (Nat.add_le_add_right c.2 64) (by decide), g _ F H p (.str _)⟩
        · cases z
      · exact False.elim g
    · exact False.elim g
  · exact False.elim g

/-! ### isinstance -/
/-- what is known of the own classes -/
structure Kn (K : PySem.W.Frag) (C : Cl) (n : Nat) : Prop where
  cl : ∀ c, c < n → Cls K (C.adr c)
  ha : ∀ c, c < n → PySem.W.findIn K (.ref (C.adr c)) "__class__" = some (some (.builtin "object.__class__"))
  hn : PySem.W.specialIn K (.builtin "object.__class__") "__get__" = some (some (.builtin "getset_descriptor.__get__"))
  ht : PySem.W.takesIn K (.builtin "object.__class__") = some true
  hm : ∀ c, c < n → PySem.W.mroIn K (C.adr c) (.type "object") = some true
def kindD : D → Option String
  | .non => some "NoneType"
  | .bl _ => some "bool"
  | .int _ => some "int"
  | .str _ => some "str"
  | .lst _ => some "list"
  | .wri _ => none
  | .tup _ => some "tuple"
  | _ => none
theorem TyX_keep {K : PySem.W.Frag} {H : Hp} {v : V} {t : Value} {a : Addr} {o : HO} (h : TyX K H v t) (n : H a = none) : TyX K (upd H a o) v t := by
  have kp : ∀ {b : Addr} {u : HO}, H b = some u → upd H a o b = some u := fun {b u} e => by rw [upd_ne (ne_of_none e n)]; exact e
  cases h with
  | base h => exact .base (by
      cases h with
      | non => exact .non
      | bl b => exact .bl b
      | int i => exact .int i
      | str x => exact .str x
      | flt x => exact .flt x
      | lst e => exact .lst (kp e)
      | frz e => exact .frz (kp e)
      | tup e => exact .tup (kp e)
      | dK e => exact .dK (kp e)
      | dT e => exact .dT (kp e)
      | ins e a b c d f => exact .ins (kp e) a b c d f)
  | byt b => exact .byt b
  | set e => exact .set (kp e)
  | kList e c => exact .kList e c
  | kTuple e c => exact .kTuple e c
  | kDict e c => exact .kDict e c
  | fTuple e => exact .fTuple (kp e)
  | fDict e => exact .fDict (kp e)
theorem RepP.kind {F H : Hp} {v : V} {d : D} {n : String} (r : RepP K C F H v d) (e : kindD d = some n) : TyX K H v (.type n) := by
  cases d with
  | non => cases e; cases (show Rep K C F v .non from r); exact .base .non
  | bl b => cases e; cases (show Rep K C F v (.bl b) from r); exact .base (.bl b)
  | int i => cases e; cases (show Rep K C F v (.int i) from r); exact .base (.int i)
  | str x => cases e; cases (show Rep K C F v (.str x) from r); exact .base (.str x)
  | lst l => cases e; obtain ⟨a, vs, rfl, h, _⟩ := r; exact .base (.lst h)
  | tup l =>
    cases e
    obtain ⟨a, vs, rfl, h, _⟩ := r
    rcases h with (h | ⟨o, h⟩) | ⟨o, its, n, h, c, _⟩
    · exact .base (.tup h)
    · exact .fTuple h
    · exact .kTuple h c
  | _ => cases e
/-- is a value of kind n one of the built-in class m? -/
def isKind (n m : String) : Bool := decide (n = m) || (decide (n = "bool") && decide (m = "int"))
def hIsi (a b : D) : Option D := match b with
  | .ty m => if decide (m = "int") || decide (m = "bool") || decide (m = "str") || decide (m = "tuple") || decide (m = "list") then (kindD a).map fun n => .bl (isKind n m) else none
  | _ => none
theorem kit_plain {a : D} {n m : String} (e : kindD a = some n) (h : m = "int" ∨ m = "bool" ∨ m = "str" ∨ m = "tuple" ∨ m = "list") : PySem.W.kitOne K (.type n) (.type m) = some (isKind n m) := by
  have hn : n = "NoneType" ∨ n = "bool" ∨ n = "int" ∨ n = "str" ∨ n = "list" ∨ n = "tuple" := by
    cases a <;> simp [kindD] at e <;> subst e <;> simp
  rcases h with rfl | rfl | rfl | rfl | rfl <;> rcases hn with rfl | rfl | rfl | rfl | rfl | rfl <;> exact kit_ty (by decide +kernel)
theorem o_isi : OpL K C (rIsi K) (on2 hIsi) := on2_op (by
  intro F H x y a b d Q r1 r2 e q
  unfold hIsi at e
  split at e
  · rename_i m
    split at e
    · rename_i c
      simp only [Bool.or_eq_true, decide_eq_true_eq, or_assoc] at c
      cases h : kindD a with
      | none => rw [h] at e; cases e
      | some n =>
        rw [h] at e
        cases e
        cases (show Rep K C F y (.ty m) from r2)
        exact ⟨_, _, _, _, _, rfl, .ty m, r1.kind h, kit_plain h c, q _ fun F => .bl _⟩
    · cases e
  · cases e)
/-- is it of one of two built-in classes? -/
def hIsi2 (m m' : String) (a : D) : Option D := (kindD a).map fun n => .bl (isKind n m || isKind n m')
end
def plainTy (m : String) : Bool := decide (m = "int") || decide (m = "bool") || decide (m = "str") || decide (m = "tuple") || decide (m = "list")
def dIsi2 (m m' : String) (f : DE) : DE := bindE f fun r ρ => match r.see ρ with
  | some a => match hIsi2 m m' a with
    | some d => some (.ok (.dat d) ρ)
    | none => none
  | none => none
section
variable {X : Cx} {C : Cl} {B : Bw} {W : WX} {e : Expr} {f : DE} {p p1 p2 p3 pos : Pos} {k : Nat} {m m' : String}
theorem plain_or (h : plainTy m = true) : m = "int" ∨ m = "bool" ∨ m = "str" ∨ m = "tuple" ∨ m = "list" := by
  unfold plainTy at h
  simpa [or_assoc] using h
theorem pd_isi2 (hg : Gl X "isinstance") (hm : X.mg "isinstance" = none) (g1 : Gl X m) (m1 : X.mg m = none) (v1 : bootBuiltins m = some (.type m)) (g2 : Gl X m') (m2 : X.mg m' = none) (v2 : bootBuiltins m' = some (.type m')) (h : PD X C B W e f)
    (c1 : plainTy m = true := by decide) (c2 : plainTy m' = true := by decide) (n1 : (m : Str) ≠ "__name__" := by decide) (n2 : (m' : Str) ≠ "__name__" := by decide) (d1 : ((m : Str) == ("__debug__" : Str)) = false := by decide) (d2 : ((m' : Str) == ("__debug__" : Str)) = false := by decide)
    (he : starEach [e, .Tuple [.Name m p1, .Name m' p2] k p3] X.env = (false, eval e X.env) :: starEach [.Tuple [.Name m p1, .Name m' p2] k p3] X.env := by rfl) (hpl : (backTo pos (starEach [.Tuple [.Name m p1, .Name m' p2] k p3] X.env)).any (·.1) = false := by rfl) :
    PD X C B W (.Call (.Name "isinstance" p) [e, .Tuple [.Name m p1, .Name m' p2] k p3] [] pos) (dIsi2 m m' f) :=
  PE.conv (pe_callB call_isiT hg hm (by decide +kernel) (pa_cons h (pa_cons (pe_tup (pa_cons (pe_bltn (v := .ty m) g1 m1 v1 rfl n1 d1) (pa_cons (pe_bltn (v := .ty m') g2 m2 v2 rfl n2 d2) pa_nil))) pa_nil) he) (by decide) (by decide) he hpl) fun σ H Q ⟨ρ, F, st, g⟩ => tG_bind (k1 := kR X.K C) (Post.start st) g fun r1 ρ1 v F1 H1 ga pa _ q1 => by
    try dsimp only at ga
    split at ga
    · rename_i a e1
      split at ga
      · rename_i d e2
        refine ⟨by show 2 ≤ sizeLine; decide, fun t ht => ?_⟩
        unfold hIsi2 at e2
        cases hk : kindD a with
        | none => rw [hk] at e2; cases e2
        | some n =>
          rw [hk] at e2
          cases e2
          have pb := pa.newO ht (.tup [.ty m, .ty m'])
          have kd : TyX X.K (upd H1 t (.tup [.ty m, .ty m'])) v (.type n) := TyX_keep (q1.parts pa.st e1 |>.kind hk) ht
          refine ⟨v, t, _, _, [.type m, .type m'], _, rfl, upd_same, .cons (.ty _) (.cons (.ty _) .nil), kd, ?_, ga _ _ _ pb (.bl _)⟩
          have k1 : PySem.W.kitOne X.K (.type n) (.type m) = some (isKind n m) := kit_plain hk (plain_or c1)
          have k2 : PySem.W.kitOne X.K (.type n) (.type m') = some (isKind n m') := kit_plain hk (plain_or c2)
          cases h1 : isKind n m with
          | true => exact kitAny_cons (b := true) (by rw [k1, h1]) (fun h => by cases h) (fun _ => rfl)
          | false =>
            refine kitAny_cons (b := false) (by rw [k1, h1]) (fun _ => ?_) (fun h => by cases h)
            cases h2 : isKind n m' with
            | true => exact kitAny_cons (b := true) (by rw [k2, h2]) (fun h => by cases h) (fun _ => rfl)
            | false => exact kitAny_cons (b := false) (by rw [k2, h2]) (fun _ => kitAny_nil) (fun h => by cases h)
      · exact False.elim ga
    · exact False.elim ga
end
end Pl
set_option Elab.async false
set_option linter.all false
set_option maxRecDepth 100000
set_option maxHeartbeats 4000000
/-! Statements: what they make of the slots; loops. -/
namespace Pl
open PySem PySem.Spec PyProof.Rows L2 Tk
inductive Out where
  | nx (ρ : Sl) | rt (r : RV) (ρ : Sl) | bk (ρ : Sl) | ct (ρ : Sl) | exc (c : Nat) (fs : List (Str × D)) (ρ : Sl)
abbrev DS := Sl → Option Out
def GoalS (K : PySem.W.Frag) (C : Cl) (B : Bw) (W : WX) (z : At0) (E : Ends) : Option Out → Prop
  | some (.nx ρ) => ∀ σ F H, Post K C B z ρ F σ H → E.nx σ H
  | some (.bk ρ) => ∀ σ F H, Post K C B z ρ F σ H → E.bk σ H
  | some (.ct ρ) => ∀ σ F H, Post K C B z ρ F σ H → E.ct σ H
  | some (.rt r ρ) => ∀ v σ F H, Post K C B z ρ F σ H → RepRV K C z ρ F σ H v r → E.rt v H
  | some (.exc c fs ρ) => ∀ dd σ F H, Post K C B z ρ F σ H → ExcAt K C F H dd fs → W (.ref (C.adr c)) dd σ H
  | none => False
def tS (K : PySem.W.Frag) (C : Cl) (B : Bw) (W : WX) (g : DS) : TS := fun E σ H => ∃ ρ F, RepSt K C B ρ F σ H ∧ GoalS K C B W (here ρ F σ H) E (g ρ)
abbrev PDS (X : Cx) (C : Cl) (B : Bw) (W : WX) (st : Stmt) (g : DS) : Prop := PS X st (tS X.K C B W g)
abbrev PDSs (X : Cx) (C : Cl) (B : Bw) (W : WX) (st : List Stmt) (g : DS) : Prop := PSs X st (tS X.K C B W g)
theorem PS.conv {X : Cx} {st : Stmt} {t t' : TS} (h : PS X st t) (c : ∀ E σ H, t' E σ H → t E σ H) : PS X st t' := ⟨fun pins s σ H E I q => h.run pins s σ H E I (c E σ H q)⟩
theorem PSs.conv {X : Cx} {st : List Stmt} {t t' : TS} (h : PSs X st t) (c : ∀ E σ H, t' E σ H → t E σ H) : PSs X st t' := ⟨fun pins s σ H E I q => h.run pins s σ H E I (c E σ H q)⟩
/-- what is never reached needs no rule -/
def failS : DS := fun _ => none
theorem pds_fail {X : Cx} {C : Cl} {B : Bw} {W : WX} {st : Stmt} : PDS X C B W st failS := ⟨fun _ _ _ _ _ _ ⟨_, _, _, q⟩ => q.elim⟩
theorem pdss_fail {X : Cx} {C : Cl} {B : Bw} {W : WX} {st : List Stmt} : PDSs X C B W st failS := ⟨fun _ _ _ _ _ _ ⟨_, _, _, q⟩ => q.elim⟩
section
variable {K : PySem.W.Frag} {C : Cl} {B : Bw} {W : WX} {z : At0} {F1 H1 F H : Hp} {ρ ρ1 : Sl} {σ σ1 : L2.St} {E : Ends}
theorem GoalS.later {o : Option Out} (p : Post K C B z ρ1 F1 σ1 H1) (g : GoalS K C B W z E o) : GoalS K C B W (here ρ1 F1 σ1 H1) E o := by
  cases o with
  | none => exact g
  | some o =>
    cases o with
    | nx ρ => exact fun σ F H q => g σ F H (p.trans q)
    | bk ρ => exact fun σ F H q => g σ F H (p.trans q)
    | ct ρ => exact fun σ F H q => g σ F H (p.trans q)
    | rt r ρ => exact fun v σ F H q rv => g v σ F H (p.trans q) (RepRV.since p rv)
    | exc c fs ρ => exact fun dd σ F H q ex => g dd σ F H (p.trans q) ex
theorem tS_at {g : DS} (p : Post K C B z ρ1 F1 σ1 H1) (q : GoalS K C B W z E (g ρ1)) : tS K C B W g E σ1 H1 := ⟨ρ1, F1, p.st, q.later p⟩
/-- an expression, then what is made of it -/
def bindS {α : Type} (f : Ef α) (k : α → DS) : DS := fun ρ => match f ρ with
  | some (.ok a ρ') => k a ρ'
  | some (.exc c fs ρ') => some (.exc c fs ρ')
  | none => none
theorem tS_bindR {α β : Type} {k1 : Kd K C α β} {f : Ef α} {k : α → DS} {Qa : β → Hp → Prop} (p : Post K C B z ρ F σ H) (g : GoalS K C B W z E (bindS f k ρ))
    (h : ∀ r1 ρ1 v F1 H1, GoalS K C B W z E (k r1 ρ1) → Post K C B z ρ1 F1 σ H1 → Post K C B (here ρ F σ H) ρ1 F1 σ H1 → k1.rep z ρ1 F1 σ H1 v r1 → Qa v H1) : tG k1 B W f σ H Qa := by
  refine ⟨ρ, F, p.st, ?_⟩
  unfold bindS at g
  cases e : f ρ with
  | none => rw [e] at g; exact g
  | some r =>
    rw [e] at g
    cases r with
    | ok r1 ρ1 => exact fun v F1 H1 q rv => h r1 ρ1 v F1 H1 g (p.trans q) q (k1.since p rv)
    | exc c fs ρ1 => exact fun dd F1 H1 q ex => g dd σ F1 H1 (p.trans q) ex
theorem tS_bind {α β : Type} {k1 : Kd K C α β} {f : Ef α} {k : α → DS} {Qa : β → Hp → Prop} (p : Post K C B z ρ F σ H) (g : GoalS K C B W z E (bindS f k ρ))
    (h : ∀ r1 ρ1 v F1 H1, GoalS K C B W z E (k r1 ρ1) → Post K C B z ρ1 F1 σ H1 → k1.rep z ρ1 F1 σ H1 v r1 → Qa v H1) : tG k1 B W f σ H Qa :=
  tS_bindR p g fun r1 ρ1 v F1 H1 g1 p1 _ q1 => h r1 ρ1 v F1 H1 g1 p1 q1
end

/-! ### lists that are read only for a while -/
def locks : List Nat → Sl → Sl
  | [], ρ => ρ
  | i :: is, ρ => locks is (lock1 i ρ)
def mapO (f : Sl → Sl) : Option Out → Option Out
  | some (.nx ρ) => some (.nx (f ρ))
  | some (.bk ρ) => some (.bk (f ρ))
  | some (.ct ρ) => some (.ct (f ρ))
  | some (.rt r ρ) => some (.rt r (f ρ))
  | some (.exc c fs ρ) => some (.exc c fs (f ρ))
  | none => none
def lockedS : List Nat → DS → DS
  | [], g, ρ => g ρ
  | i :: is, g, ρ => if isOwnL i ρ = true then mapO (free1 i) (lockedS is g (lock1 i ρ)) else none
def mapR {α : Type} (f : Sl → Sl) : Option (Res α) → Option (Res α)
  | some (.ok a ρ) => some (.ok a (f ρ))
  | some (.exc c fs ρ) => some (.exc c fs (f ρ))
  | none => none
def lockedE : List Nat → DE → DE
  | [], g, ρ => g ρ
  | i :: is, g, ρ => if isOwnL i ρ = true then mapR (free1 i) (lockedE is g (lock1 i ρ)) else none
section
variable {K : PySem.W.Frag} {C : Cl} {B : Bw} {W : WX} {E : Ends}
theorem GoalS.unlock {z : At0} {ρ1 : Sl} {F1 H1 : Hp} {σ1 : L2.St} {i : Nat} {o : Option Out} (p : Post K C B z ρ1 F1 σ1 H1) (ow : isOwnL i ρ1 = true) (g : GoalS K C B W z E (mapO (free1 i) o)) : GoalS K C B W (here (lock1 i ρ1) F1 σ1 H1) E o := by
  cases o with
  | none => exact g
  | some o =>
    cases o with
    | nx ρ => exact fun σ F H q => g σ F H (p.unlock ow q)
    | bk ρ => exact fun σ F H q => g σ F H (p.unlock ow q)
    | ct ρ => exact fun σ F H q => g σ F H (p.unlock ow q)
    | rt r ρ => exact fun v σ F H q rv => g v σ F H (p.unlock ow q) (RepRV.unlock p rv)
    | exc c fs ρ => exact fun dd σ F H q ex => g dd σ F H (p.unlock ow q) ex
theorem lockedS_run {g : DS} : ∀ (is : List Nat) {z : At0} {ρ1 : Sl} {F1 H1 : Hp} {σ1 : L2.St}, Post K C B z ρ1 F1 σ1 H1 → GoalS K C B W z E (lockedS is g ρ1) → RepSt K C B (locks is ρ1) F1 σ1 H1 ∧ GoalS K C B W (here (locks is ρ1) F1 σ1 H1) E (g (locks is ρ1))
  | [], _, _, _, _, _, p, q => ⟨p.st, q.later p⟩
  | i :: is, _, ρ1, _, _, _, p, q => by
    unfold lockedS at q
    split at q
    · rename_i o
      exact lockedS_run is (Post.start (p.st.lock i)) (GoalS.unlock p o q)
    · exact q.elim
theorem GoalA.unlock {z : At0} {ρ1 : Sl} {F1 H1 : Hp} {σ1 : L2.St} {i : Nat} {o : Option (Res RV)} {Q : VK} (p : Post K C B z ρ1 F1 σ1 H1) (ow : isOwnL i ρ1 = true) (g : Goal K C B W z σ1 Q (mapR (free1 i) o)) : Goal K C B W (here (lock1 i ρ1) F1 σ1 H1) σ1 Q o := by
  cases o with
  | none => exact g
  | some o =>
    cases o with
    | ok r ρ => exact fun v F H q rv => g v F H (p.unlock ow q) (RepRV.unlock p rv)
    | exc c fs ρ => exact fun dd F H q ex => g dd F H (p.unlock ow q) ex
theorem Goal.later {z : At0} {ρ1 : Sl} {F1 H1 : Hp} {σ1 : L2.St} {o : Option (Res RV)} {Q : VK} (p : Post K C B z ρ1 F1 σ1 H1) (g : Goal K C B W z σ1 Q o) : Goal K C B W (here ρ1 F1 σ1 H1) σ1 Q o := by
  cases o with
  | none => exact g
  | some o =>
    cases o with
    | ok r ρ => exact fun v F H q rv => g v F H (p.trans q) (RepRV.since p rv)
    | exc c fs ρ => exact fun dd F H q ex => g dd F H (p.trans q) ex
theorem lockedE_run {g : DE} {Q : VK} : ∀ (is : List Nat) {z : At0} {ρ1 : Sl} {F1 H1 : Hp} {σ1 : L2.St}, Post K C B z ρ1 F1 σ1 H1 → Goal K C B W z σ1 Q (lockedE is g ρ1) → RepSt K C B (locks is ρ1) F1 σ1 H1 ∧ Goal K C B W (here (locks is ρ1) F1 σ1 H1) σ1 Q (g (locks is ρ1))
  | [], _, _, _, _, _, p, q => ⟨p.st, Goal.later p q⟩
  | i :: is, _, ρ1, _, _, _, p, q => by
    unfold lockedE at q
    split at q
    · rename_i o
      exact lockedE_run is (Post.start (p.st.lock i)) (GoalA.unlock p o q)
    · exact q.elim
/-- the locked slots' own things are among those of before -/
theorem own_locks : ∀ (is : List Nat) {ρ : Sl} {σ : L2.St} {H : Hp} {x : Addr}, OwnA (locks is ρ) σ H x → OwnA ρ σ H x
  | [], _, _, _, _, h => h
  | _ :: is, _, _, _, _, h => own_lock (own_locks is h)
end

def nxS : DS := fun ρ => some (.nx ρ)
def seqS (g1 g2 : DS) : DS := fun ρ => match g1 ρ with
  | some (.nx ρ') => g2 ρ'
  | o => o
def sExpr (f : DE) : DS := bindS f fun _ => nxS
def sRet (f : DE) : DS := bindS f fun r ρ => some (.rt r ρ)
def sIf (fc : Ef Bool) (g1 g2 : DS) : DS := bindS fc fun c => if c = true then g1 else g2
/-- the slot i gets r -/
def putR (i np : Nat) (r : RV) : DS := fun ρ => match r with
  | .dat d => some (.nx (ρ.set i (some (.dat d))))
  | .own m => if np ≤ i then some (.nx (ρ.set i (some (.own m)))) else none
  | .bor j => match toDat (.bor j) ρ with
    | some (.ok d ρ') => some (.nx (ρ'.set i (some (.dat d))))
    | _ => none
  | .shr _ => none
def sSet (i np : Nat) (f : DE) : DS := bindS f fun r => putR i np r
section
variable {X : Cx} {C : Cl} {B : Bw} {W : WX} {st : Stmt} {sts : List Stmt} {g g1 g2 : DS} {e c : Expr} {f : DE} {fc : Ef Bool} {pos pos' : Pos} {a b : List Stmt}
theorem pds_nil : PDSs X C B W [] nxS := PSs.conv pss_nil fun E σ H ⟨ρ, F, st, q⟩ => q σ F H (Post.start st)
theorem pds_cons (h1 : PDS X C B W st g1) (h2 : PDSs X C B W sts g2) : PDSs X C B W (st :: sts) (seqS g1 g2) := PSs.conv (pss_cons h1 h2) fun E σ H ⟨ρ, F, st, q⟩ => by
  refine ⟨ρ, F, st, ?_⟩
  unfold seqS at q
  cases h : g1 ρ with
  | none => rw [h] at q; exact q
  | some o =>
    rw [h] at q
    cases o with
    | nx ρ' => exact fun σ' F' H' p => tS_at p q
    | bk ρ' => exact q
    | ct ρ' => exact q
    | rt r ρ' => exact q
    | exc c fs ρ' => exact q
theorem pds_one (h1 : PDS X C B W st g1) : PDSs X C B W [st] g1 := PSs.conv (pss_one h1) fun _ _ _ q => q
theorem pds_pass : PDS X C B W (.Pass pos) nxS := PS.conv ps_pass fun E σ H ⟨ρ, F, st, q⟩ => q σ F H (Post.start st)
theorem pds_break : PDS X C B W (.Break pos) (fun ρ => some (.bk ρ)) := PS.conv ps_break fun E σ H ⟨ρ, F, st, q⟩ => q σ F H (Post.start st)
theorem pds_continue : PDS X C B W (.Continue pos) (fun ρ => some (.ct ρ)) := PS.conv ps_continue fun E σ H ⟨ρ, F, st, q⟩ => q σ F H (Post.start st)
theorem pds_expr (he : PD X C B W e f) (hs : swapsWith e none pos.line X.env = pure false := by rfl) : PDS X C B W (.Expr e pos) (sExpr f) := PS.conv (ps_expr he hs) fun E σ H ⟨ρ, F, st, q⟩ => tS_bind (k1 := kR X.K C) (Post.start st) q fun r1 ρ1 v F1 H1 q1 p1 _ => q1 σ F1 H1 p1
theorem pds_ret (he : PD X C B W e f) : PDS X C B W (.Return (some e) pos) (sRet f) := PS.conv (ps_ret he) fun E σ H ⟨ρ, F, st, q⟩ => tS_bind (k1 := kR X.K C) (Post.start st) q fun r1 ρ1 v F1 H1 q1 p1 rv => q1 v σ F1 H1 p1 rv
theorem pds_retN : PDS X C B W (.Return none pos) (fun ρ => some (.rt (.dat .non) ρ)) := PS.conv ps_retN fun E σ H ⟨ρ, F, st, q⟩ => q .non σ F H (Post.start st) .non
theorem pds_if (hc : PDT X C B W c fc) (ha : PDSs X C B W a g1) (hb : PDSs X C B W b g2) : PDS X C B W (.If c a b pos) (sIf fc g1 g2) := PS.conv (ps_if hc ha hb) fun E σ H ⟨ρ, F, st, q⟩ => tS_bind (k1 := kB X.K C) (Post.start st) q fun r1 ρ1 v F1 H1 q1 p1 rv => by
  obtain rfl : v = r1 := rv
  cases v with
  | true => rw [if_pos rfl] at q1 ⊢; exact tS_at p1 q1
  | false => rw [if_neg Bool.false_ne_true] at q1 ⊢; exact tS_at p1 q1
theorem put_run {K : PySem.W.Frag} {z : At0} {F H : Hp} {ρ : Sl} {σ : L2.St} {E : Ends} {i np : Nat} {r : RV} {v : V} (hn : B.np = np) (q : GoalS K C B W z E (putR i np r ρ)) (p : Post K C B z ρ F σ H) (rv : RepRV K C z ρ F σ H v r) : E.nx (σ.set i (some v)) H := by
  cases r with
  | dat d => exact q _ F H (p.setD rv)
  | own m =>
    unfold putR at q
    dsimp only at q
    split at q
    · rename_i h
      exact q _ F H (p.setN (by rw [hn]; exact h) rv)
    · exact False.elim q
  | bor j =>
    unfold putR at q
    dsimp only at q
    split at q
    · rename_i d ρ' e
      obtain ⟨F', p', r', _⟩ := p.toDat rv e
      exact q _ F' H (p'.setD r')
    · exact False.elim q
  | shr j => exact False.elim q
theorem set_run {K : PySem.W.Frag} {i np : Nat} {E : Ends} {σ : L2.St} {H : Hp} (hn : B.np = np) (h : tS K C B W (sSet i np f) E σ H) : tD K C B W f σ H fun x H1 => gName i x σ H1 E.nx := by
  obtain ⟨ρ, F, st, q⟩ := h
  exact tS_bind (k1 := kR K C) (Post.start st) q fun r1 ρ1 v F1 H1 q1 p1 rv => put_run hn q1 p1 rv
theorem pds_set {i np : Nat} {x : Str} (hn : B.np = np) (hN : X.N.Nodup) (hi : X.N[i]? = some x) (hx : Loc X.env.scope x) (he : PD X C B W e f) (hs : swapsWith e (some (.Name x pos')) pos.line X.env = pure false := by rfl) (hf : X.fn x = true ∨ X.env.scope.names.lookup x = some .local := by first | exact .inl rfl | exact .inr rfl | assumption) :
    PDS X C B W (.Assign [.Name x pos'] e pos) (sSet i np f) := PS.conv (ps_set hN hi hx he hs hf) fun E σ H h => set_run hn h
end

/-! ### a, b = x, y -/
def noBor : RV → Bool
  | .bor _ => false
  | .shr _ => false
  | _ => true
def sPar2 (i j np : Nat) (fl : Ef (List RV)) : DS := bindS fl fun rs => match rs with
  | [r, r'] => if noBor r && noBor r' then seqS (putR i np r) (putR j np r') else fun _ => none
  | _ => fun _ => none
def sPar3 (i j l np : Nat) (fl : Ef (List RV)) : DS := bindS fl fun rs => match rs with
  | [r, r', r''] => if noBor r && noBor r' && noBor r'' then seqS (putR i np r) (seqS (putR j np r') (putR l np r'')) else fun _ => none
  | _ => fun _ => none
section
variable {K : PySem.W.Frag} {C : Cl} {B : Bw} {W : WX} {z : At0} {F H : Hp} {ρ : Sl} {σ : L2.St} {E : Ends}
theorem held_setD {i : Nat} {d : D} {v : V} {x : Addr} (h : Held (ρ.set i (some (.dat d))) (σ.set i (some v)) H x) : Held ρ σ H x := by
  obtain ⟨j, s, m, a, e, t, q, f⟩ := h
  rcases set_cases e with ⟨_, y, _⟩ | ⟨n, y⟩
  · cases y; cases t
  · rw [sig_ne n] at q
    exact ⟨j, s, m, a, y, t, q, f⟩
theorem held_setN {i : Nat} {m0 : MO} {b x : Addr} (l : i < σ.length) (h : Held (ρ.set i (some (.own m0))) (σ.set i (some (.ref b))) H x) : Held ρ σ H x ∨ Foot H b m0 x := by
  obtain ⟨j, s, m, a, e, t, q, f⟩ := h
  rcases set_cases e with ⟨rfl, y, _⟩ | ⟨n, y⟩
  · cases y
    cases t
    rw [List.getElem?_set_self l] at q
    cases q
    exact .inr f
  · rw [sig_ne n] at q
    exact .inl ⟨j, s, m, a, y, t, q, f⟩
/-- a value put into a slot; the other values stay told -/
theorem put_one {i np : Nat} {r : RV} {v : V} {o : Option Out → Prop} {k : DS} (hn : B.np = np) (nb : noBor r = true) (q : GoalS K C B W z E (seqS (putR i np r) k ρ)) (p : Post K C B z ρ F σ H) (rv : RepRV K C z ρ F σ H v r) :
    ∃ ρ1, GoalS K C B W z E (k ρ1) ∧ Post K C B z ρ1 F (σ.set i (some v)) H ∧ ∀ (r' : RV) (w : V), noBor r' = true → RepRV K C z ρ F σ H w r' → (∀ m m' a b x, r = .own m → r' = .own m' → v = .ref a → w = .ref b → Foot H a m x → ¬ Foot H b m' x) → RepRV K C z ρ1 F (σ.set i (some v)) H w r' := by
  unfold seqS at q
  cases r with
  | bor k => cases nb
  | shr k => cases nb
  | dat d =>
    refine ⟨_, q, p.setD rv, fun r' w nb' rw' _ => ?_⟩
    cases r' with
    | bor k => cases nb'
    | shr k => cases nb'
    | dat d' => exact rw'
    | own m' =>
      obtain ⟨a, e, rm, no⟩ := rw'
      exact ⟨a, e, rm, fun x f => ⟨fun h => (no x f).1 (held_setD h), (no x f).2⟩⟩
  | own m =>
    by_cases hp : np ≤ i
    · have e : putR i np (.own m) ρ = some (.nx (ρ.set i (some (.own m)))) := by unfold putR; exact if_pos hp
      rw [e] at q
      refine ⟨_, q, p.setN (by rw [hn]; exact hp) rv, fun r' w nb' rw' ap => ?_⟩
      cases r' with
      | bor k => cases nb'
      | shr k => cases nb'
      | dat d' => exact rw'
      | own m' =>
        obtain ⟨b, rfl, rm0, no0⟩ := rv
        obtain ⟨a, rfl, rm, no⟩ := rw'
        refine ⟨a, rfl, rm, fun x f => ⟨fun h => ?_, (no x f).2⟩⟩
        by_cases l : i < σ.length
        · rcases held_setN l h with y | y
          · exact (no x f).1 y
          · exact ap m m' b a x rfl rfl rfl rfl y f
        · have e1 : ρ.set i (some (.own m)) = ρ := List.set_eq_of_length_le (by rw [← p.st.len]; omega)
          have e2 : σ.set i (some (.ref b)) = σ := List.set_eq_of_length_le (by omega)
          rw [e1, e2] at h
          exact (no x f).1 h
    · have e : putR i np (.own m) ρ = none := by unfold putR; exact if_neg hp
      rw [e] at q
      exact q.elim
end
section
variable {X : Cx} {C : Cl} {B : Bw} {W : WX}
theorem pds_par {i j np : Nat} {x y : Str} {a b : Expr} {fl : Ef (List RV)} {px py pt pos : Pos} {kt k2 pt2} (hn : B.np = np) (hc : X.calm = true) (hN : X.N.Nodup) (hi : X.N[i]? = some x) (hj : X.N[j]? = some y) (hij : i ≠ j)
    (hx : X.env.scope.names.lookup x = some .local) (hy : X.env.scope.names.lookup y = some .local) (ha : PDA X C B W [a, b] fl)
    (hw : swappedStores [.Tuple [.Name x px, .Name y py] kt pt] (.Tuple [a, b] k2 pt2) X.env = pure (some [x, y]))
    (hs : swapsWithSole [.Tuple [.Name x px, .Name y py] kt pt] (.Tuple [a, b] k2 pt2) pos.line X.env = pure false := by rfl) :
    PDS X C B W (.Assign [.Tuple [.Name x px, .Name y py] kt pt] (.Tuple [a, b] k2 pt2) pos) (sPar2 i j np fl) := PS.conv (ps_par hc hN hi hj hij hx hy ha hw hs) fun E σ H ⟨ρ, F, st, q⟩ => tS_bind (k1 := kL X.K C) (Post.start st) q fun rs ρ1 vs F1 H1 q1 p1 rv => by
  try dsimp only at q1
  split at q1
  · rename_i r r'
    split at q1
    · rename_i c
      have rv : RepRVs X.K C _ ρ1 F1 σ H1 vs [r, r'] := rv
      cases rv with
      | cons x1 t n1 =>
      cases t with
      | cons x2 t n2 =>
      cases t
      simp only [Bool.and_eq_true] at c
      refine ⟨_, _, rfl, ?_⟩
      obtain ⟨ρ2, q2, p2, k2⟩ := put_one (o := fun _ => True) hn c.1 q1 p1 x1
      exact put_run hn q2 p2 (k2 _ _ c.2 x2 fun m m' a b x e1 e2 e3 e4 f => n1 m e1 0 m' a b x (by rw [e2]; rfl) (by rw [e4]; rfl) e3 f)
    · exact False.elim q1
  · exact False.elim q1
theorem pds_par3 {i j l np : Nat} {x y w : Str} {a b c : Expr} {fl : Ef (List RV)} {px py pw pt pos : Pos} {kt k2 pt2} (hn : B.np = np) (hc : X.calm = true) (hN : X.N.Nodup) (hi : X.N[i]? = some x) (hj : X.N[j]? = some y) (hl : X.N[l]? = some w) (hij : i ≠ j) (hil : i ≠ l) (hjl : j ≠ l)
    (hx : X.env.scope.names.lookup x = some .local) (hy : X.env.scope.names.lookup y = some .local) (hz : X.env.scope.names.lookup w = some .local) (ha : PDA X C B W [a, b, c] fl)
    (hw : swappedStores [.Tuple [.Name x px, .Name y py, .Name w pw] kt pt] (.Tuple [a, b, c] k2 pt2) X.env = pure (some [x, y, w]))
    (hs : swapsWithSole [.Tuple [.Name x px, .Name y py, .Name w pw] kt pt] (.Tuple [a, b, c] k2 pt2) pos.line X.env = pure false := by rfl) :
    PDS X C B W (.Assign [.Tuple [.Name x px, .Name y py, .Name w pw] kt pt] (.Tuple [a, b, c] k2 pt2) pos) (sPar3 i j l np fl) := PS.conv (ps_par3 hc hN hi hj hl hij hil hjl hx hy hz ha hw hs) fun E σ H ⟨ρ, F, st, q⟩ => tS_bind (k1 := kL X.K C) (Post.start st) q fun rs ρ1 vs F1 H1 q1 p1 rv => by
  try dsimp only at q1
  split at q1
  · rename_i r r' r''
    split at q1
    · rename_i cc
      have rv : RepRVs X.K C _ ρ1 F1 σ H1 vs [r, r', r''] := rv
      cases rv with
      | cons x1 t n1 =>
      cases t with
      | cons x2 t n2 =>
      cases t with
      | cons x3 t n3 =>
      cases t
      simp only [Bool.and_eq_true] at cc
      refine ⟨_, _, _, rfl, ?_⟩
      obtain ⟨ρ2, q2, p2, k2⟩ := put_one (o := fun _ => True) hn cc.1.1 q1 p1 x1
      have y2 := k2 _ _ cc.1.2 x2 fun m m' a b x e1 e2 e3 e4 f => n1 m e1 0 m' a b x (by rw [e2]; rfl) (by rw [e4]; rfl) e3 f
      have y3 := k2 _ _ cc.2 x3 fun m m' a b x e1 e2 e3 e4 f => n1 m e1 1 m' a b x (by rw [e2]; rfl) (by rw [e4]; rfl) e3 f
      obtain ⟨ρ3, q3, p3, k3⟩ := put_one (o := fun _ => True) hn cc.1.2 q2 p2 y2
      exact put_run hn q3 p3 (k3 _ _ cc.2 y3 fun m m' a b x e1 e2 e3 e4 f => n2 m e1 0 m' a b x (by rw [e2]; rfl) (by rw [e4]; rfl) e3 f)
    · exact False.elim q1
  · exact False.elim q1
end

/-! ### targets -/
/-- into the slots js: h tells the slots behind -/
def tGt (K : PySem.W.Frag) (C : Cl) (B : Bw) (js : List Nat) (h : D → Sl → Option Sl) : TG := fun v σ H Q => ∃ ρ F d ρ', RepSt K C B ρ F σ H ∧ Rep K C F v d ∧ h d ρ = some ρ' ∧
  ∀ σ', (∀ vs : List Nat, (∀ j ∈ js, j ∈ vs) → wipe σ' vs = wipe σ vs) → Post K C B (here ρ F σ H) ρ' F σ' H → Q σ' H
abbrev PDG (X : Cx) (C : Cl) (B : Bw) (js : List Nat) (e : Expr) (h : D → Sl → Option Sl) : Prop := PG X e (tGt X.K C B js h)
theorem PG.conv {X : Cx} {e : Expr} {t t' : TG} (h : PG X e t) (c : ∀ v σ H Q, t' v σ H Q → t v σ H Q) : PG X e t' := ⟨fun pins s σ H v u Q I r q => h.run pins s σ H v u Q I r (c v σ H Q q)⟩
theorem wipe_set {σ : L2.St} {j : Nat} {x : Option V} : ∀ {vs : List Nat}, j ∈ vs → wipe (σ.set j x) vs = wipe σ vs
  | v :: vs, h => by
    show (wipe (σ.set j x) vs).set v none = (wipe σ vs).set v none
    by_cases hv : j ∈ vs
    · rw [wipe_set hv]
    · obtain rfl : j = v := by
        rcases List.mem_cons.mp h with z | z
        · exact z
        · exact (hv z).elim
      have go : ∀ vs : List Nat, j ∉ vs → (wipe (σ.set j x) vs).set j none = (wipe σ vs).set j none := by
        intro vs
        induction vs with
        | nil => intro _; show (σ.set j x).set j none = σ.set j none; rw [List.set_set]
        | cons u us ih =>
          intro hn
          have hu : u ≠ j := fun z => hn (by rw [z]; exact List.mem_cons_self)
          show ((wipe (σ.set j x) us).set u none).set j none = ((wipe σ us).set u none).set j none
          rw [List.set_comm _ _ hu, List.set_comm _ _ hu, ih fun z => hn (List.mem_cons_of_mem _ z)]
      exact go vs hv
def tgN (i : Nat) : D → Sl → Option Sl := fun d ρ => some (ρ.set i (some (.dat d)))
def setDs : List Nat → List D → Sl → Option Sl
  | [], [], ρ => some ρ
  | j :: js, d :: ds, ρ => setDs js ds (ρ.set j (some (.dat d)))
  | _, _, _ => none
def tgT (js : List Nat) : D → Sl → Option Sl := fun d ρ => match d with
  | .tup ds => setDs js ds ρ
  | _ => none
/-- the names of a pattern, from the left -/
def tGs (K : PySem.W.Frag) (C : Cl) (B : Bw) (js : List Nat) : TGs := fun vs σ H Q => ∃ ρ F ds ρ', RepSt K C B ρ F σ H ∧ Reps K C F vs ds ∧ setDs js ds ρ = some ρ' ∧
  ∀ σ', (∀ ws : List Nat, (∀ j ∈ js, j ∈ ws) → wipe σ' ws = wipe σ ws) → Post K C B (here ρ F σ H) ρ' F σ' H → Q σ' H
theorem PGs.conv {X : Cx} {es : List Expr} {t t' : TGs} (h : PGs X es t) (c : ∀ v σ H Q, t' v σ H Q → t v σ H Q) : PGs X es t' := ⟨fun pins s σ H vs us Q I r q => h.run pins s σ H vs us Q I r (c vs σ H Q q)⟩
section
variable {X : Cx} {C : Cl} {B : Bw} {W : WX} {pos : Pos}
theorem pdg_name {i : Nat} {x : Str} (h : PG X (.Name x pos) (gName i)) : PDG X C B [i] (.Name x pos) (tgN i) := PG.conv h fun v σ H Q ⟨ρ, F, d, ρ', st, r, e, q⟩ => by
  cases e
  exact q _ (fun vs hv => wipe_set (hv i List.mem_cons_self)) ((Post.start st).setD r)
theorem pdgs_nil : PGs X [] (tGs X.K C B []) := PGs.conv pgs_nil fun vs σ H Q ⟨ρ, F, ds, ρ', st, r, e, q⟩ => by
  cases r with
  | nil =>
    cases e
    exact ⟨rfl, q σ (fun _ _ => rfl) (Post.start st)⟩
  | cons _ _ => cases e
theorem pdgs_cons {i : Nat} {js : List Nat} {x : Str} {es : List Expr} (h : PG X (.Name x pos) (gName i)) (t : PGs X es (tGs X.K C B js)) (hz : (assignEach (.Name x pos :: es) X.env).map (·.2) = assign (.Name x pos) X.env :: (assignEach es X.env).map (·.2) := by rfl) : PGs X (.Name x pos :: es) (tGs X.K C B (i :: js)) := PGs.conv (pgs_cons h t hz) fun vs σ H Q ⟨ρ, F, ds, ρ', st, r, e, q⟩ => by
  cases r with
  | nil => cases e
  | @cons v0 vs0 d ds x r =>
    have p := (Post.start st).setD (i := i) x
    refine ⟨_, _, rfl, ρ.set i (some (.dat d)), F, ds, ρ', p.st, r, e, fun σ' w p' => q σ' (fun ws hw => ?_) (p.trans p')⟩
    rw [w ws fun j hj => hw j (List.mem_cons_of_mem _ hj), wipe_set (hw i List.mem_cons_self)]
theorem setDs_len : ∀ {js : List Nat} {ds : List D} {ρ ρ' : Sl}, setDs js ds ρ = some ρ' → ds.length = js.length
  | [], [], _, _, _ => rfl
  | _ :: _, _ :: _, _, _, e => congrArg Nat.succ (setDs_len e)
  | [], _ :: _, _, _, e => by cases e
  | _ :: _, [], _, _, e => by cases e
theorem pdg_tup {es : List Expr} {k : Nat} {js : List Nat} (hc : X.calm = true) (h : PGs X es (tGs X.K C B js)) (hn : (assignEach es X.env).length = js.length := by rfl) (hst : (assignEach es X.env).findIdx? (·.1) = none := by rfl) : PDG X C B js (.Tuple es k pos) (tgT js) := PG.conv (pg_tup hc h hn hst) fun v σ H Q ⟨ρ, F, d, ρ', st, r, e, q⟩ => by
  unfold tgT at e
  split at e
  · rename_i ds
    cases r with
    | tup er rr => exact ⟨_, _, rfl, Same.tup st.sub er, by rw [rr.length]; exact setDs_len e, ρ, F, ds, ρ', st, rr, e, q⟩
  · cases e
/-- target = value -/
def sAsg (h : D → Sl → Option Sl) (f : DE) : DS := bindS (froze f) fun r ρ => match r with
  | .dat d => match h d ρ with
    | some ρ' => some (.nx ρ')
    | none => none
  | _ => none
theorem pds_asg {tg e : Expr} {f : DE} {js : List Nat} {h : D → Sl → Option Sl} (he : PD X C B W e f) (hg : PDG X C B js tg h) (hs : swapsWithSole [tg] e pos.line X.env = pure false := by rfl) (hw : swappedStores [tg] e X.env = pure none := by rfl)
    (h1 : (assignEach [tg] X.env).map (·.2) = [assign tg X.env] := by rfl) : PDS X C B W (.Assign [tg] e pos) (sAsg h f) := PS.conv (ps_asg (pd_frz he) hg hs hw h1) fun E σ H ⟨ρ, F, st, q⟩ => tS_bind (k1 := kR X.K C) (Post.start st) q fun r1 ρ1 v F1 H1 q1 p1 rv => by
  try dsimp only at q1
  split at q1
  · rename_i d
    split at q1
    · rename_i ρ' e
      exact ⟨ρ1, F1, d, ρ', p1.st, rv, e, fun σ' _ p' => q1 σ' F1 H1 (p1.trans p')⟩
    · exact False.elim q1
  · exact False.elim q1
end

/-! ### what is walked -/
structure Grow (F1 H1 F2 H2 : Hp) : Prop where
  mono : Same F1 F2
  sub : Same F2 H2
  keep : Same H1 H2
  new : ∀ b o, F2 b = some o → F1 b = some o ∨ H1 b = none
/-- what stood at the start z, neither data nor held -/
def Foreign (z : At0) (x : Addr) : Prop := (∃ o, z.H x = some o) ∧ ¬ z.L x ∧ z.F x = none
/-- what is no slot's own thing in ρ (nor foreign to z) stands as in H1 -/
def Kept (z : At0) (ρ : Sl) (σ : L2.St) (H1 Ha : Hp) : Prop := ∀ x o, H1 x = some o → ¬ OwnA ρ σ H1 x → ¬ Foreign z x → Ha x = some o
theorem Foreign.later {K : PySem.W.Frag} {C : Cl} {B : Bw} {z : At0} {F1 H1 : Hp} {ρ1 : Sl} {σ1 : L2.St} (p : Post K C B z ρ1 F1 σ1 H1) {x : Addr} (h : Foreign z x) : Foreign (here ρ1 F1 σ1 H1) x := by
  obtain ⟨⟨o, ho⟩, n, f⟩ := h
  have nS : ¬ z.S x := fun y => n (p.good x y)
  refine ⟨⟨o, p.frame x o ho nS⟩, fun y => ?_, ?_⟩
  · rcases p.lowL x y with w | w
    · exact n w
    · rw [ho] at w; cases w
  · show F1 x = none
    cases y : F1 x with
    | none => rfl
    | some u =>
      rcases p.new x u y with w | w | w
      · rw [f] at w; cases w
      · rw [ho] at w; cases w
      · exact (nS w).elim
/-- what stands in the written part is no object of the heap -/
theorem inv_kfree {X : Cx} {pins : List (Addr × Obj)} {σ : L2.St} {H : Hp} {s : Shared} (I : L2.Inv X pins σ H s) {a : Addr} {o : Obj} (h : X.K.lookup a = some o) : H a = none := (I.env0.bs a o (I.ok.mod.kin a o h)).2
/-- for x in y, y a list or a tuple, told what is written -/
def iSeqK (K : PySem.W.Frag) (tl : TE) : TI := fun σ H R => tl σ H fun x H1 => ∃ a xs, x = .ref a ∧ SqE K H1 a xs ∧ ((∀ o, K.lookup a = some o → H1 a = none) → ∀ J, Walk J xs.length (At H1 a) (YAt xs) → R J H1)
def iEnumK (K : PySem.W.Frag) (ta : TA) : TI := fun σ H R => ta σ H fun vs H1 => ∃ a xs, vs = [.ref a] ∧ SqE K H1 a xs ∧ ((∀ o, K.lookup a = some o → H1 a = none) → ∀ J, Walk J xs.length (At H1 a) (YPair (fun i => some (.int (i : Nat))) (fun i => xs[i]?)) → R J H1)
theorem pi_seqK {X : Cx} {tg l : Expr} {tl : TE} (hl : PE X l tl) : PI X tg l (iSeqK X.K tl) := by
  constructor
  intro pins s σ H R I h
  refine thn (hl.run pins s σ H _ I h) ?_
  rintro v s1 ⟨x, H1, I1, r1, a, xs, rfl, sq, q⟩
  cases r1
  have free : ∀ b ∈ [s1.heap.objs.size], FpOk X pins H1 b := fun b hb => by
    obtain rfl := List.mem_singleton.mp hb
    exact I1.fpOk (Nat.le_refl _) (I1.hok.fresh (Nat.le_refl _))
  have kp : ∀ (u : Obj) b o, s1.heap.get? b = some o → (s1.heap.push u).get? b = some o := fun u b o e => Heap.get?_push_of_some _ e
  have q := q fun o h => inv_kfree I1 h
  rcases sq with sq | sq
  · obtain ⟨its, rv, isL, _⟩ := I1.list sq
    exact wpAny_pyIter_list isL.isList ⟨s1.heap.objs.size, [s1.heap.objs.size], _, _, H1, rfl, I1.kept (t' := s1.toks) (kp _), turn_list a _, ⟨_, Heap.get?_push_size _ rfl, rfl, rfl⟩, free, q _ (walk_list.mono (fun _ k => At.list sq k) fun _ _ _ _ _ _ y => y)⟩
  · obtain ⟨its, rv, isT, _⟩ := I1.tuple sq
    exact wpAny_pyIter_tuple (show s1.heap.IsTuple a its.toArray from isT) ⟨s1.heap.objs.size, [s1.heap.objs.size], _, _, H1, rfl, I1.kept (t' := s1.toks) (kp _), turn_tuple a _, ⟨_, Heap.get?_push_size _ rfl, rfl, rfl⟩, free, q _ (walk_tup.mono (fun _ k => At.tup sq k) fun _ _ _ _ _ _ y => y)⟩
theorem pi_enumK {X : Cx} {e : Expr} {ta : TA} {p pos tpos : Pos} {elts : List Expr} {kk : Nat} (hg : Gl X "enumerate") (hm : X.mg "enumerate" = none) (ha : PA X [e] ta) (hs : starEach [e] X.env = [(false, eval e X.env)] := by rfl) :
    PI X (.Tuple elts kk tpos) (.Call (.Name "enumerate" p) [e] [] pos) (iEnumK X.K ta) := by
  constructor
  intro pins s σ H R I h
  refine Call_ (ld_blt I hg hm boot_enumerate (PyProof.Rows.callWith_type1 (thn (ha.run pos pins s σ H _ I h) ?_) hs rfl))
  rintro us s1 ⟨vs, H1, I1, r1, a, xs, rfl, sq, q⟩
  obtain ⟨u, rfl, ru⟩ := vals1 r1
  cases ru
  have free : ∀ (h' : Heap), (∀ b o, s1.heap.get? b = some o → h'.get? b = some o) → ∀ b ∈ [s1.heap.objs.size + 1, s1.heap.objs.size], FpOk X pins H1 b := fun h' k b hb => by
    have le : s1.heap.objs.size ≤ b := by
      rcases List.mem_cons.mp hb with rfl | hb
      · exact Nat.le_succ _
      · obtain rfl := List.mem_singleton.mp hb
        exact Nat.le_refl _
    exact I1.fpOk le (I1.hok.fresh le)
  have q := q fun o h => inv_kfree I1 h
  rcases sq with sq | sq
  · obtain ⟨its, rv, isL, _⟩ := I1.list sq
    refine call_enumerate_list isL.isList fun h' en it sz k => wpAny_pyIter_enum en ?_
    exact ⟨s1.heap.objs.size + 1, [s1.heap.objs.size + 1, s1.heap.objs.size], _, _, H1, rfl, I1.kept (t' := s1.toks) k, turn_enum a _ _, ⟨⟨.none, en⟩, it, Nat.succ_ne_self _⟩, free h' k, q _ (walk_enum.mono (fun _ k => At.list sq k) fun _ _ _ _ _ _ y => y)⟩
  · obtain ⟨its, rv, isT, _⟩ := I1.tuple sq
    refine call_enumT (show s1.heap.IsTuple a its.toArray from isT) fun h' en it sz k => wpAny_pyIter_enum en ?_
    exact ⟨s1.heap.objs.size + 1, [s1.heap.objs.size + 1, s1.heap.objs.size], _, _, H1, rfl, I1.kept (t' := s1.toks) k, turnT a _ _, ⟨⟨.none, en⟩, it, Nat.succ_ne_self _⟩, free h' k, q _ (walkT.mono (fun _ k => At.tup sq k) fun _ _ _ _ _ _ y => y)⟩
/-- items, and the slots whose lists are read only meanwhile -/
abbrev Wk := List D × List Nat
def WalkD (K : PySem.W.Frag) (C : Cl) (z : At0) (ρ : Sl) (F1 : Hp) (σ : L2.St) (H1 : Hp) (J : It) (w : Wk) : Prop := ∃ (G : Hp → Prop) (Y : Nat → Hp → V → Hp → Prop), Walk J w.1.length G Y ∧ (∀ Fa Ha, Same F1 Fa → Same Fa Ha → Kept z (locks w.2 ρ) σ H1 Ha → G Ha) ∧
  ∀ i Fa Ha v Hb, Same F1 Fa → Same Fa Ha → Kept z (locks w.2 ρ) σ H1 Ha → Y i Ha v Hb → ∃ Fb d, w.1[i]? = some d ∧ Rep K C Fb v d ∧ Grow Fa Ha Fb Hb
theorem Kept.later {K : PySem.W.Frag} {C : Cl} {B : Bw} {z : At0} {F1 H1 : Hp} {ρ1 : Sl} {σ1 : L2.St} (p : Post K C B z ρ1 F1 σ1 H1) {ρ : Sl} {σ : L2.St} {H Ha : Hp} (k : Kept z ρ σ H Ha) : Kept (here ρ1 F1 σ1 H1) ρ σ H Ha := fun x o e n f => k x o e n fun y => f (y.later p)
def kI (K : PySem.W.Frag) (C : Cl) : Kd K C Wk It := ⟨WalkD K C, fun p ⟨G, Y, w, hG, hY⟩ => ⟨G, Y, w, fun Fa Ha s1 s2 k => hG Fa Ha s1 s2 (k.later p), fun i Fa Ha v Hb s1 s2 k => hY i Fa Ha v Hb s1 s2 (k.later p)⟩⟩
abbrev PDI (X : Cx) (C : Cl) (B : Bw) (W : WX) (tg iter : Expr) (f : Ef Wk) : Prop := PI X tg iter (tG (kI X.K C) B W f)
theorem PI.conv {X : Cx} {tg iter : Expr} {t t' : TI} (h : PI X tg iter t) (c : ∀ σ H R, t' σ H R → t σ H R) : PI X tg iter t' := ⟨fun pins s σ H R I q => h.run pins s σ H R I (c σ H R q)⟩
section
variable {K : PySem.W.Frag} {C : Cl} {B : Bw} {W : WX} {z : At0} {F1 H1 F2 H2 F H : Hp} {ρ ρ1 : Sl} {σ σ1 : L2.St} {E : Ends}
theorem Post.grow (p : Post K C B z ρ F1 σ H1) (g : Grow F1 H1 F2 H2) : Post K C B z ρ F2 σ H2 := by
  have stay : ∀ {x : Addr}, Held ρ σ H1 x → H2 x = H1 x ∧ F2 x = none := fun {x} h => by
    obtain ⟨n, o, ho⟩ := p.st.held h
    refine ⟨(g.keep x o ho).trans ho.symm, ?_⟩
    cases y : F2 x with
    | none => rfl
    | some u =>
      rcases g.new x u y with w | w
      · rw [n] at w; cases w
      · rw [ho] at w; cases w
  have foot : ∀ {i : Nat} {s : SV} {m : MO} {a x : Addr}, ρ[i]? = some (some s) → thing s = some m → σ[i]? = some (some (.ref a)) → Foot H2 a m x → Foot H1 a m x := fun e t q f => (Foot.same (stay (Held.of e t q (Foot.root _ _ _))).1).mp f
  refine ⟨p.mono.trans g.mono, fun b o e s => g.keep b o (p.frame b o e s), fun b o e => ?_, ⟨p.st.len, g.sub, fun i d e => ?_, fun i s m e t => ?_, fun i j a b x m m' s n e1 e2 t q1 q2 f1 f2 => p.st.sep i j a b x m m' s n e1 e2 t q1 q2 (foot e1 rfl q1 f1) (foot e2 t q2 f2), p.st.fix⟩,
    fun x ⟨i, m, a, e, q, f⟩ => p.low x ⟨i, m, a, e, q, foot e rfl q f⟩, fun x ⟨i, s, m, a, e, t, q, f⟩ => p.lowL x ⟨i, s, m, a, e, t, q, foot e t q f⟩, p.good, p.lks⟩
  · rcases g.new b o e with h | h
    · exact p.new b o h
    · exact .inr (p.there h).symm
  · obtain ⟨v, e1, r⟩ := p.st.dat i d e
    exact ⟨v, e1, r.to g.mono⟩
  · obtain ⟨a, q, r⟩ := p.st.thg i s m e t
    exact ⟨a, q, r.to g.mono fun x f => stay (Held.of e t q f)⟩
theorem Grow.refl (s : Same F H) : Grow F H F H := ⟨Same.refl _, s, Same.refl _, fun _ _ e => .inl e⟩
theorem Grow.pair {x y : V} {dx dy : D} {T : Addr} (s : Same F H) (n : H T = none) (rx : Rep K C F x dx) (ry : Rep K C F y dy) : ∃ Fb, Rep K C Fb (.ref T) (.tup [dx, dy]) ∧ Grow F H Fb (upd H T (.tup [x, y])) := by
  have nF := s.free n
  have sF : Same F (upd F T (.tup [x, y])) := fun b u e => by rw [upd_ne (ne_of_none e nF)]; exact e
  refine ⟨upd F T (.tup [x, y]), .tup (SqT.of upd_same) (.cons (rx.to sF) (.cons (ry.to sF) .nil)), sF, fun b u e => ?_, fun b u e => by rw [upd_ne (ne_of_none e n)]; exact e, fun b u e => ?_⟩
  · by_cases h : b = T
    · subst h
      rw [upd_same] at e ⊢
      exact e
    · rw [upd_ne h] at e ⊢
      exact s b u e
  · by_cases h : b = T
    · subst h
      exact .inr n
    · rw [upd_ne h] at e
      exact .inl e
end
/-- a text's signs -/
def signsD (x : Str) : List D := x.cps.toList.map fun c => .str ⟨#[c]⟩
def walkedD : D → Option (List D)
  | .lst l => some l
  | .tup l => some l
  | _ => none
/-- what is walked, a list or a tuple: its items; the slot to be read only meanwhile -/
def walked (r : RV) (ρ : Sl) : Option Wk := match r with
  | .dat d => (walkedD d).map fun l => (l, [])
  | .own (.lst l) => some (l, [])
  | .bor i => match ρ[i]? with
    | some (some (.dat d)) => (walkedD d).map fun l => (l, [])
    | some (some (.own (.lst l))) => some (l, [i])
    | some (some (.lck (.lst l))) => some (l, [])
    | _ => none
  | _ => none
/-- a, its items, and that it is no slot's own thing while it is walked -/
def WalkAt (K : PySem.W.Frag) (C : Cl) (z : At0) (ρ : Sl) (F : Hp) (σ : L2.St) (H : Hp) (v : V) (w : Wk) : Prop := ∃ a vs, v = .ref a ∧ SqE K H a vs ∧ Reps K C F vs w.1 ∧ ((∀ o, K.lookup a = some o → H a = none) → ∀ o, H a = some o → ¬ OwnA (locks w.2 ρ) σ H a ∧ ¬ Foreign z a)
section
variable {K : PySem.W.Frag} {C : Cl} {B : Bw} {W : WX} {z : At0} {F1 H1 F2 H2 F H : Hp} {ρ ρ1 : Sl} {σ σ1 : L2.St} {E : Ends}
theorem data_near (p : Post K C B z ρ F σ H) {a : Addr} {o : HO} (h : F a = some o) : ¬ Foreign z a := fun f => by
  obtain ⟨⟨u, hu⟩, n, fr⟩ := f
  rcases p.new a o h with y | y | y
  · rw [fr] at y; cases y
  · rw [hu] at y; cases y
  · exact n (p.good a y)
theorem held_near (p : Post K C B z ρ F σ H) {a : Addr} (h : Held ρ σ H a) : ¬ Foreign z a := fun f => by
  obtain ⟨⟨u, hu⟩, n, fr⟩ := f
  rcases p.lowL a h with y | y
  · exact n y
  · rw [hu] at y; cases y
theorem walkedD_at {v : V} {d : D} {l : List D} (p : Post K C B z ρ F σ H) (r : Rep K C F v d) (e : walkedD d = some l) (is : List Nat) : WalkAt K C z ρ F σ H v (l, is) := by
  have no : ∀ {a : Addr} {o : HO}, F a = some o → ¬ OwnA (locks is ρ) σ H a := fun q h => by
    have := (p.st.held (OwnA.held (own_locks is h))).1
    rw [this] at q
    cases q
  cases r with
  | lst q r => cases e; exact ⟨_, _, rfl, .inl (SqL.of (p.st.sub _ _ q)), r, fun _ _ _ => ⟨no q, data_near p q⟩⟩
  | tup q r =>
    cases e
    refine ⟨_, _, rfl, .inr (Same.tup p.st.sub q), r, fun k o ho => ?_⟩
    rcases q with (q | ⟨u, q⟩) | ⟨u, its, n, q, _⟩
    · exact ⟨no q, data_near p q⟩
    · exact ⟨no q, data_near p q⟩
    · rw [k u q] at ho; cases ho
  | _ => cases e
theorem walked_at {v : V} {r : RV} {w : Wk} (p : Post K C B z ρ F σ H) (h : RepRV K C z ρ F σ H v r) (e : walked r ρ = some w) : WalkAt K C z ρ F σ H v w := by
  unfold walked at e
  split at e
  · rename_i d
    cases q : walkedD d with
    | none => rw [q] at e; cases e
    | some l => rw [q] at e; cases e; exact walkedD_at p h q []
  · rename_i l
    cases e
    obtain ⟨a, rfl, ⟨n, vs, ha, r⟩, no⟩ := h
    refine ⟨a, vs, rfl, .inl (SqL.of ha), r, fun _ _ _ => ⟨fun y => (no a rfl).1 (OwnA.held (own_locks [] y)), fun f => ?_⟩⟩
    obtain ⟨⟨u, hu⟩, nl, fr⟩ := f
    rcases (no a rfl).2 with y | y
    · exact nl (p.good a y)
    · rw [hu] at y; cases y
  · rename_i i
    have h : σ[i]? = some (some v) := h
    split at e
    · rename_i d q
      cases q2 : walkedD d with
      | none => rw [q2] at e; cases e
      | some l =>
        rw [q2] at e
        cases e
        obtain ⟨v', e1, r⟩ := p.st.dat i _ q
        rw [h] at e1
        cases e1
        exact walkedD_at p r q2 []
    · rename_i l q
      cases e
      obtain ⟨a, e1, rm⟩ := p.st.own q
      rw [h] at e1
      cases e1
      have ap := lock_apart p.st q h
      obtain ⟨n, vs, ha, r⟩ := rm
      exact ⟨a, vs, rfl, .inl (SqL.of ha), r, fun _ _ _ => ⟨ap, held_near p (Held.of q rfl h rfl)⟩⟩
    · rename_i l q
      cases e
      obtain ⟨a, e1, rm⟩ := p.st.thg i _ _ q rfl
      rw [h] at e1
      cases e1
      obtain ⟨n, vs, ha, r⟩ := rm
      refine ⟨a, vs, rfl, .inl (SqL.of ha), r, fun _ _ _ => ⟨?_, held_near p (Held.of q rfl h rfl)⟩⟩
      rintro ⟨j, m, b, e2, q2, f⟩
      have e2 : ρ[j]? = some (some (.own m)) := e2
      refine p.st.sep j i b a a m (.lst l) _ ?_ e2 q rfl q2 h f rfl
      rintro rfl
      rw [q] at e2
      cases e2
    · cases e
  · cases e
end
def dItems (f : DE) : Ef Wk := bindE f fun r ρ => match walked r ρ with
  | some w => some (.ok w ρ)
  | none => none
def enumL (l : List D) : List D := (List.range l.length).zipWith (fun (i : Nat) (d : D) => D.tup [.int (i : Int), d]) l
def dEnum (f : DE) : Ef Wk := bindE f fun r ρ => match walked r ρ with
  | some w => some (.ok (enumL w.1, w.2) ρ)
  | none => none
def rangeL (lo : Int) (n : Nat) : List D := (List.range n).map fun (i : Nat) => D.int (lo + i)
def dRange1 (f : DE) : Ef Wk := bindE f fun r ρ => match r.see ρ with
  | some (.int j) => if j.natAbs ≤ 100000 then some (.ok (rangeL 0 j.toNat, []) ρ) else none
  | _ => none
def dRange2 (f f' : DE) : Ef Wk := bindE f fun r => bindE f' fun r' ρ => match r.see ρ, r'.see ρ with
  | some (.int i), some (.int j) => if i.natAbs ≤ 100000 ∧ j.natAbs ≤ 100000 then some (.ok (rangeL i (j - i).toNat, []) ρ) else none
  | _, _ => none
def dSigns (f : DE) : Ef Wk := bindE f fun r ρ => match r.see ρ with
  | some (.str x) => some (.ok (signsD x, []) ρ)
  | _ => none
def zipL (l l' : List D) : List D := l.zipWith (fun d d' => D.tup [d, d']) l'
def dZip (f f' : DE) : Ef Wk := bindE f fun r => bindE f' fun r' ρ => match walked r ρ, walked r' ρ with
  | some w, some w' => if w.2 = [] ∧ w'.2 = [] then some (.ok (zipL w.1 w'.1, []) ρ) else none
  | _, _ => none
section
variable {X : Cx} {C : Cl} {B : Bw} {W : WX} {tg e e' : Expr} {f f' : DE} {p pos tpos : Pos}
theorem seq_walk {K : PySem.W.Frag} {z : At0} {ρ : Sl} {F1 H1 : Hp} {σ : L2.St} {a : Addr} {vs : List V} {w : Wk} (no : ∀ o, H1 a = some o → ¬ OwnA (locks w.2 ρ) σ H1 a ∧ ¬ Foreign z a) (r : Reps K C F1 vs w.1) (J : It) (wk : Walk J vs.length (At H1 a) (YAt vs)) : WalkD K C z ρ F1 σ H1 J w := by
  refine ⟨At H1 a, YAt vs, by rw [← r.length]; exact wk, fun Fa Ha s1 s2 kp u hu => kp a u hu (no u hu).1 (no u hu).2, fun i Fa Ha v Hb s1 s2 kp y => ?_⟩
  obtain ⟨rfl, hv⟩ := y
  obtain ⟨d, hd, rd⟩ := r.get hv
  exact ⟨Fa, d, hd, rd.to s1, Grow.refl s2⟩
theorem enum_walk {K : PySem.W.Frag} {z : At0} {ρ : Sl} {F1 H1 : Hp} {σ : L2.St} {a : Addr} {vs : List V} {w : Wk} (no : ∀ o, H1 a = some o → ¬ OwnA (locks w.2 ρ) σ H1 a ∧ ¬ Foreign z a) (r : Reps K C F1 vs w.1) (J : It) (wk : Walk J vs.length (At H1 a) (YPair (fun i => some (.int (i : Nat))) (fun i => vs[i]?))) : WalkD K C z ρ F1 σ H1 J (enumL w.1, w.2) := by
  have len : (enumL w.1).length = w.1.length := by unfold enumL; simp
  refine ⟨At H1 a, _, by show Walk J (enumL w.1).length _ _; rw [len, ← r.length]; exact wk, fun Fa Ha s1 s2 kp u hu => kp a u hu (no u hu).1 (no u hu).2, fun i Fa Ha v Hb s1 s2 kp y => ?_⟩
  obtain ⟨T, x, y', rfl, nT, rfl, hx, hz⟩ := y
  cases hx
  obtain ⟨d, hd, rd⟩ := r.get hz
  obtain ⟨Fb, rb, g⟩ := Grow.pair s2 nT (Rep.int (i : Nat)) (rd.to s1)
  refine ⟨Fb, _, ?_, rb, g⟩
  show (enumL w.1)[i]? = _
  unfold enumL
  rw [List.getElem?_zipWith, hd]
  have : i < w.1.length := (List.getElem?_eq_some_iff.mp hd).1
  simp [this]
theorem range_walk {K : PySem.W.Frag} {z : At0} {ρ : Sl} {F1 H1 : Hp} {σ : L2.St} {lo : Int} {n : Nat} : WalkD K C z ρ F1 σ H1 (Itr lo n) (rangeL lo n, []) := by
  have len : (rangeL lo n).length = n := by unfold rangeL; simp
  refine ⟨fun H => True ∧ True, fun i H x H' => i < n ∧ H' = H ∧ x = .int (lo + i), ?_, fun _ _ _ _ _ => ⟨trivial, trivial⟩, fun i Fa Ha v Hb s1 s2 kp y => ?_⟩
  · show Walk _ (rangeL lo n).length _ _
    rw [len]
    exact ⟨fun i _ hi _ => hi, fun _ _ => Nat.le_refl _, fun i _ _ _ hi _ y => ⟨hi, y⟩⟩
  · obtain ⟨hi, rfl, rfl⟩ := y
    refine ⟨Fa, .int (lo + i), ?_, .int _, Grow.refl s2⟩
    show (rangeL lo n)[i]? = _
    unfold rangeL
    simp [hi]
theorem signs_walk {K : PySem.W.Frag} {z : At0} {ρ : Sl} {F1 H1 : Hp} {σ : L2.St} {x : Str} : WalkD K C z ρ F1 σ H1 (Its x) (signsD x, []) := by
  have len : (signsD x).length = x.cps.size := by unfold signsD; simp
  refine ⟨_, _, by show Walk _ (signsD x).length _ _; rw [len]; exact walk_str, fun _ _ _ _ _ => trivial, fun i Fa Ha v Hb s1 s2 kp y => ?_⟩
  obtain ⟨rfl, c, hc, rfl⟩ := y
  refine ⟨Fa, .str ⟨#[c]⟩, ?_, .str _, Grow.refl s2⟩
  show (signsD x)[i]? = _
  unfold signsD
  rw [List.getElem?_map, Array.getElem?_toList, hc]
  rfl
theorem pdi_seq (h : PD X C B W e f) : PDI X C B W tg e (dItems f) := PI.conv (pi_seqK h) fun σ H R ⟨ρ, F, st, g⟩ => tG_bind (k1 := kR X.K C) (Post.start st) g fun r1 ρ1 v F1 H1 g1 p1 _ q1 => by
  try dsimp only at g1
  split at g1
  · rename_i w ew
    obtain ⟨a, vs, rfl, sq, rs, no⟩ := walked_at p1 q1 ew
    exact ⟨a, vs, rfl, sq, fun k J wk => g1 J F1 H1 p1 (seq_walk (no k) rs J wk)⟩
  · exact False.elim g1
theorem pdi_enum {elts : List Expr} {kk : Nat} (hg : Gl X "enumerate") (hm : X.mg "enumerate" = none) (h : PD X C B W e f) (hs : starEach [e] X.env = [(false, eval e X.env)] := by rfl) (he : starEach [e] X.env = (false, eval e X.env) :: starEach [] X.env := by rfl) : PDI X C B W (.Tuple elts kk tpos) (.Call (.Name "enumerate" p) [e] [] pos) (dEnum f) :=
  PI.conv (pi_enumK hg hm (pa_cons h pa_nil he) hs) fun σ H R ⟨ρ, F, st, g⟩ => tG_bind (k1 := kR X.K C) (Post.start st) g fun r1 ρ1 v F1 H1 g1 p1 _ q1 => by
    show ∃ a xs, [v] = [V.ref a] ∧ _
    try dsimp only at g1
    split at g1
    · rename_i w ew
      obtain ⟨a, vs, rfl, sq, rs, no⟩ := walked_at p1 q1 ew
      exact ⟨a, vs, rfl, sq, fun k J wk => g1 J F1 H1 p1 (enum_walk (no k) rs J wk)⟩
    · exact False.elim g1
theorem pdi_signs (h : PD X C B W e f) : PDI X C B W tg e (dSigns f) := PI.conv (pi_str h) fun σ H R ⟨ρ, F, st, g⟩ => tG_bind (k1 := kR X.K C) (Post.start st) g fun r1 ρ1 v F1 H1 g1 p1 _ q1 => by
  try dsimp only at g1
  split at g1
  · rename_i x ex
    exact ⟨x, (RepRV.see q1 p1.st ex).str_inv, g1 _ F1 H1 p1 signs_walk⟩
  · exact False.elim g1
theorem pdi_range1 (hg : Gl X "range") (hm : X.mg "range" = none) (h : PD X C B W e f) (hs : starEach [e] X.env = [(false, eval e X.env)] := by rfl) (he : starEach [e] X.env = (false, eval e X.env) :: starEach [] X.env := by rfl) : PDI X C B W tg (.Call (.Name "range" p) [e] [] pos) (dRange1 f) :=
  PI.conv (pi_range1 hg hm (pa_cons h pa_nil he) hs) fun σ H R ⟨ρ, F, st, g⟩ => tG_bind (k1 := kR X.K C) (Post.start st) g fun r1 ρ1 v F1 H1 g1 p1 _ q1 => by
    show ∃ j : Int, [v] = [V.int j] ∧ _
    try dsimp only at g1
    split at g1
    · rename_i j e
      split at g1
      · rename_i c
        rw [(RepRV.see q1 p1.st e).int_inv]
        exact ⟨j, rfl, by omega, by omega, g1 _ F1 H1 p1 (range_walk (H1 := H1))⟩
      · exact False.elim g1
    · exact False.elim g1
theorem pdi_range2 (hg : Gl X "range") (hm : X.mg "range" = none) (h : PD X C B W e f) (h' : PD X C B W e' f') (hs : starEach [e, e'] X.env = [(false, eval e X.env), (false, eval e' X.env)] := by rfl) (hs2 : starEach [e'] X.env = [(false, eval e' X.env)] := by rfl) (he : starEach [e, e'] X.env = (false, eval e X.env) :: starEach [e'] X.env := by rfl) (he' : starEach [e'] X.env = (false, eval e' X.env) :: starEach [] X.env := by rfl) : PDI X C B W tg (.Call (.Name "range" p) [e, e'] [] pos) (dRange2 f f') :=
  PI.conv (pi_range2 hg hm (pa_cons h (pa_cons h' pa_nil he') he) hs hs2) fun σ H R ⟨ρ, F, st, g⟩ => tG_bind (k1 := kR X.K C) (Post.start st) g fun r1 ρ1 v F1 H1 g1 p1 _ q1 => tG_bind (k1 := kR X.K C) p1 g1 fun r2 ρ2 w F2 H2 g2 p2 s2 q2 => by
    show ∃ i j : Int, [v, w] = [V.int i, V.int j] ∧ _
    try dsimp only at g2
    split at g2
    · rename_i i j e1 e2
      split at g2
      · rename_i c
        have q1' := RepRV.carry q1 s2
        rw [(RepRV.see q1' p2.st e1).int_inv, (RepRV.see q2 p2.st e2).int_inv]
        exact ⟨i, j, rfl, ⟨by omega, by omega, by omega, by omega⟩, g2 _ F2 H2 p2 (range_walk (H1 := H2))⟩
      · exact False.elim g2
    · exact False.elim g2
end

/-! ### for, while -/
def loopS (tg : D → Sl → Option Sl) (body : DS) : List D → DS
  | [], ρ => some (.nx ρ)
  | d :: r, ρ => match tg d ρ with
    | none => none
    | some ρ1 => match body ρ1 with
      | some (.nx ρ2) => loopS tg body r ρ2
      | some (.ct ρ2) => loopS tg body r ρ2
      | some (.bk ρ2) => some (.nx ρ2)
      | o => o
def sFor (fi : Ef Wk) (tg : D → Sl → Option Sl) (body : DS) : DS := bindS fi fun w => lockedS w.2 (loopS tg body w.1)
def loopW (test : Ef Bool) (body : DS) : Nat → DS
  | 0, _ => none
  | n + 1, ρ => match test ρ with
    | some (.ok true ρ1) => match body ρ1 with
      | some (.nx ρ2) => loopW test body n ρ2
      | some (.ct ρ2) => loopW test body n ρ2
      | some (.bk ρ2) => some (.nx ρ2)
      | o => o
    | some (.ok false ρ1) => some (.nx ρ1)
    | some (.exc c fs ρ1) => some (.exc c fs ρ1)
    | none => none
def sWhile (μ : Sl → Nat) (test : Ef Bool) (body : DS) : DS := fun ρ => loopW test body (μ ρ) ρ
section
variable {X : Cx} {C : Cl} {B : Bw} {W : WX} {tg iter c : Expr} {body : List Stmt} {fi : Ef Wk} {h : D → Sl → Option Sl} {g : DS} {pos : Pos} {js : List Nat} {test : Ef Bool}
theorem Post.kept {K : PySem.W.Frag} {ρ1 ρ : Sl} {F1 H1 F H : Hp} {σ1 σ : L2.St} {z : At0} (p : Post K C B (here ρ1 F1 σ1 H1) ρ F σ H) : Kept z ρ1 σ1 H1 H := fun x o e n _ => p.frame x o e n
theorem pds_for (hp : PassesOwn (model X.prog X.w) X.A X.env X.xe) (hc : X.calm = true) (hi : PDI X C B W tg iter fi) (hg : PDG X C B js tg h) (hb : PDSs X C B W body g)
    (hs : ∀ x, foldedSetIterable iter X.env x = pure x := by intro _; rfl) : PDS X C B W (.For tg iter body [] pos) (sFor fi h g) := PS.conv (ps_for hp hc hi hg hb hs) fun E σ H ⟨ρ, F, st, q⟩ => tS_bind (k1 := kI X.K C) (Post.start st) q fun w ρ0 J F1 H1 q0 p0 wk => by
  obtain ⟨st1, q1⟩ := lockedS_run w.2 p0 q0
  obtain ⟨ds, is⟩ := w
  obtain ⟨G, Y, w, hG, hY⟩ := wk
  dsimp only at q1 st1 w hG hY
  generalize locks is ρ0 = ρ1 at q1 st1 hG hY
  refine ⟨fun i m σ' H' => m = ds.length - i ∧ i ≤ ds.length ∧ ∃ ρ' F', Post X.K C B (here ρ1 F1 σ H1) ρ' F' σ' H' ∧ Same F1 F' ∧ GoalS X.K C B W (here ρ1 F1 σ H1) E (loopS h g (ds.drop i) ρ'), ⟨ds.length, by simp, Nat.zero_le _, ρ1, F1, Post.start st1, Same.refl _, q1⟩, ?_⟩
  rintro i m σ' H' ⟨rfl, hi, ρ', F', p', s', q'⟩
  have gg := hG F' H' s' p'.st.sub p'.kept
  by_cases lt : i < ds.length
  · refine .inr ⟨w.goes i H' lt gg, fun σ2 H2 => ∃ ρ2 F2, Post X.K C B (here ρ1 F1 σ H1) ρ2 F2 σ2 H2 ∧ Same F1 F2 ∧ GoalS X.K C B W (here ρ1 F1 σ H1) E (loopS h g (ds.drop (i + 1)) ρ2), fun σ2 H2 ⟨ρ2, F2, p2, s2, q2⟩ => ⟨ds.length - (i + 1), by omega, rfl, lt, ρ2, F2, p2, s2, q2⟩, fun x Hb y => ?_⟩
    obtain ⟨Fb, d, hd, rd, gr⟩ := hY i F' H' x Hb s' p'.st.sub p'.kept (w.yields i H' x Hb lt gg y)
    have pb := p'.grow gr
    have ed : ds.drop i = d :: ds.drop (i + 1) := by
      rw [List.drop_eq_getElem_cons lt]
      congr 1
      rw [List.getElem?_eq_getElem lt] at hd
      exact Option.some.inj hd
    rw [ed] at q'
    unfold loopS at q'
    cases e : h d ρ' with
    | none => rw [e] at q'; exact False.elim q'
    | some ρ2 =>
      rw [e] at q'
      dsimp only at q'
      refine ⟨ρ', Fb, d, ρ2, pb.st, rd, e, fun σ2 _ p2 => ?_⟩
      have pc := pb.trans p2
      refine ⟨ρ2, Fb, pc.st, ?_⟩
      have sb : Same F1 Fb := s'.trans gr.mono
      cases eb : g ρ2 with
      | none => rw [eb] at q'; exact False.elim q'
      | some o =>
        rw [eb] at q'
        cases o with
        | nx ρ3 => exact fun σ3 F3 H3 p3 => ⟨ρ3, F3, pc.trans p3, sb.trans p3.mono, q'⟩
        | ct ρ3 => exact fun σ3 F3 H3 p3 => ⟨ρ3, F3, pc.trans p3, sb.trans p3.mono, q'⟩
        | bk ρ3 => exact fun σ3 F3 H3 p3 => q' σ3 F3 H3 (pc.trans p3)
        | rt r ρ3 => exact fun v σ3 F3 H3 p3 rv => q' v σ3 F3 H3 (pc.trans p3) (RepRV.since pc rv)
        | exc c fs ρ3 => exact fun dd σ3 F3 H3 p3 ex => q' dd σ3 F3 H3 (pc.trans p3) ex
  · have e : i = ds.length := by omega
    subst e
    rw [List.drop_length] at q'
    exact .inl ⟨w.stops H' gg, q' σ' F' H' p'⟩
theorem pds_while (μ : Sl → Nat) (hp : PassesOwn (model X.prog X.w) X.A X.env X.xe) (hc : PDT X C B W c test) (hb : PDSs X C B W body g) : PDS X C B W (.While c body [] pos) (sWhile μ test g) := PS.conv (ps_while hp hc hb) fun E σ H ⟨ρ, F, st, q⟩ => by
  refine ⟨fun m σ' H' => ∃ ρ' F', Post X.K C B (here ρ F σ H) ρ' F' σ' H' ∧ GoalS X.K C B W (here ρ F σ H) E (loopW test g m ρ'), ⟨μ ρ, ρ, F, Post.start st, q⟩, ?_⟩
  rintro m σ' H' ⟨ρ', F', p', q'⟩
  refine ⟨ρ', F', p'.st, ?_⟩
  cases m with
  | zero => exact False.elim q'
  | succ n =>
    unfold loopW at q'
    cases et : test ρ' with
    | none => rw [et] at q'; exact False.elim q'
    | some o =>
      rw [et] at q'
      cases o with
      | exc c fs ρ2 => exact fun dd F2 H2 p2 ex => q' dd σ' F2 H2 (p'.trans p2) ex
      | ok b ρ2 =>
        intro b' F2 H2 p2 e
        obtain rfl : b' = b := e
        have p3 := p'.trans p2
        cases b' with
        | false => rw [if_neg Bool.false_ne_true]; exact q' σ' F2 H2 p3
        | true =>
          rw [if_pos rfl]
          dsimp only at q'
          refine ⟨fun σ3 H3 => ∃ ρ3 F3, Post X.K C B (here ρ F σ H) ρ3 F3 σ3 H3 ∧ GoalS X.K C B W (here ρ F σ H) E (loopW test g n ρ3), fun σ3 H3 w => ⟨n, Nat.lt_succ_self _, w⟩, ρ2, F2, p3.st, ?_⟩
          cases eb : g ρ2 with
          | none => rw [eb] at q'; exact False.elim q'
          | some o =>
            rw [eb] at q'
            cases o with
            | nx ρ3 => exact fun σ3 F3 H3 p4 => ⟨ρ3, F3, p3.trans p4, q'⟩
            | ct ρ3 => exact fun σ3 F3 H3 p4 => ⟨ρ3, F3, p3.trans p4, q'⟩
            | bk ρ3 => exact fun σ3 F3 H3 p4 => q' σ3 F3 H3 (p3.trans p4)
            | rt r ρ3 => exact fun v σ3 F3 H3 p4 rv => q' v σ3 F3 H3 (p3.trans p4) (RepRV.since p3 rv)
            | exc c fs ρ3 => exact fun dd σ3 F3 H3 p4 ex => q' dd σ3 F3 H3 (p3.trans p4) ex
end
end Pl
set_option Elab.async false
set_option linter.all false
set_option maxRecDepth 100000
set_option maxHeartbeats 4000000
/-! Methods of lists, stores, comprehensions. -/
namespace Pl
open PySem PySem.Spec PyProof.Rows L2 Tk

/-! ### o.m(..) of a built-in class -/
def OpM (K : PySem.W.Frag) (C : Cl) (r : V → List V → Hp → VK → Prop) (g : RV → List RV → DE) : Prop := ∀ (B : Bw) (W : WX) (z : At0) (ρ : Sl) (σ : L2.St) (F H : Hp) (x : V) (vs : List V) (r0 : RV) (rs : List RV) (Q : VK),
  Post K C B z ρ F σ H → RepRV K C z ρ F σ H x r0 → RepRVs K C z ρ F σ H vs rs → Goal K C B W z σ Q (g r0 rs ρ) → r x vs H Q
def tyOk (T : String) : D → Bool
  | .lst _ => decide (T = "list")
  | .str _ => decide (T = "str")
  | _ => false
def dMeth (T : String) (g : RV → List RV → DE) (fo : DE) (fl : Ef (List RV)) : DE := bindE fo fun r ρ => match r.see ρ with
  | some d => if tyOk T d = true then bindE fl (fun rs => g r rs) ρ else none
  | none => none
theorem RepP.ty {K : PySem.W.Frag} {C : Cl} {F H : Hp} {v : V} {d : D} {T : String} (r : RepP K C F H v d) (h : tyOk T d = true) : tyV K T v H := by
  cases d with
  | lst l => obtain ⟨a, vs, rfl, e, _⟩ := r; exact .inl ⟨of_decide_eq_true h, vs, SqL.of e⟩
  | str z => cases (show Rep K C F v (.str z) from r); exact (show T = "str" from of_decide_eq_true h)
  | _ => cases h
section
variable {X : Cx} {C : Cl} {B : Bw} {W : WX} {o e : Expr} {es : List Expr} {fo : DE} {fl : Ef (List RV)} {name : Str} {apos cpos : Pos} {T id : String} {r : V → List V → Hp → VK → Prop} {g : RV → List RV → DE}
theorem pd_bm (pa : PlainAttrs T) (slot : Slot T name id) (hty : typeOf (.builtin id) = pure (.type "method_descriptor")) (hm : MtR X id r) (og : OpM X.K C r g) (ho : PD X C B W o fo) (ha : PDA X C B W (e :: es) fl)
    (hbase : attributeBase o name X.env (eval o X.env) = eval o X.env := by rfl)
    (hfew : ((backTo cpos (starEach (e :: es) X.env)).all (fun x => !x.1) && (backToKw cpos (keywordEach [] X.env)).all (fun x => x.1.isSome)
      && decide ((e :: es).length + ([] : List Keyword).length + (if ([] : List Keyword).isEmpty then 0 else 1) < 30)) = true := by rfl)
    (hline : (apos.endLine == cpos.line) = true := by rfl) (hs : starEach (e :: es) X.env = (false, eval e X.env) :: starEach es X.env := by rfl) (hplain : (backTo cpos (starEach es X.env)).any (·.1) = false := by rfl) :
    PD X C B W (.Call (.Attribute o name apos) (e :: es) [] cpos) (dMeth T g fo fl) := PE.conv (pe_bm pa slot hty hm ho ha hbase hfew hline hs hplain) fun σ H Q ⟨ρ, F, st, g0⟩ => tG_bind (k1 := kR X.K C) (Post.start st) g0 fun r1 ρ1 x F1 H1 g1 p1 _ q1 => by
  try dsimp only at g1
  split at g1
  · rename_i d ed
    split at g1
    · rename_i ok
      refine ⟨(RepRV.parts q1 p1.st ed).ty ok, ?_⟩
      exact tG_bind (k1 := kL X.K C) p1 g1 fun rs ρ2 vs F2 H2 g2 p2 s2 q2 => og B W _ ρ2 σ F2 H2 x vs r1 rs Q p2 (RepRV.carry q1 s2) q2 g2
    · exact False.elim g1
  · exact False.elim g1
theorem pd_bm0 (pa : PlainAttrs T) (slot : Slot T name id) (hty : typeOf (.builtin id) = pure (.type "method_descriptor")) (hm : MtR X id r) (og : OpM X.K C r g) (ho : PD X C B W o fo)
    (hbase : attributeBase o name X.env (eval o X.env) = eval o X.env := by rfl) (hline : (apos.endLine == cpos.line) = true := by rfl) :
    PD X C B W (.Call (.Attribute o name apos) [] [] cpos) (dMeth T g fo dNil) := PE.conv (pe_bm0 pa slot hty hm ho hbase hline) fun σ H Q ⟨ρ, F, st, g0⟩ => tG_bind (k1 := kR X.K C) (Post.start st) g0 fun r1 ρ1 x F1 H1 g1 p1 _ q1 => by
  try dsimp only at g1
  split at g1
  · rename_i d ed
    split at g1
    · rename_i ok
      exact ⟨(RepRV.parts q1 p1.st ed).ty ok, og B W _ ρ1 σ F1 H1 x [] r1 [] Q p1 q1 .nil g1⟩
    · exact False.elim g1
  · exact False.elim g1
end
/-- the list of slot i that may change -/
def ownL (r : RV) (ρ : Sl) : Option (Nat × List D) := match r with
  | .bor i => match ρ[i]? with
    | some (some (.own (.lst l))) => some (i, l)
    | _ => none
  | _ => none
section
variable {K : PySem.W.Frag} {C : Cl} {B : Bw} {z : At0} {F H : Hp} {ρ : Sl} {σ : L2.St}
theorem ownL_run {r : RV} {x : V} {i : Nat} {l : List D} (e : ownL r ρ = some (i, l)) (p : Post K C B z ρ F σ H) (q : RepRV K C z ρ F σ H x r) : ∃ a vs, x = .ref a ∧ H a = some (.lst vs) ∧ Reps K C F vs l ∧ ρ[i]? = some (some (.own (.lst l))) ∧ σ[i]? = some (some (.ref a)) := by
  unfold ownL at e
  split at e
  · rename_i j
    split at e
    · rename_i l' h
      cases e
      obtain ⟨a, e1, n, vs, ha, r⟩ := p.st.own h
      have q : σ[i]? = some (some x) := q
      rw [q] at e1
      cases e1
      exact ⟨a, vs, rfl, ha, r, h, q⟩
    · cases e
  · cases e
theorem Post.setL {i : Nat} {l l' : List D} {a : Addr} {vs : List V} (p : Post K C B z ρ F σ H) (h : ρ[i]? = some (some (.own (.lst l)))) (s : σ[i]? = some (some (.ref a))) (r : Reps K C F vs l') : Post K C B z (ρ.set i (some (.own (.lst l')))) F σ (upd H a (.lst vs)) := by
  obtain ⟨b, e, n, _⟩ := p.st.own h
  rw [s] at e
  cases e
  exact p.write (x := a) h s rfl ⟨n, vs, upd_same, r⟩ fun y f => f
def gAppend (r : RV) (rs : List RV) : DE := fun ρ => match ownL r ρ, rs with
  | some (i, l), [.dat d] => if l.length < 10000 then some (.ok (.dat .non) (ρ.set i (some (.own (.lst (l ++ [d])))))) else none
  | _, _ => none
theorem o_append : OpM K C rAppend gAppend := by
  intro B W z ρ σ F H x vs r0 rs Q p q0 qs g
  unfold gAppend at g
  split at g
  · rename_i i l d e
    split at g
    · rename_i c
      obtain ⟨a, ws, rfl, ha, z, h1, h2⟩ := ownL_run e p q0
      cases qs with
      | cons q1 qt _ =>
      cases qt
      refine ⟨a, ws, _, rfl, rfl, ha, by rw [z.length]; exact line10000' c, ?_⟩
      exact g _ F _ (p.setL h1 h2 (z.snoc q1)) .non
    · exact False.elim g
  · exact False.elim g
def gExtend (r : RV) (rs : List RV) : DE := fun ρ => match ownL r ρ, rs with
  | some (i, l), [r'] => match r'.see ρ with
    | some (.lst l') => if l.length + l'.length ≤ 10000 then some (.ok (.dat .non) (ρ.set i (some (.own (.lst (l ++ l')))))) else none
    | _ => none
  | _, _ => none
theorem o_extend : OpM K C rExtend gExtend := by
  intro B W z ρ σ F H x vs r0 rs Q p q0 qs g
  unfold gExtend at g
  split at g
  · rename_i i l r' e
    split at g
    · rename_i l' e'
      split at g
      · rename_i c
        obtain ⟨a, ws, rfl, ha, z, h1, h2⟩ := ownL_run e p q0
        cases qs with
        | cons q1 qt _ =>
        cases qt
        obtain ⟨b, us, rfl, hb, z'⟩ := q1.parts p.st e'
        refine ⟨a, b, ws, us, rfl, rfl, ha, hb, by rw [z.length, z'.length]; exact line10000 c, ?_⟩
        exact g _ F _ (p.setL h1 h2 (z.append z')) .non
      · exact False.elim g
    · exact False.elim g
  · exact False.elim g
theorem Reps.eraseIdx : ∀ {vs : List V} {ds : List D} (n : Nat), Reps K C F vs ds → Reps K C F (vs.eraseIdx n) (ds.eraseIdx n)
  | _, _, _, .nil => .nil
  | _, _, 0, .cons _ r => r
  | _, _, n + 1, .cons x r => .cons x (r.eraseIdx n)
theorem Reps.dropLast : ∀ {vs : List V} {ds : List D}, Reps K C F vs ds → Reps K C F vs.dropLast ds.dropLast
  | _, _, .nil => .nil
  | _, _, .cons _ .nil => .nil
  | _, _, .cons x (.cons y r) => .cons x (Reps.dropLast (.cons y r))
def gPop (r : RV) (rs : List RV) : DE := fun ρ => match ownL r ρ, rs with
  | some (i, l), [] => match l[l.length - 1]? with
    | some d => some (.ok (.dat d) (ρ.set i (some (.own (.lst l.dropLast)))))
    | none => none
  | _, _ => none
theorem o_pop : OpM K C rPop gPop := by
  intro B W z ρ σ F H x vs r0 rs Q p q0 qs g
  unfold gPop at g
  split at g
  · rename_i i l e
    split at g
    · rename_i d hd
      obtain ⟨a, ws, rfl, ha, z, h1, h2⟩ := ownL_run e p q0
      cases qs
      obtain ⟨v, hv, rv⟩ := z.at hd
      exact ⟨a, ws, v, rfl, rfl, ha, by rw [z.length]; exact hv, g _ F _ (p.setL h1 h2 z.dropLast) rv⟩
    · exact False.elim g
  · exact False.elim g
def gPopAt (r : RV) (rs : List RV) : DE := fun ρ => match ownL r ρ, rs with
  | some (i, l), [r'] => match r'.see ρ with
    | some (.int k) => if k.natAbs ≤ 100000 then match seqIndex? k l.length with
      | some j => match l[j]? with
        | some d => some (.ok (.dat d) (ρ.set i (some (.own (.lst (l.eraseIdx j))))))
        | none => none
      | none => none
      else none
    | _ => none
  | _, _ => none
theorem o_popAt : OpM K C rPopAt gPopAt := by
  intro B W z ρ σ F H x vs r0 rs Q p q0 qs g
  unfold gPopAt at g
  split at g
  · rename_i i l r' e
    split at g
    · rename_i k ek
      split at g
      · rename_i c
        split at g
        · rename_i j hj
          split at g
          · rename_i d hd
            obtain ⟨a, ws, rfl, ha, z, h1, h2⟩ := ownL_run e p q0
            cases qs with
            | cons q1 qt _ =>
            cases qt
            obtain ⟨v, hv, rv⟩ := z.at hd
            rw [(q1.see p.st ek).int_inv]
            exact ⟨a, ws, k, j, v, rfl, rfl, ha, by omega, by omega, by rw [z.length]; exact hj, hv, g _ F _ (p.setL h1 h2 (z.eraseIdx j)) rv⟩
          · exact False.elim g
        · exact False.elim g
      · exact False.elim g
    · exact False.elim g
  · exact False.elim g
end

/-! ### xs[i] = e -/
def sStore (f fo fi : DE) : DS := bindS (froze f) fun rv => bindS fo fun ro => bindS fi fun ri ρ => match rv, ownL ro ρ, ri.see ρ with
  | .dat d, some (i, l), some (.int k) => match ixN l.length k with
    | some j => some (.nx (ρ.set i (some (.own (.lst (l.set j d))))))
    | none => none
  | _, _, _ => none
section
variable {X : Cx} {C : Cl} {B : Bw} {W : WX} {o i e : Expr} {f fo fi : DE} {pos pos' : Pos}
theorem pds_store (he : PD X C B W e f) (ho : PD X C B W o fo) (hi : PD X C B W i fi)
    (ha : ∀ v, assign (.Subscript o i pos) X.env v = (do
      let ov ← holding [v] (eval o X.env)
      let iv ← holding [v, ov] (eval i X.env)
      standAt pos
      holding [v, ov, iv] (setItem ov iv v)
      release [v, ov, iv] []) := by intro _; rfl)
    (hs : swapsWithSole [.Subscript o i pos] e pos'.line X.env = pure false := by rfl) (hw : swappedStores [.Subscript o i pos] e X.env = pure none := by rfl)
    (h1 : (assignEach [.Subscript o i pos] X.env).map (·.2) = [assign (.Subscript o i pos) X.env] := by rfl) : PDS X C B W (.Assign [.Subscript o i pos] e pos') (sStore f fo fi) :=
  PS.conv (ps_asg (pd_frz he) (pg_sub ho hi set_list ha) hs hw h1) fun E σ H ⟨ρ, F, st, q⟩ => tS_bind (k1 := kR X.K C) (Post.start st) q fun r1 ρ1 v F1 H1 q1 p1 rv => tS_bindR (k1 := kR X.K C) p1 q1 fun r2 ρ2 x F2 H2 q2 p2 s2 rx => tS_bindR (k1 := kR X.K C) p2 q2 fun r3 ρ3 y F3 H3 q3 p3 s3 ry => by
    split at q3
    · rename_i d i' l k eo ei
      split at q3
      · rename_i j hj
        have rv : RepRV X.K C (here ρ F σ H) ρ1 F1 σ H1 v (.dat d) := rv
        have rv3 := (rv.carry s2).carry s3
        obtain ⟨a, ws, rfl, h1, z, h2, h3⟩ := ownL_run eo p3 (RepRV.carry rx s3)
        rw [(RepRV.see ry p3.st ei).int_inv]
        refine ⟨a, ws, k, j, rfl, rfl, h1, by rw [z.length]; exact hj, ?_⟩
        exact q3 σ F3 _ (p3.setL h2 h3 (z.set j rv3))
      · exact False.elim q3
    · exact False.elim q3
end

end Pl
set_option Elab.async false
set_option linter.all false
set_option maxRecDepth 100000
set_option maxHeartbeats 4000000
/-! Comprehensions of lists: one clause, two clauses. -/
namespace Pl
open PySem PySem.Spec PyProof.Rows L2 Tk
def wipeR (ρ : Sl) : List Nat → Sl
  | [] => ρ
  | v :: vs => (wipeR ρ vs).set v none
def loopC (vs : List Nat) (tg : D → Sl → Option Sl) (ft : Ef Bool) (fe : DE) : List D → List D → DE
  | [], acc, ρ => some (.ok (.own (.lst acc)) ρ)
  | d :: r, acc, ρ => match tg d ρ with
    | none => none
    | some ρ1 => match ft ρ1 with
      | some (.ok true ρ2) => match fe ρ2 with
        | some (.ok (.dat e) ρ3) => if acc.length < 10000 then loopC vs tg ft fe r (acc ++ [e]) (wipeR ρ3 vs) else none
        | _ => none
      | some (.ok false ρ2) => loopC vs tg ft fe r acc (wipeR ρ2 vs)
      | _ => none
def dLc (vs : List Nat) (fi : Ef Wk) (tg : D → Sl → Option Sl) (ft : Ef Bool) (fe : DE) : DE := bindE fi fun w => lockedE w.2 fun ρ => loopC vs tg ft (froze fe) w.1 [] (wipeR ρ vs)
/-- the inner clause's turns -/
def loopI (vs1 : List Nat) (tg : D → Sl → Option Sl) (ft : Ef Bool) (fe : DE) : List D → List D → Sl → Option (List D × Sl)
  | [], acc, ρ => some (acc, ρ)
  | d :: r, acc, ρ => match tg d ρ with
    | none => none
    | some ρ1 => match ft ρ1 with
      | some (.ok true ρ2) => match fe ρ2 with
        | some (.ok (.dat e) ρ3) => if acc.length < 10000 then loopI vs1 tg ft fe r (acc ++ [e]) (wipeR ρ3 vs1) else none
        | _ => none
      | some (.ok false ρ2) => loopI vs1 tg ft fe r acc (wipeR ρ2 vs1)
      | _ => none
def loopC2 (vs vs1 : List Nat) (tg : D → Sl → Option Sl) (ft : Ef Bool) (fi1 : Ef Wk) (tg1 : D → Sl → Option Sl) (ft1 : Ef Bool) (fe : DE) : List D → List D → DE
  | [], acc, ρ => some (.ok (.own (.lst acc)) ρ)
  | d :: r, acc, ρ => match tg d ρ with
    | none => none
    | some ρ1 => match ft ρ1 with
      | some (.ok true ρ2) => match fi1 ρ2 with
        | some (.ok (ds1, []) ρ3) => match loopI vs1 tg1 ft1 fe ds1 acc (wipeR ρ3 vs1) with
          | some (acc', ρ4) => loopC2 vs vs1 tg ft fi1 tg1 ft1 fe r acc' (wipeR ρ4 vs)
          | none => none
        | _ => none
      | some (.ok false ρ2) => loopC2 vs vs1 tg ft fi1 tg1 ft1 fe r acc (wipeR ρ2 vs)
      | _ => none
def dLc2 (vs vs1 : List Nat) (fi : Ef Wk) (tg : D → Sl → Option Sl) (ft : Ef Bool) (fi1 : Ef Wk) (tg1 : D → Sl → Option Sl) (ft1 : Ef Bool) (fe : DE) : DE := bindE fi fun w => lockedE w.2 fun ρ => loopC2 vs vs1 tg ft fi1 tg1 ft1 (froze fe) w.1 [] (wipeR ρ vs)
def yesT : Ef Bool := retE true
section
variable {K : PySem.W.Frag} {C : Cl} {B : Bw} {W : WX} {z : At0} {F H : Hp} {ρ : Sl} {σ : L2.St}
theorem wipeR_some {ρ : Sl} {i : Nat} {x : SV} : ∀ {vs : List Nat}, (wipeR ρ vs)[i]? = some (some x) → ρ[i]? = some (some x) ∧ i ∉ vs
  | [], h => ⟨h, by simp⟩
  | v :: vs, h => by
    unfold wipeR at h
    rcases set_cases h with ⟨_, y, _⟩ | ⟨n, y⟩
    · cases y
    · obtain ⟨h1, h2⟩ := wipeR_some y
      exact ⟨h1, by simp only [List.mem_cons, not_or]; exact ⟨n, h2⟩⟩
theorem wipeR_length (ρ : Sl) : ∀ vs : List Nat, (wipeR ρ vs).length = ρ.length
  | [] => rfl
  | v :: vs => by unfold wipeR; rw [List.length_set, wipeR_length ρ vs]
theorem wipe_out {σ : L2.St} {i : Nat} : ∀ {vs : List Nat}, i ∉ vs → (wipe σ vs)[i]? = σ[i]?
  | [], _ => rfl
  | v :: vs, h => by
    unfold wipe
    rw [List.getElem?_set_ne fun e => h (by rw [e]; exact List.mem_cons_self)]
    exact wipe_out fun y => h (List.mem_cons_of_mem _ y)
theorem wipe_idem (s : L2.St) : ∀ (l : List Nat), (∀ i ∈ l, ∀ v, s[i]? ≠ some (some v)) → wipe s l = s
  | [], _ => rfl
  | u :: us, hn => by
    show (wipe s us).set u none = s
    rw [wipe_idem s us fun i hi => hn i (List.mem_cons_of_mem _ hi)]
    have hu := hn u List.mem_cons_self
    apply List.ext_getElem?
    intro k
    by_cases hk : u = k
    · subst hk
      by_cases hl : u < s.length
      · rw [List.getElem?_set_self hl]
        cases y : s[u]? with
        | none => rw [List.getElem?_eq_none_iff] at y; omega
        | some o =>
          cases o with
          | none => rfl
          | some v => exact (hu v y).elim
      · rw [List.getElem?_eq_none (by rw [List.length_set]; omega), List.getElem?_eq_none (by omega)]
    · rw [List.getElem?_set_ne hk]
theorem wipeR_idem (s : Sl) : ∀ (l : List Nat), (∀ i ∈ l, ∀ v, s[i]? ≠ some (some v)) → wipeR s l = s
  | [], _ => rfl
  | u :: us, hn => by
    show (wipeR s us).set u none = s
    rw [wipeR_idem s us fun i hi => hn i (List.mem_cons_of_mem _ hi)]
    have hu := hn u List.mem_cons_self
    apply List.ext_getElem?
    intro k
    by_cases hk : u = k
    · subst hk
      by_cases hl : u < s.length
      · rw [List.getElem?_set_self hl]
        cases y : s[u]? with
        | none => rw [List.getElem?_eq_none_iff] at y; omega
        | some o =>
          cases o with
          | none => rfl
          | some v => exact (hu v y).elim
      · rw [List.getElem?_eq_none (by rw [List.length_set]; omega), List.getElem?_eq_none (by omega)]
    · rw [List.getElem?_set_ne hk]
/-- the slots' values agree where something is told -/
theorem Post.sigs (p : Post K C B z ρ F σ H) {σ' : L2.St} (hl : σ'.length = σ.length) (h : ∀ (i : Nat) (x : SV), ρ[i]? = some (some x) → σ'[i]? = σ[i]?) : Post K C B z ρ F σ' H := by
  refine ⟨p.mono, p.frame, p.new, ⟨hl.trans p.st.len, p.st.sub, fun j d e => by rw [h j _ e]; exact p.st.dat j d e, fun j s m e t => by rw [h j _ e]; exact p.st.thg j s m e t,
    fun j k a b x m m' s n e1 e2 t q1 q2 => p.st.sep j k a b x m m' s n e1 e2 t (by rw [← h j _ e1]; exact q1) (by rw [← h k _ e2]; exact q2), fun j m hi e => by rw [h j _ e]; exact p.st.fix j m hi e⟩,
    fun a ⟨j, m, b, e, q, f⟩ => p.low a ⟨j, m, b, e, by rw [← h j _ e]; exact q, f⟩, fun a ⟨j, s, m, b, e, t, q, f⟩ => p.lowL a ⟨j, s, m, b, e, t, by rw [← h j _ e]; exact q, f⟩, p.good, fun j a m ⟨e, q⟩ => p.lks j a m ⟨e, by rw [← h j _ e]; exact q⟩⟩
theorem Held.sigs {σ' : L2.St} {x : Addr} (h : ∀ (i : Nat) (x : SV), ρ[i]? = some (some x) → σ'[i]? = σ[i]?) : Held ρ σ' H x → Held ρ σ H x := fun ⟨j, s, m, a, e, t, q, f⟩ => ⟨j, s, m, a, e, t, by rw [← h j _ e]; exact q, f⟩
/-- a new list D that no slot holds, while it is filled -/
structure InC (K : PySem.W.Frag) (C : Cl) (B : Bw) (z : At0) (F1 : Hp) (L : Addr) (ρ : Sl) (σ : L2.St) (F H : Hp) (acc : List D) : Prop where
  post : Post K C B z ρ F σ H
  mono : Same F1 F
  free : F L = none
  no : ¬ Held ρ σ H L
  at_ : ∃ xs, H L = some (.lst xs) ∧ Reps K C F xs acc
section
variable {F1 F2 H2 : Hp} {L : Addr} {ρ2 : Sl} {σ2 : L2.St} {acc : List D}
theorem InC.thru (c : InC K C B z F1 L ρ σ F H acc) (q : Post K C B (here ρ F σ H) ρ2 F2 σ2 H2) : InC K C B z F1 L ρ2 σ2 F2 H2 acc := by
  obtain ⟨xs, hL, r⟩ := c.at_
  have st := q.stays c.free hL fun h => c.no h.held
  refine ⟨c.post.trans q, c.mono.trans q.mono, st.2, fun h => ?_, xs, st.1.trans hL, r.to q.mono⟩
  rcases q.lowL L h with y | y
  · exact c.no y
  · exact hL.symm.trans y |> fun w => by cases w
theorem InC.grow (c : InC K C B z F1 L ρ σ F H acc) (g : Grow F H F2 H2) : InC K C B z F1 L ρ σ F2 H2 acc := by
  obtain ⟨xs, hL, r⟩ := c.at_
  have pg := (Post.start c.post.st).grow g
  refine ⟨c.post.grow g, c.mono.trans g.mono, ?_, fun h => ?_, xs, g.keep _ _ hL, r.to g.mono⟩
  · cases y : F2 L with
    | none => rfl
    | some u =>
      rcases g.new L u y with w | w
      · rw [c.free] at w; cases w
      · rw [hL] at w; cases w
  · rcases pg.lowL L h with y | y
    · exact c.no y
    · exact hL.symm.trans y |> fun w => by cases w
theorem InC.wiped (c : InC K C B z F1 L ρ σ F H acc) (vs : List Nat) {σ' : L2.St} (hl : σ'.length = σ.length) (h : ∀ i, i ∉ vs → σ'[i]? = σ[i]?) : InC K C B z F1 L (wipeR ρ vs) σ' F H acc := by
  have less : ∀ (i : Nat) (x : SV), (wipeR ρ vs)[i]? = some (some x) → ρ[i]? = some (some x) := fun i x e => (wipeR_some e).1
  have p1 := c.post.less (wipeR_length ρ vs) less
  have ag : ∀ (i : Nat) (x : SV), (wipeR ρ vs)[i]? = some (some x) → σ'[i]? = σ[i]? := fun i x e => h i (wipeR_some e).2
  exact ⟨p1.sigs hl ag, c.mono, c.free, fun y => c.no (Held.less less (Held.sigs ag y)), c.at_⟩
theorem InC.push (c : InC K C B z F1 L ρ σ F H acc) (n0 : z.S L ∨ z.H L = none) {y : V} {d : D} (r : Rep K C F y d) {xs : List V} (hL : H L = some (.lst xs)) : InC K C B z F1 L ρ σ F (upd H L (.lst (xs ++ [y]))) (acc ++ [d]) := by
  obtain ⟨xs', hL', rs⟩ := c.at_
  rw [hL] at hL'
  cases hL'
  refine ⟨c.post.aside n0 c.free c.no, c.mono, c.free, fun h => ?_, _, upd_same, rs.snoc r⟩
  obtain ⟨i, s, m, b, e1, t, q2, f⟩ := h
  have ne : b ≠ L := fun w => c.no (Held.of e1 t q2 (w ▸ Foot.root _ _ _))
  exact c.no ⟨i, s, m, b, e1, t, q2, (Foot.same (upd_ne ne)).mp f⟩
end
theorem drop_cons' {ds : List D} {i : Nat} {d : D} (lt : i < ds.length) (hd : ds[i]? = some d) : ds.drop i = d :: ds.drop (i + 1) := by
  rw [List.drop_eq_getElem_cons lt]
  congr 1
  rw [List.getElem?_eq_getElem lt] at hd
  exact Option.some.inj hd
/-- what a comprehension asks, from what it makes -/
theorem lc_run {fi : Ef Wk} {h : D → Sl → Option Sl} {ft : Ef Bool} {fe : DE} {vs js : List Nat} (hj : ∀ j ∈ js, j ∈ vs) {σ : L2.St} {H : Hp} {Q : VK} (q : tD K C B W (dLc vs fi h ft fe) σ H Q) :
    tLc (tG (kI K C) B W fi) (tGt K C B js h) (tT K C B (fun _ _ _ _ => False) ft) (tD K C B (fun _ _ _ _ => False) (froze fe)) vs σ H Q := by
  obtain ⟨ρ, F, st, q⟩ := q
  refine tG_bind (k1 := kI K C) (Post.start st) q fun w ρ0 J F1 H1 q0 p0 _ wk => fun L nL => ?_
  obtain ⟨st1, q1⟩ := lockedE_run w.2 p0 q0
  obtain ⟨ds, is⟩ := w
  obtain ⟨G, Y, w, hG, hY⟩ := wk
  dsimp only at q1 st1 w hG hY
  generalize locks is ρ0 = ρ1 at q1 st1 hG hY
  have wl : (wipe σ vs).length = σ.length := wipe_length σ vs
  have p1 := Post.start st1
  have n0 : (here ρ1 F1 σ H1).S L ∨ (here ρ1 F1 σ H1).H L = none := .inr nL
  have c0 : InC K C B (here ρ1 F1 σ H1) F1 L ρ1 σ F1 (upd H1 L (.lst [])) [] := ⟨p1.newO nL _, Same.refl _, p1.st.sub.free nL, fun h => by
    obtain ⟨i, s, m, b, e1, t, q2, f⟩ := h
    have ne : b ≠ L := fun w => p1.notHeld nL (Held.of e1 t q2 (w ▸ Foot.root _ _ _))
    exact p1.notHeld nL ⟨i, s, m, b, e1, t, q2, (Foot.same (upd_ne ne)).mp f⟩, [], upd_same, .nil⟩
  refine ⟨fun i m H' => m = ds.length - i ∧ i ≤ ds.length ∧ ∃ ρ' F' acc, InC K C B (here ρ1 F1 σ H1) F1 L ρ' (wipe σ vs) F' H' acc ∧ (∀ i ∈ vs, ∀ x, ρ'[i]? ≠ some (some x)) ∧
    Goal K C B W (here ρ1 F1 σ H1) σ Q (loopC vs h ft (froze fe) (ds.drop i) acc ρ'), ⟨ds.length, by simp, Nat.zero_le _, wipeR ρ1 vs, F1, [], c0.wiped vs wl fun i n => wipe_out n, fun i hi x e => (wipeR_some e).2 hi, q1⟩, ?_⟩
  rintro i m H' ⟨rfl, hi, ρ', F', acc, c, free, q'⟩
  have kp : Kept (here ρ F σ H) ρ1 σ H1 H' := fun x o e n _ => c.post.frame x o e n
  have gg := hG F' H' c.mono c.post.st.sub kp
  by_cases lt : i < ds.length
  · refine .inr ⟨w.goes i H' lt gg, fun H2 => ∃ ρ2 F2 acc, InC K C B (here ρ1 F1 σ H1) F1 L ρ2 (wipe σ vs) F2 H2 acc ∧ (∀ i ∈ vs, ∀ x, ρ2[i]? ≠ some (some x)) ∧
      Goal K C B W (here ρ1 F1 σ H1) σ Q (loopC vs h ft (froze fe) (ds.drop (i + 1)) acc ρ2), fun H2 y => ⟨ds.length - (i + 1), by omega, rfl, lt, y⟩, fun x Hb y => ?_⟩
    obtain ⟨Fb, d, hd, rd, gr⟩ := hY i F' H' x Hb c.mono c.post.st.sub kp (w.yields i H' x Hb lt gg y)
    have cb := c.grow gr
    rw [drop_cons' lt hd] at q'
    unfold loopC at q'
    cases e : h d ρ' with
    | none => rw [e] at q'; exact False.elim q'
    | some ρ2 =>
      rw [e] at q'
      dsimp only at q'
      refine ⟨ρ', Fb, d, ρ2, cb.post.st, rd, e, fun σ2 wp p2 => ⟨(wp vs hj).trans (wipe_idem _ _ fun i hi v y => (wipe_some y).2 hi), ?_⟩⟩
      have c2 := cb.thru p2
      have len2 : σ2.length = σ.length := by
        have := congrArg List.length (wp vs hj)
        rw [wipe_length, wipe_length, wl] at this
        exact this
      have out2 : ∀ i, i ∉ vs → (wipe σ vs)[i]? = σ2[i]? := fun i n => by
        have := congrArg (fun l : L2.St => l[i]?) (wp vs hj)
        try dsimp only at this
        rw [wipe_out n, wipe_out n] at this
        exact this.symm
      refine ⟨ρ2, Fb, c2.post.st, ?_⟩
      cases et : ft ρ2 with
      | none => rw [et] at q'; exact False.elim q'
      | some o =>
        rw [et] at q'
        cases o with
        | exc c fs ρ3 => exact False.elim q'
        | ok b ρ3 =>
          intro b' F3 H3 p3 eb
          obtain rfl : b' = b := eb
          have c3 := c2.thru p3
          cases b' with
          | false =>
            rw [if_neg Bool.false_ne_true]
            exact ⟨wipeR ρ3 vs, F3, acc, c3.wiped vs (by rw [wl, len2]) out2, fun i hi x e => (wipeR_some e).2 hi, q'⟩
          | true =>
            rw [if_pos rfl]
            dsimp only at q'
            refine ⟨ρ3, F3, c3.post.st, ?_⟩
            cases ee : froze fe ρ3 with
            | none => rw [ee] at q'; exact False.elim q'
            | some o =>
              rw [ee] at q'
              cases o with
              | exc c fs ρ4 => exact False.elim q'
              | ok r ρ4 =>
                cases r with
                | own m => exact False.elim q'
                | bor k => exact False.elim q'
                | shr k => exact False.elim q'
                | dat dz =>
                  dsimp only at q'
                  intro y F4 H4 p4 ry
                  have ry : Rep K C F4 y dz := ry
                  split at q'
                  · rename_i la
                    have c4 := c3.thru p4
                    obtain ⟨xs, hL4, rs⟩ := c4.at_
                    refine ⟨xs, hL4, by rw [rs.length]; exact line10000' la, wipeR ρ4 vs, F4, acc ++ [dz], ?_, fun i hi x e => (wipeR_some e).2 hi, q'⟩
                    exact (c4.push n0 ry hL4).wiped vs (by rw [wl, len2]) out2
                  · exact False.elim q'
  · have e : i = ds.length := by omega
    subst e
    rw [List.drop_length] at q'
    refine .inl ⟨w.stops H' gg, ?_⟩
    have cf := c.wiped vs wl.symm fun i n => (wipe_out n).symm
    rw [wipeR_idem ρ' vs free] at cf
    obtain ⟨xs, hL, rs⟩ := cf.at_
    refine q' _ F' H' cf.post ⟨L, rfl, ⟨cf.free, xs, hL, rs⟩, fun x f => ?_⟩
    obtain rfl : x = L := f
    exact ⟨cf.no, n0⟩
end
section
variable {X : Cx} {C : Cl} {B : Bw} {W : WX} {elt tg iter : Expr} {ifs : List Expr} {scope : Scope} {own : List (Str × Nat)} {pos spos py : Pos} {fi : Ef Wk} {h : D → Sl → Option Sl} {ft : Ef Bool} {fe : DE} {js : List Nat} {y : Str} {i np : Nat}
abbrev W0 : WX := fun _ _ _ _ => False
theorem pts_yes {Y : Cx} : PTs Y [] (tT Y.K C B W0 yesT) := ⟨fun pins s σ H Q I q => pts_nil.run pins s σ H Q I (by obtain ⟨ρ, F, st, g⟩ := q; exact g true F H (Post.start st) rfl)⟩
theorem pd_lc (hc : X.calm = true) (hN : X.N.Nodup) (hi : PDI X C B W tg iter fi) (ok : BlkOk X.N X.env.scope scope own) (hj : ∀ j ∈ js, j ∈ own.map (·.2))
    (hg : ∀ (s : Shared) (H : Hp) (L : Addr) (cl : List (Str × Addr)) (fp : List Addr), PDG (X.blk s H scope (compEnvC scope cl L X.env) fp) C B js tg h) (ht : ∀ (s : Shared) (H : Hp) (L : Addr) (cl : List (Str × Addr)) (fp : List Addr), PTs (X.blk s H scope (compEnvC scope cl L X.env) fp) ifs (tT X.K C B W0 ft))
    (he : ∀ (s : Shared) (H : Hp) (L : Addr) (cl : List (Str × Addr)) (fp : List Addr), PD (X.blk s H scope (compEnvC scope cl L X.env) fp) C B W0 elt fe) (hs : ∀ x, foldedSetIterable iter X.env x = pure x := by intro _; rfl) :
    PD X C B W (.ListComp elt [⟨tg, iter, ifs, 0⟩] scope pos) (dLc (own.map (·.2)) fi h ft fe) := PE.conv (pe_lc hc hN hi ok hg ht (fun s H L cl fp => pd_frz (he s H L cl fp)) hs) fun σ H Q q => lc_run hj q
theorem pds_setLc (hn : B.np = np) (hc : X.calm = true) (hN : X.N.Nodup) (hy : X.N[i]? = some y) (hyl : X.env.scope.names.lookup y = some .local)
    (hsw : swapsWith (.ListComp elt [⟨tg, iter, ifs, 0⟩] scope pos) (some (.Name y py)) spos.line X.env = pure true) (hi : PDI X C B W tg iter fi) (ok : BlkOk X.N X.env.scope scope own) (hj : ∀ j ∈ js, j ∈ own.map (·.2))
    (hg : ∀ (s : Shared) (H : Hp) (L : Addr) (cl : List (Str × Addr)) (fp : List Addr), PDG (X.blk s H scope (compEnvC scope cl L X.env) fp) C B js tg h) (ht : ∀ (s : Shared) (H : Hp) (L : Addr) (cl : List (Str × Addr)) (fp : List Addr), PTs (X.blk s H scope (compEnvC scope cl L X.env) fp) ifs (tT X.K C B W0 ft))
    (he : ∀ (s : Shared) (H : Hp) (L : Addr) (cl : List (Str × Addr)) (fp : List Addr), PD (X.blk s H scope (compEnvC scope cl L X.env) fp) C B W0 elt fe) (hs : ∀ x, foldedSetIterable iter X.env x = pure x := by intro _; rfl) :
    PDS X C B W (.Assign [.Name y py] (.ListComp elt [⟨tg, iter, ifs, 0⟩] scope pos) spos) (sSet i np (dLc (own.map (·.2)) fi h ft fe)) :=
  PS.conv (ps_setLc hc hN hy hyl hsw hi ok hg ht (fun s H L cl fp => pd_frz (he s H L cl fp)) hs) fun E σ H q => lc_run hj (set_run hn q)
end
end Pl
set_option Elab.async false
set_option linter.all false
set_option maxRecDepth 100000
set_option maxHeartbeats 4000000
/-! Comprehensions of two clauses. -/
namespace Pl
open PySem PySem.Spec PyProof.Rows L2 Tk
section
variable {K : PySem.W.Frag} {C : Cl} {B : Bw} {W : WX} {z : At0} {F H F1 F2 H2 : Hp} {ρ ρ2 : Sl} {σ σ2 : L2.St} {L : Addr} {acc acc2 : List D}
/-- a start where the list L may change too -/
def hereL (L : Addr) (ρ : Sl) (F : Hp) (σ : L2.St) (H : Hp) : At0 := ⟨fun x => OwnA ρ σ H x ∨ x = L, fun x => Held ρ σ H x ∨ x = L, F, H, Lck ρ σ⟩
theorem InC.nest (c : InC K C B z F1 L ρ σ F H acc) : InC K C B (hereL L ρ F σ H) F L ρ σ F H acc :=
  ⟨⟨Same.refl _, fun _ _ e _ => e, fun _ _ e => .inl e, c.post.st, fun _ y => .inl (.inl y), fun _ y => .inl (.inl y), fun _ y => y.imp_left OwnA.held, fun _ _ _ y => y⟩, Same.refl _, c.free, c.no, c.at_⟩
theorem InC.back (c : InC K C B z F1 L ρ σ F H acc) (n0 : z.S L ∨ z.H L = none) (d : InC K C B (hereL L ρ F σ H) F L ρ2 σ2 F2 H2 acc2) : InC K C B z F1 L ρ2 σ2 F2 H2 acc2 := by
  have up : ∀ x, (hereL L ρ F σ H).S x → z.S x ∨ z.H x = none := fun x y => by
    rcases y with y | rfl
    · exact c.post.low x y
    · exact n0
  refine ⟨⟨c.post.mono.trans d.post.mono, fun b u e s => d.post.frame b u (c.post.frame b u e s) fun y => (up b y).elim s fun n => (by rw [n] at e; cases e), fun b u e => ?_, d.post.st, fun b y => ?_, fun b y => ?_, c.post.good, fun i a m y => c.post.lks i a m (d.post.lks i a m y)⟩, c.mono.trans d.mono, d.free, d.no, d.at_⟩
  · rcases d.post.new b u e with y | y | y
    · exact c.post.new b u y
    · exact .inr (c.post.there y).symm
    · exact .inr (up b y).symm
  · rcases d.post.low b y with w | w
    · exact up b w
    · exact c.post.there w
  · rcases d.post.lowL b y with w | w
    · rcases w with w | rfl
      · exact c.post.lowL b w
      · exact n0.imp_left (c.post.good _)
    · exact c.post.old w
theorem lc2_run {fi fi1 : Ef Wk} {h h1 : D → Sl → Option Sl} {ft ft1 : Ef Bool} {fe : DE} {vs vs1 js js1 : List Nat} (hj : ∀ j ∈ js, j ∈ vs) (hj1 : ∀ j ∈ js1, j ∈ vs1) (hv : ∀ j ∈ vs1, j ∈ vs) {σ : L2.St} {H : Hp} {Q : VK} (q : tD K C B W (dLc2 vs vs1 fi h ft fi1 h1 ft1 fe) σ H Q) :
    tLc2 (tG (kI K C) B W fi) (tGt K C B js h) (tT K C B (fun _ _ _ _ => False) ft) (tG (kI K C) B (fun _ _ _ _ => False) fi1) (tGt K C B js1 h1) (tT K C B (fun _ _ _ _ => False) ft1) (tD K C B (fun _ _ _ _ => False) (froze fe)) vs vs1 σ H Q := by
  obtain ⟨ρ, F, st, q⟩ := q
  refine tG_bind (k1 := kI K C) (Post.start st) q fun w ρ0 J F1 H1 q0 p0 _ wk => fun L nL => ?_
  obtain ⟨st1, q1⟩ := lockedE_run w.2 p0 q0
  obtain ⟨ds, is⟩ := w
  obtain ⟨G, Y, w, hG, hY⟩ := wk
  dsimp only at q1 st1 w hG hY
  generalize locks is ρ0 = ρ1 at q1 st1 hG hY
  have wl : (wipe σ vs).length = σ.length := wipe_length σ vs
  have p1 := Post.start st1
  have n0 : (here ρ1 F1 σ H1).S L ∨ (here ρ1 F1 σ H1).H L = none := .inr nL
  have c0 : InC K C B (here ρ1 F1 σ H1) F1 L ρ1 σ F1 (upd H1 L (.lst [])) [] := ⟨p1.newO nL _, Same.refl _, p1.st.sub.free nL, fun h => by
    obtain ⟨i, s, m, b, e1, t, q2, f⟩ := h
    have ne : b ≠ L := fun w => p1.notHeld nL (Held.of e1 t q2 (w ▸ Foot.root _ _ _))
    exact p1.notHeld nL ⟨i, s, m, b, e1, t, q2, (Foot.same (upd_ne ne)).mp f⟩, [], upd_same, .nil⟩
  refine ⟨fun i m H' => m = ds.length - i ∧ i ≤ ds.length ∧ ∃ ρ' F' acc, InC K C B (here ρ1 F1 σ H1) F1 L ρ' (wipe σ vs) F' H' acc ∧ (∀ i ∈ vs, ∀ x, ρ'[i]? ≠ some (some x)) ∧
    Goal K C B W (here ρ1 F1 σ H1) σ Q (loopC2 vs vs1 h ft fi1 h1 ft1 (froze fe) (ds.drop i) acc ρ'), ⟨ds.length, by simp, Nat.zero_le _, wipeR ρ1 vs, F1, [], c0.wiped vs wl fun i n => wipe_out n, fun i hi x e => (wipeR_some e).2 hi, q1⟩, ?_⟩
  rintro i m H' ⟨rfl, hi, ρ', F', acc, c, free, q'⟩
  have kp : Kept (here ρ F σ H) ρ1 σ H1 H' := fun x o e n _ => c.post.frame x o e n
  have gg := hG F' H' c.mono c.post.st.sub kp
  by_cases lt : i < ds.length
  · refine .inr ⟨w.goes i H' lt gg, fun H2 => ∃ ρ2 F2 acc, InC K C B (here ρ1 F1 σ H1) F1 L ρ2 (wipe σ vs) F2 H2 acc ∧ (∀ i ∈ vs, ∀ x, ρ2[i]? ≠ some (some x)) ∧
      Goal K C B W (here ρ1 F1 σ H1) σ Q (loopC2 vs vs1 h ft fi1 h1 ft1 (froze fe) (ds.drop (i + 1)) acc ρ2), fun H2 y => ⟨ds.length - (i + 1), by omega, rfl, lt, y⟩, fun x Hb y => ?_⟩
    obtain ⟨Fb, d, hd, rd, gr⟩ := hY i F' H' x Hb c.mono c.post.st.sub kp (w.yields i H' x Hb lt gg y)
    have cb := c.grow gr
    rw [drop_cons' lt hd] at q'
    unfold loopC2 at q'
    cases e : h d ρ' with
    | none => rw [e] at q'; exact False.elim q'
    | some ρ2 =>
      rw [e] at q'
      dsimp only at q'
      refine ⟨ρ', Fb, d, ρ2, cb.post.st, rd, e, fun σ2 wp p2 => ⟨(wp vs hj).trans (wipe_idem _ _ fun i hi v y => (wipe_some y).2 hi), ?_⟩⟩
      have c2 := cb.thru p2
      have len2 : σ2.length = σ.length := by
        have := congrArg List.length (wp vs hj)
        rw [wipe_length, wipe_length, wl] at this
        exact this
      have out2 : ∀ i, i ∉ vs → (wipe σ vs)[i]? = σ2[i]? := fun i n => by
        have := congrArg (fun l : L2.St => l[i]?) (wp vs hj)
        try dsimp only at this
        rw [wipe_out n, wipe_out n] at this
        exact this.symm
      refine ⟨ρ2, Fb, c2.post.st, ?_⟩
      cases et : ft ρ2 with
      | none => rw [et] at q'; exact False.elim q'
      | some o =>
        rw [et] at q'
        cases o with
        | exc c fs ρ3 => exact False.elim q'
        | ok b ρ3 =>
          intro b' F3 H3 p3 eb
          obtain rfl : b' = b := eb
          have c3 := c2.thru p3
          cases b' with
          | false =>
            rw [if_neg Bool.false_ne_true]
            exact ⟨wipeR ρ3 vs, F3, acc, c3.wiped vs (by rw [wl, len2]) out2, fun i hi x e => (wipeR_some e).2 hi, q'⟩
          | true =>
            rw [if_pos rfl]
            dsimp only at q'
            refine ⟨ρ3, F3, c3.post.st, ?_⟩
            cases ei : fi1 ρ3 with
            | none => rw [ei] at q'; exact False.elim q'
            | some o =>
              rw [ei] at q'
              cases o with
              | exc c fs ρ4 => exact False.elim q'
              | ok w1 ρ4 =>
                intro J1 F4 H4 p4 wk1
                obtain ⟨ds1, is1⟩ := w1
                cases is1 with
                | cons _ _ => exact False.elim q'
                | nil =>
                dsimp only at q'
                obtain ⟨G1, Y1, w1, hG1, hY1⟩ := wk1
                dsimp only at w1 hG1 hY1
                have c4 := c3.thru p4
                have wl1 : (wipe σ2 vs1).length = σ2.length := wipe_length σ2 vs1
                -- the list that is filled is foreign to the inner walk
                have forL : Foreign (here ρ3 F3 σ2 H3) L := by
                  obtain ⟨xs, hL, _⟩ := c3.at_
                  exact ⟨⟨_, hL⟩, c3.no, c3.free⟩
                have n1 : (hereL L ρ4 F4 σ2 H4).S L ∨ (hereL L ρ4 F4 σ2 H4).H L = none := .inl (.inr rfl)
                cases el : loopI vs1 h1 ft1 (froze fe) ds1 acc (wipeR ρ4 vs1) with
                | none => rw [el] at q'; exact False.elim q'
                | some res =>
                rw [el] at q'
                obtain ⟨acc9, ρ9⟩ := res
                dsimp only at q'
                refine ⟨fun j k H' => k = ds1.length - j ∧ j ≤ ds1.length ∧ ∃ ρ' F' acc', InC K C B (hereL L ρ4 F4 σ2 H4) F4 L ρ' (wipe σ2 vs1) F' H' acc' ∧ loopI vs1 h1 ft1 (froze fe) (ds1.drop j) acc' ρ' = some (acc9, ρ9),
                  ⟨ds1.length, by simp, Nat.zero_le _, wipeR ρ4 vs1, F4, acc, c4.nest.wiped vs1 wl1 fun i n => wipe_out n, el⟩, ?_⟩
                rintro j k H5 ⟨rfl, hj5, ρ5, F5, acc5, c5, q5⟩
                have kp1 : Kept (here ρ3 F3 σ2 H3) ρ4 σ2 H4 H5 := fun x o e n f => c5.post.frame x o e fun y => by
                  rcases y with y | rfl
                  · exact n y
                  · exact f forL
                have gg1 := hG1 F5 H5 c5.mono c5.post.st.sub kp1
                by_cases lt1 : j < ds1.length
                · refine .inr ⟨w1.goes j H5 lt1 gg1, fun H' => ∃ ρ' F' acc', InC K C B (hereL L ρ4 F4 σ2 H4) F4 L ρ' (wipe σ2 vs1) F' H' acc' ∧ loopI vs1 h1 ft1 (froze fe) (ds1.drop (j + 1)) acc' ρ' = some (acc9, ρ9),
                    fun H' y => ⟨ds1.length - (j + 1), by omega, rfl, lt1, y⟩, fun x1 Hc y1 => ?_⟩
                  obtain ⟨Fc, d1, hd1, rd1, gr1⟩ := hY1 j F5 H5 x1 Hc c5.mono c5.post.st.sub kp1 (w1.yields j H5 x1 Hc lt1 gg1 y1)
                  have cc := c5.grow gr1
                  rw [drop_cons' lt1 hd1] at q5
                  unfold loopI at q5
                  cases e1 : h1 d1 ρ5 with
                  | none => rw [e1] at q5; cases q5
                  | some ρ6 =>
                    rw [e1] at q5
                    dsimp only at q5
                    refine ⟨ρ5, Fc, d1, ρ6, cc.post.st, rd1, e1, fun σ3 wp1 p6 => ⟨(wp1 vs1 hj1).trans (wipe_idem _ _ fun i hi v y => (wipe_some y).2 hi), ?_⟩⟩
                    have c6 := cc.thru p6
                    have len3 : σ3.length = σ2.length := by
                      have := congrArg List.length (wp1 vs1 hj1)
                      rw [wipe_length, wipe_length, wl1] at this
                      exact this
                    have out3 : ∀ i, i ∉ vs1 → (wipe σ2 vs1)[i]? = σ3[i]? := fun i n => by
                      have := congrArg (fun l : L2.St => l[i]?) (wp1 vs1 hj1)
                      try dsimp only at this
                      rw [wipe_out n, wipe_out n] at this
                      exact this.symm
                    refine ⟨ρ6, Fc, c6.post.st, ?_⟩
                    cases et1 : ft1 ρ6 with
                    | none => rw [et1] at q5; cases q5
                    | some o =>
                      rw [et1] at q5
                      cases o with
                      | exc c fs ρ7 => cases q5
                      | ok b ρ7 =>
                        intro b' F7 H7 p7 eb
                        obtain rfl : b' = b := eb
                        have c7 := c6.thru p7
                        cases b' with
                        | false =>
                          rw [if_neg Bool.false_ne_true]
                          exact ⟨wipeR ρ7 vs1, F7, acc5, c7.wiped vs1 (by rw [wl1, len3]) out3, q5⟩
                        | true =>
                          rw [if_pos rfl]
                          dsimp only at q5
                          refine ⟨ρ7, F7, c7.post.st, ?_⟩
                          cases ee : froze fe ρ7 with
                          | none => rw [ee] at q5; cases q5
                          | some o =>
                            rw [ee] at q5
                            cases o with
                            | exc c fs ρ8 => cases q5
                            | ok r ρ8 =>
                              cases r with
                              | own m => cases q5
                              | bor k => cases q5
                              | shr k => cases q5
                              | dat dz =>
                                dsimp only at q5
                                intro yv F8 H8 p8 ry
                                have ry : Rep K C F8 yv dz := ry
                                split at q5
                                · rename_i la
                                  have c8 := c7.thru p8
                                  obtain ⟨xs, hL8, rs⟩ := c8.at_
                                  exact ⟨xs, hL8, by rw [rs.length]; exact line10000' la, wipeR ρ8 vs1, F8, acc5 ++ [dz], (c8.push n1 ry hL8).wiped vs1 (by rw [wl1, len3]) out3, q5⟩
                                · cases q5
                · have e : j = ds1.length := by omega
                  subst e
                  rw [List.drop_length] at q5
                  cases q5
                  refine .inl ⟨w1.stops H5 gg1, wipeR ρ9 vs, F5, acc9, ?_, fun i hi x e => (wipeR_some e).2 hi, q'⟩
                  have cz := c4.back n0 c5
                  refine cz.wiped vs (by rw [wl, wl1, len2]) fun i n => ?_
                  rw [out2 i n, wipe_out fun y => n (hv i y)]
  · have e : i = ds.length := by omega
    subst e
    rw [List.drop_length] at q'
    refine .inl ⟨w.stops H' gg, ?_⟩
    have cf := c.wiped vs wl.symm fun i n => (wipe_out n).symm
    rw [wipeR_idem ρ' vs free] at cf
    obtain ⟨xs, hL, rs⟩ := cf.at_
    refine q' _ F' H' cf.post ⟨L, rfl, ⟨cf.free, xs, hL, rs⟩, fun x f => ?_⟩
    obtain rfl : x = L := f
    exact ⟨cf.no, n0⟩
end
section
variable {X : Cx} {C : Cl} {B : Bw} {W : WX} {elt tg iter tg1 iter1 : Expr} {ifs ifs1 : List Expr} {scope : Scope} {own : List (Str × Nat)} {vs1 : List Nat} {pos spos py : Pos} {fi fi1 : Ef Wk} {h h1 : D → Sl → Option Sl} {ft ft1 : Ef Bool} {fe : DE} {js js1 : List Nat} {y : Str} {i np : Nat}
theorem pd_lc2 (hc : X.calm = true) (hN : X.N.Nodup) (hi : PDI X C B W tg iter fi) (ok : BlkOk X.N X.env.scope scope own) (hv : ∀ i ∈ vs1, i ∈ own.map (·.2)) (hj : ∀ j ∈ js, j ∈ own.map (·.2)) (hj1 : ∀ j ∈ js1, j ∈ vs1)
    (hg : ∀ (s : Shared) (H : Hp) (L : Addr) (cl : List (Str × Addr)) (fp : List Addr), PDG (X.blk s H scope (compEnvC scope cl L X.env) fp) C B js tg h) (ht : ∀ (s : Shared) (H : Hp) (L : Addr) (cl : List (Str × Addr)) (fp : List Addr), PTs (X.blk s H scope (compEnvC scope cl L X.env) fp) ifs (tT X.K C B W0 ft))
    (hi1 : ∀ (s : Shared) (H : Hp) (L : Addr) (cl : List (Str × Addr)) (fp : List Addr), PDI (X.blk s H scope (compEnvC scope cl L X.env) fp) C B W0 tg1 iter1 fi1)
    (hg1 : ∀ (s : Shared) (H : Hp) (L : Addr) (cl : List (Str × Addr)) (fp : List Addr), PDG (X.blk s H scope (compEnvC scope cl L X.env) fp) C B js1 tg1 h1) (ht1 : ∀ (s : Shared) (H : Hp) (L : Addr) (cl : List (Str × Addr)) (fp : List Addr), PTs (X.blk s H scope (compEnvC scope cl L X.env) fp) ifs1 (tT X.K C B W0 ft1))
    (he : ∀ (s : Shared) (H : Hp) (L : Addr) (cl : List (Str × Addr)) (fp : List Addr), PD (X.blk s H scope (compEnvC scope cl L X.env) fp) C B W0 elt fe) (hs : ∀ x, foldedSetIterable iter X.env x = pure x := by intro _; rfl) (hs1 : ∀ env x, foldedSetIterable iter1 env x = pure x := by intro _ _; rfl) :
    PD X C B W (.ListComp elt [⟨tg, iter, ifs, 0⟩, ⟨tg1, iter1, ifs1, 0⟩] scope pos) (dLc2 (own.map (·.2)) vs1 fi h ft fi1 h1 ft1 fe) := PE.conv (pe_lc2 hc hN hi ok hv hg ht hi1 hg1 ht1 (fun s H L cl fp => pd_frz (he s H L cl fp)) hs hs1) fun σ H Q q => lc2_run hj hj1 hv q
theorem pds_setLc2 (hn : B.np = np) (hc : X.calm = true) (hN : X.N.Nodup) (hy : X.N[i]? = some y) (hyl : X.env.scope.names.lookup y = some .local)
    (hsw : swapsWith (.ListComp elt [⟨tg, iter, ifs, 0⟩, ⟨tg1, iter1, ifs1, 0⟩] scope pos) (some (.Name y py)) spos.line X.env = pure true) (hi : PDI X C B W tg iter fi) (ok : BlkOk X.N X.env.scope scope own) (hv : ∀ i ∈ vs1, i ∈ own.map (·.2)) (hj : ∀ j ∈ js, j ∈ own.map (·.2)) (hj1 : ∀ j ∈ js1, j ∈ vs1)
    (hg : ∀ (s : Shared) (H : Hp) (L : Addr) (cl : List (Str × Addr)) (fp : List Addr), PDG (X.blk s H scope (compEnvC scope cl L X.env) fp) C B js tg h) (ht : ∀ (s : Shared) (H : Hp) (L : Addr) (cl : List (Str × Addr)) (fp : List Addr), PTs (X.blk s H scope (compEnvC scope cl L X.env) fp) ifs (tT X.K C B W0 ft))
    (hi1 : ∀ (s : Shared) (H : Hp) (L : Addr) (cl : List (Str × Addr)) (fp : List Addr), PDI (X.blk s H scope (compEnvC scope cl L X.env) fp) C B W0 tg1 iter1 fi1)
    (hg1 : ∀ (s : Shared) (H : Hp) (L : Addr) (cl : List (Str × Addr)) (fp : List Addr), PDG (X.blk s H scope (compEnvC scope cl L X.env) fp) C B js1 tg1 h1) (ht1 : ∀ (s : Shared) (H : Hp) (L : Addr) (cl : List (Str × Addr)) (fp : List Addr), PTs (X.blk s H scope (compEnvC scope cl L X.env) fp) ifs1 (tT X.K C B W0 ft1))
    (he : ∀ (s : Shared) (H : Hp) (L : Addr) (cl : List (Str × Addr)) (fp : List Addr), PD (X.blk s H scope (compEnvC scope cl L X.env) fp) C B W0 elt fe) (hs : ∀ x, foldedSetIterable iter X.env x = pure x := by intro _; rfl) (hs1 : ∀ env x, foldedSetIterable iter1 env x = pure x := by intro _ _; rfl) :
    PDS X C B W (.Assign [.Name y py] (.ListComp elt [⟨tg, iter, ifs, 0⟩, ⟨tg1, iter1, ifs1, 0⟩] scope pos) spos) (sSet i np (dLc2 (own.map (·.2)) vs1 fi h ft fi1 h1 ft1 fe)) :=
  PS.conv (ps_setLc2 hc hN hy hyl hsw hi ok hv hg ht hi1 hg1 ht1 (fun s H L cl fp => pd_frz (he s H L cl fp)) hs hs1) fun E σ H q => lc2_run hj hj1 hv (set_run hn q)
end
end Pl
set_option Elab.async false
set_option linter.all false
set_option maxRecDepth 100000
set_option maxHeartbeats 4000000
/-! Calls of defs; a def by what its body makes. -/
namespace Pl
open PySem PySem.Spec PyProof.Rows L2 Tk

/-- a def's promise: it makes f of its arguments' slots -/
def spF (K : PySem.W.Frag) (C : Cl) (f : DE) : Sp := fun vs H Q E => tG (kR K C) noB (fun cls d _ H => E cls d H) f (vs.map some) H Q
/-- a slot's thing, to be read only -/
def lend : Option (Option SV) → Option SV
  | some (some (.dat d)) => some (.dat d)
  | some (some (.own m)) => some (.lck m)
  | some (some (.lck m)) => some (.lck m)
  | _ => none
/-- the arguments; things of slots are handed over, or lent -/
def takeArgs : List RV → Sl → Option (List (Option SV) × Sl)
  | [], ρ => some ([], ρ)
  | .dat d :: rs, ρ => match takeArgs rs ρ with
    | some (as, ρ') => some (some (.dat d) :: as, ρ')
    | none => none
  | .bor i :: rs, ρ => match ρ[i]? with
    | some (some (.dat d)) => match takeArgs rs ρ with
      | some (as, ρ') => some (some (.dat d) :: as, ρ')
      | none => none
    | some (some (.own m)) => match takeArgs rs (ρ.set i none) with
      | some (as, ρ') => some (some (.own m) :: as, ρ')
      | none => none
    | some (some (.lck m)) => match takeArgs rs ρ with
      | some (as, ρ') => match lend ρ'[i]? with
        | some s => some (some s :: as, ρ')
        | none => none
      | none => none
    | _ => none
  | .shr i :: rs, ρ => match takeArgs rs ρ with
    | some (as, ρ') => match lend ρ'[i]? with
      | some s => some (some s :: as, ρ')
      | none => none
    | none => none
  | .own _ :: _, _ => none
def giveBack : List RV → List (Option SV) → Sl → Sl → Sl
  | .bor i :: rs, some (.own _) :: as, some (.own m) :: fs, ρ => giveBack rs as fs (ρ.set i (some (.own m)))
  | _ :: rs, _ :: as, _ :: fs, ρ => giveBack rs as fs ρ
  | _, _, _, ρ => ρ
def gCallF (f : DE) (rs : List RV) : DE := fun ρ => match takeArgs rs ρ with
  | some (as, ρd) => match f as with
    | some (.ok (.dat d) fin) => some (.ok (.dat d) (giveBack rs as fin ρd))
    | some (.ok (.own m) fin) => some (.ok (.own m) (giveBack rs as fin ρd))
    | some (.exc c fs fin) => some (.exc c fs (giveBack rs as fin ρd))
    | _ => none
  | none => none
section
variable {K : PySem.W.Frag} {C : Cl} {B : Bw} {W : WX} {z : At0} {F H F' H' : Hp} {ρ ρq : Sl} {σ : L2.St} {Q : VK}
structure Taken (K : PySem.W.Frag) (C : Cl) (B : Bw) (z : At0) (ρ : Sl) (σ : L2.St) (F H : Hp) (vs : List V) (rs : List RV) (as : List (Option SV)) (ρd : Sl) : Prop where
  len : as.length = vs.length
  post : Post K C B z ρd F σ H
  sub : ∀ (j : Nat) (x : SV), ρd[j]? = some (some x) → ρ[j]? = some (some x)
  dat : ∀ (k : Nat) (d : D), as[k]? = some (some (.dat d)) → ∃ v, vs[k]? = some v ∧ Rep K C F v d
  own : ∀ (k : Nat) (m : MO), as[k]? = some (some (.own m)) → ∃ (i : Nat) (a : Addr), rs[k]? = some (.bor i) ∧ ρ[i]? = some (some (.own m)) ∧ vs[k]? = some (.ref a) ∧ σ[i]? = some (some (.ref a)) ∧ ∀ x, ρd[i]? ≠ some (some x)
  lck : ∀ (k : Nat) (m : MO), as[k]? = some (some (.lck m)) → ∃ (i : Nat) (a : Addr) (s : SV), ρd[i]? = some (some s) ∧ thing s = some m ∧ vs[k]? = some (.ref a) ∧ σ[i]? = some (some (.ref a))
  one : ∀ (k k' : Nat) (m m' : MO) (i : Nat), as[k]? = some (some (.own m)) → as[k']? = some (some (.own m')) → rs[k]? = some (.bor i) → rs[k']? = some (.bor i) → k = k'
theorem unset {ρ : Sl} {i j : Nat} {x : SV} (h : (ρ.set i none)[j]? = some (some x)) : j ≠ i ∧ ρ[j]? = some (some x) := by
  rcases set_cases h with ⟨_, y, _⟩ | y
  · cases y
  · exact y
/-- one more argument that is not handed over -/
theorem Taken.push {v : V} {r : RV} {vs : List V} {rs : List RV} {as : List (Option SV)} {ρd : Sl} {s : SV} (t : Taken K C B z ρ σ F H vs rs as ρd) (no : ∀ m, s ≠ .own m) (hd : ∀ d, s = .dat d → Rep K C F v d)
    (hl : ∀ m, s = .lck m → ∃ (i : Nat) (a : Addr) (s' : SV), ρd[i]? = some (some s') ∧ thing s' = some m ∧ v = .ref a ∧ σ[i]? = some (some (.ref a))) : Taken K C B z ρ σ F H (v :: vs) (r :: rs) (some s :: as) ρd := by
  refine ⟨congrArg Nat.succ t.len, t.post, t.sub, fun k d h => ?_, fun k m h => ?_, fun k m h => ?_, fun k k' m m' i h1 h2 h3 h4 => ?_⟩
  · cases k with
    | zero => simp at h; exact ⟨v, rfl, hd d h⟩
    | succ k => exact t.dat k d (by simpa using h)
  · cases k with
    | zero => simp at h; exact (no m h).elim
    | succ k => exact t.own k m (by simpa using h)
  · cases k with
    | zero =>
      simp at h
      obtain ⟨i, a, s', e1, e2, rfl, e4⟩ := hl m h
      exact ⟨i, a, s', e1, e2, rfl, e4⟩
    | succ k => exact t.lck k m (by simpa using h)
  · cases k with
    | zero => simp at h1; exact (no m h1).elim
    | succ k =>
      cases k' with
      | zero => simp at h2; exact (no m' h2).elim
      | succ k' => exact congrArg Nat.succ (t.one k k' m m' i (by simpa using h1) (by simpa using h2) (by simpa using h3) (by simpa using h4))
theorem Taken.lent {v : V} {r : RV} {vs : List V} {rs : List RV} {as : List (Option SV)} {ρd : Sl} {s : SV} {i : Nat} (t : Taken K C B z ρ σ F H vs rs as ρd) (h : σ[i]? = some (some v)) (e : lend ρd[i]? = some s) : Taken K C B z ρ σ F H (v :: vs) (r :: rs) (some s :: as) ρd := by
  unfold lend at e
  split at e
  · rename_i d q
    cases e
    obtain ⟨v', e1, rr⟩ := t.post.st.dat i d q
    rw [h] at e1
    cases e1
    exact t.push (fun _ w => by cases w) (fun _ w => by cases w; exact rr) fun _ w => by cases w
  · rename_i m q
    cases e
    obtain ⟨a, e1, _⟩ := t.post.st.thg i _ m q rfl
    rw [h] at e1
    cases e1
    exact t.push (fun _ w => by cases w) (fun _ w => by cases w) fun _ w => by cases w; exact ⟨i, a, _, q, rfl, rfl, h⟩
  · rename_i m q
    cases e
    obtain ⟨a, e1, _⟩ := t.post.st.thg i _ m q rfl
    rw [h] at e1
    cases e1
    exact t.push (fun _ w => by cases w) (fun _ w => by cases w) fun _ w => by cases w; exact ⟨i, a, _, q, rfl, rfl, h⟩
  · cases e
theorem takeArgs_spec : ∀ {rs : List RV} {vs : List V} {ρ : Sl} {as : List (Option SV)} {ρd : Sl}, Post K C B z ρ F σ H → RepRVs K C z ρq F σ H vs rs → takeArgs rs ρ = some (as, ρd) → Taken K C B z ρ σ F H vs rs as ρd
  | [], _, ρ, as, ρd, p, q, e => by
    cases q
    cases e
    exact ⟨rfl, p, fun _ _ h => h, fun k d h => by simp at h, fun k m h => by simp at h, fun k m h => by simp at h, fun k k' m m' i h => by simp at h⟩
  | .own m :: rs, _, ρ, as, ρd, p, q, e => by cases e
  | .dat d :: rs, _, ρ, as, ρd, p, .cons x t _, e => by
    unfold takeArgs at e
    split at e
    · rename_i as' ρ' e'
      cases e
      exact (takeArgs_spec p t e').push (fun _ w => by cases w) (fun _ w => by cases w; exact x) fun _ w => by cases w
    · cases e
  | .shr i :: rs, _, ρ, as, ρd, p, .cons (v := v) x t _, e => by
    have x : σ[i]? = some (some v) := x
    unfold takeArgs at e
    split at e
    · rename_i as' ρ' e'
      split at e
      · rename_i s es
        cases e
        exact (takeArgs_spec p t e').lent x es
      · cases e
    · cases e
  | .bor i :: rs, _, ρ, as, ρd, p, .cons (v := v) x t _, e => by
    have x : σ[i]? = some (some v) := x
    unfold takeArgs at e
    split at e
    · rename_i d hd
      split at e
      · rename_i as' ρ' e'
        cases e
        obtain ⟨v', e1, r⟩ := p.st.dat i _ hd
        rw [x] at e1
        cases e1
        exact (takeArgs_spec p t e').push (fun _ w => by cases w) (fun _ w => by cases w; exact r) fun _ w => by cases w
      · cases e
    · rename_i m hm
      split at e
      · rename_i as' ρ' e'
        cases e
        have ih := takeArgs_spec (p.drop i) t e'
        obtain ⟨a, ea, _⟩ := p.st.own hm
        rw [x] at ea
        cases ea
        have gone : ∀ x, ρd[i]? ≠ some (some x) := fun x h => (unset (ih.sub i x h)).1 rfl
        refine ⟨congrArg Nat.succ ih.len, ih.post, fun j x h => (unset (ih.sub j x h)).2, fun k d' h => ?_, fun k m' h => ?_, fun k m' h => ?_, fun k k' m1 m2 i' h1 h2 h3 h4 => ?_⟩
        · cases k with
          | zero => simp at h
          | succ k => exact ih.dat k d' (by simpa using h)
        · cases k with
          | zero => simp at h; subst h; exact ⟨i, a, rfl, hm, rfl, x, gone⟩
          | succ k =>
            obtain ⟨i', a', g1, g2, g3, g4, g5⟩ := ih.own k m' (by simpa using h)
            exact ⟨i', a', by simpa using g1, (unset g2).2, by simpa using g3, g4, g5⟩
        · cases k with
          | zero => simp at h
          | succ k => exact ih.lck k m' (by simpa using h)
        · cases k with
          | zero =>
            cases k' with
            | zero => rfl
            | succ k' =>
              obtain ⟨i2, a', g1, g2, _⟩ := ih.own k' m2 (by simpa using h2)
              have z1 : i = i' := by simpa using h3
              have z2 : rs[k']? = some (RV.bor i') := by simpa using h4
              rw [z2] at g1
              cases g1
              exact ((unset g2).1 z1.symm).elim
          | succ k =>
            cases k' with
            | zero =>
              obtain ⟨i2, a', g1, g2, _⟩ := ih.own k m1 (by simpa using h1)
              have z1 : i = i' := by simpa using h4
              have z2 : rs[k]? = some (RV.bor i') := by simpa using h3
              rw [z2] at g1
              cases g1
              exact ((unset g2).1 z1.symm).elim
            | succ k' => exact congrArg Nat.succ (ih.one k k' m1 m2 i' (by simpa using h1) (by simpa using h2) (by simpa using h3) (by simpa using h4))
      · cases e
    · rename_i m hm
      split at e
      · rename_i as' ρ' e'
        split at e
        · rename_i s es
          cases e
          exact (takeArgs_spec p t e').lent x es
        · cases e
      · cases e
    · cases e
theorem map_some {vs : List V} {k : Nat} {v : V} : (vs.map some)[k]? = some (some v) ↔ vs[k]? = some v := by
  rw [List.getElem?_map]
  cases vs[k]? <;> simp
section
variable {vs : List V} {rs : List RV} {as fin : List (Option SV)} {ρd : Sl}
theorem Taken.owns (t : Taken K C B z ρ σ F H vs rs as ρd) {x : Addr} (h : OwnA as (vs.map some) H x) : OwnA ρ σ H x := by
  obtain ⟨k, m, a, h1, h2, f⟩ := h
  obtain ⟨i, b, g1, g2, g3, g4, _⟩ := t.own k m h1
  rw [map_some.mp h2] at g3
  cases g3
  exact ⟨i, m, a, g2, g4, f⟩
theorem Taken.apart (t : Taken K C B z ρ σ F H vs rs as ρd) (p : Post K C B z ρ F σ H) {x : Addr} (h : OwnA as (vs.map some) H x) (h' : Held ρd σ H x) : False := by
  obtain ⟨k, m, a, h1, h2, f⟩ := h
  obtain ⟨i, b, g1, g2, g3, g4, g5⟩ := t.own k m h1
  rw [map_some.mp h2] at g3
  cases g3
  obtain ⟨j, s, m', c, e1, th, e2, f2⟩ := h'
  refine p.st.sep i j a c x m m' s ?_ g2 (t.sub j _ e1) th g4 e2 f f2
  rintro rfl
  exact g5 _ e1
theorem Taken.args (t : Taken K C B z ρ σ F H vs rs as ρd) (p : Post K C B z ρ F σ H) : RepSt K C noB as F (vs.map some) H := by
  refine ⟨by rw [List.length_map, t.len], p.st.sub, fun k d h => ?_, fun k s m h th => ?_, fun k k' a b x m m' s n h1 h2 th h3 h4 f1 f2 => ?_, fun k m h => absurd h (Nat.not_lt_zero _)⟩
  · obtain ⟨v, e, r⟩ := t.dat k d h
    exact ⟨v, map_some.mpr e, r⟩
  · cases s with
    | dat d => cases th
    | own m1 =>
      cases th
      obtain ⟨i, a, _, g2, g3, g4, _⟩ := t.own k m h
      obtain ⟨b, e1, r⟩ := p.st.own g2
      rw [g4] at e1
      cases e1
      exact ⟨a, map_some.mpr g3, r⟩
    | lck m1 =>
      cases th
      obtain ⟨i, a, s', g1, g2, g3, g4⟩ := t.lck k m h
      obtain ⟨b, e1, r⟩ := t.post.st.thg i s' m g1 g2
      rw [g4] at e1
      cases e1
      exact ⟨a, map_some.mpr g3, r⟩
  · have ow : OwnA as (vs.map some) H x := ⟨k, m, a, h1, h3, f1⟩
    cases s with
    | dat d => cases th
    | own m1 =>
      cases th
      obtain ⟨i, b1, g1, g2, g3, g4, _⟩ := t.own k m h1
      obtain ⟨i', b1', g1', g2', g3', g4', _⟩ := t.own k' m' h2
      rw [map_some.mp h3] at g3
      rw [map_some.mp h4] at g3'
      cases g3
      cases g3'
      by_cases hi : i = i'
      · subst hi
        exact n (t.one k k' m m' i h1 h2 g1 g1')
      · exact p.st.sep i i' a b x m m' _ hi g2 g2' rfl g4 g4' f1 f2
    | lck m1 =>
      cases th
      obtain ⟨i, c, s', g1, g2, g3, g4⟩ := t.lck k' m' h2
      rw [map_some.mp h4] at g3
      cases g3
      exact t.apart p ow (Held.of g1 g2 g4 f2)
/-- behind the call, the things handed over still away -/
theorem Taken.behind (t : Taken K C B z ρ σ F H vs rs as ρd) (p : Post K C B z ρ F σ H) (q : Post K C noB (here as F (vs.map some) H) fin F' (vs.map some) H') : Post K C B z ρd F' σ H' := by
  have stay : ∀ {x : Addr}, Held ρd σ H x → H' x = H x ∧ F' x = none := fun {x} h => by
    obtain ⟨n, o, ho⟩ := t.post.st.held h
    exact q.stays n ho fun y => t.apart p y h
  have foot : ∀ {i : Nat} {s : SV} {m : MO} {a x : Addr}, ρd[i]? = some (some s) → thing s = some m → σ[i]? = some (some (.ref a)) → Foot H' a m x → Foot H a m x := fun e th q f => (Foot.same (stay (Held.of e th q (Foot.root _ _ _))).1).mp f
  refine ⟨p.mono.trans q.mono, fun b o e s => ?_, fun b o e => ?_, ⟨t.post.st.len, q.st.sub, fun i d e => ?_, fun i s m e th => ?_, fun i j a b x m m' s n e1 e2 th q1 q2 f1 f2 => t.post.st.sep i j a b x m m' s n e1 e2 th q1 q2 (foot e1 rfl q1 f1) (foot e2 th q2 f2), t.post.st.fix⟩,
    fun x ⟨i, m, a, e, q, f⟩ => t.post.low x ⟨i, m, a, e, q, foot e rfl q f⟩, fun x ⟨i, s, m, a, e, th, q, f⟩ => t.post.lowL x ⟨i, s, m, a, e, th, q, foot e th q f⟩, p.good, t.post.lks⟩
  · refine q.frame b o (p.frame b o e s) fun y => ?_
    rcases p.low b (t.owns y) with u | u
    · exact s u
    · rw [e] at u; cases u
  · rcases q.new b o e with h | h | h
    · exact p.new b o h
    · exact .inr (p.there h).symm
    · exact .inr (p.low b (t.owns h)).symm
  · obtain ⟨v, e1, r⟩ := t.post.st.dat i d e
    exact ⟨v, e1, r.to q.mono⟩
  · obtain ⟨a, e1, r⟩ := t.post.st.thg i s m e th
    exact ⟨a, e1, r.to q.mono fun x f => stay (Held.of e th e1 f)⟩
end
theorem giveBack_spec : ∀ {rs : List RV} {as fin : List (Option SV)} {ρ : Sl}, Post K C B z ρ F σ H →
    (∀ (k i : Nat) (m m' : MO), rs[k]? = some (.bor i) → as[k]? = some (some (.own m)) → fin[k]? = some (some (.own m')) → (∀ x, ρ[i]? ≠ some (some x)) ∧ ∃ a, σ[i]? = some (some (.ref a)) ∧ RepM K C F H a m' ∧ (∀ x, Foot H a m' x → ¬ Held ρ σ H x ∧ (z.S x ∨ z.H x = none)) ∧ (i < B.np → ∃ b, B.B i = some b ∧ σ[i]? = some (some (.ref b)))) →
    (∀ (k k' i i' : Nat) (m m' n n' : MO) (a b x : Addr), k ≠ k' → rs[k]? = some (.bor i) → as[k]? = some (some (.own m)) → fin[k]? = some (some (.own n)) → rs[k']? = some (.bor i') → as[k']? = some (some (.own m')) → fin[k']? = some (some (.own n')) → σ[i]? = some (some (.ref a)) → σ[i']? = some (some (.ref b)) → Foot H a n x → Foot H b n' x → False) →
    Post K C B z (giveBack rs as fin ρ) F σ H ∧ ∀ x, Held (giveBack rs as fin ρ) σ H x → Held ρ σ H x ∨ ∃ (k i : Nat) (m m' : MO) (a : Addr), rs[k]? = some (.bor i) ∧ as[k]? = some (some (.own m)) ∧ fin[k]? = some (some (.own m')) ∧ σ[i]? = some (some (.ref a)) ∧ Foot H a m' x
  | [], as, fin, ρ, p, _, _ => by
    have e : giveBack [] as fin ρ = ρ := by unfold giveBack; cases as <;> cases fin <;> rfl
    rw [e]
    exact ⟨p, fun a h => .inl h⟩
  | r :: rs, [], fin, ρ, p, _, _ => by
    have e : giveBack (r :: rs) [] fin ρ = ρ := by cases r <;> rfl
    rw [e]
    exact ⟨p, fun a h => .inl h⟩
  | r :: rs, o :: as, [], ρ, p, _, _ => by
    have e : giveBack (r :: rs) (o :: as) [] ρ = ρ := by
      cases r <;> first
        | rfl
        | (rcases o with _ | (_ | _ | _) <;> rfl)
    rw [e]
    exact ⟨p, fun a h => .inl h⟩
  | r :: rs, o :: as, f :: fs, ρ, p, h, u => by
    have u' : ∀ (k k' i i' : Nat) (m m' n n' : MO) (a b x : Addr), k ≠ k' → rs[k]? = some (.bor i) → as[k]? = some (some (.own m)) → fs[k]? = some (some (.own n)) → rs[k']? = some (.bor i') → as[k']? = some (some (.own m')) → fs[k']? = some (some (.own n')) → σ[i]? = some (some (.ref a)) → σ[i']? = some (some (.ref b)) → Foot H a n x → Foot H b n' x → False :=
      fun k k' i i' m m' n n' a b x ne g1 g2 g3 g4 g5 g6 => u (k + 1) (k' + 1) i i' m m' n n' a b x (by omega) (by simpa using g1) (by simpa using g2) (by simpa using g3) (by simpa using g4) (by simpa using g5) (by simpa using g6)
    have plain : giveBack (r :: rs) (o :: as) (f :: fs) ρ = giveBack rs as fs ρ → Post K C B z (giveBack (r :: rs) (o :: as) (f :: fs) ρ) F σ H ∧ ∀ x, Held (giveBack (r :: rs) (o :: as) (f :: fs) ρ) σ H x → Held ρ σ H x ∨ ∃ (k i : Nat) (m m' : MO) (a : Addr), (r :: rs)[k]? = some (.bor i) ∧ (o :: as)[k]? = some (some (.own m)) ∧ (f :: fs)[k]? = some (some (.own m')) ∧ σ[i]? = some (some (.ref a)) ∧ Foot H a m' x := by
      intro e
      rw [e]
      obtain ⟨p1, c1⟩ := giveBack_spec (rs := rs) (as := as) (fin := fs) p (fun k i m m' g1 g2 g3 => h (k + 1) i m m' (by simpa using g1) (by simpa using g2) (by simpa using g3)) u'
      refine ⟨p1, fun a y => ?_⟩
      rcases c1 a y with y | ⟨k, i, m, m', c, g1, g2, g3, g4⟩
      · exact .inl y
      · exact .inr ⟨k + 1, i, m, m', c, by simpa using g1, by simpa using g2, by simpa using g3, g4⟩
    match r, o, f, plain, h, u with
    | .bor i, some (.own m), some (.own m'), _, h, u =>
      obtain ⟨g0, a, g1, g2, g3, g4⟩ := h 0 i m m' rfl rfl rfl
      have p0 := p.putN (i := i) (m := m') g0 g1 g2 g3 g4
      have e : giveBack (.bor i :: rs) (some (.own m) :: as) (some (.own m') :: fs) ρ = giveBack rs as fs (ρ.set i (some (.own m'))) := rfl
      rw [e]
      have held0 : ∀ x, Held (ρ.set i (some (.own m'))) σ H x → Held ρ σ H x ∨ Foot H a m' x := by
        rintro x ⟨j, s, n, c, h1, th, h2, f⟩
        rcases set_cases h1 with ⟨rfl, y, _⟩ | ⟨_, y⟩
        · cases y
          cases th
          rw [g1] at h2
          cases h2
          exact .inr f
        · exact .inl ⟨j, s, n, c, y, th, h2, f⟩
      obtain ⟨p1, c1⟩ := giveBack_spec (rs := rs) (as := as) (fin := fs) p0 (fun k i' n n' q1 q2 q3 => by
        obtain ⟨z0, b, z1, z2, z3, z4⟩ := h (k + 1) i' n n' (by simpa using q1) (by simpa using q2) (by simpa using q3)
        refine ⟨fun x w => ?_, b, z1, z2, fun x f => ⟨fun y => ?_, (z3 x f).2⟩, z4⟩
        · rcases set_cases w with ⟨rfl, _, _⟩ | ⟨_, y⟩
          · rw [g1] at z1
            cases z1
            exact u 0 (k + 1) i' i' m n m' n' a a a (by omega) rfl rfl rfl (by simpa using q1) (by simpa using q2) (by simpa using q3) g1 g1 (Foot.root _ _ _) (Foot.root _ _ _)
          · exact z0 x y
        · rcases held0 x y with y | y
          · exact (z3 x f).1 y
          · exact u 0 (k + 1) i i' m n m' n' a b x (by omega) rfl rfl rfl (by simpa using q1) (by simpa using q2) (by simpa using q3) g1 z1 y f) u'
      refine ⟨p1, fun x y => ?_⟩
      rcases c1 x y with y | ⟨k, i', n, n', b, q1, q2, q3, q4⟩
      · rcases held0 x y with y | y
        · exact .inl y
        · exact .inr ⟨0, i, m, m', a, rfl, rfl, rfl, g1, y⟩
      · exact .inr ⟨k + 1, i', n, n', b, by simpa using q1, by simpa using q2, by simpa using q3, q4⟩
    | .bor i, some (.own m), none, plain, _, _ => exact plain rfl
    | .bor i, some (.own m), some (.dat d), plain, _, _ => exact plain rfl
    | .bor i, some (.own m), some (.lck d), plain, _, _ => exact plain rfl
    | .bor i, some (.dat d), f, plain, _, _ => exact plain rfl
    | .bor i, some (.lck d), f, plain, _, _ => exact plain rfl
    | .bor i, none, f, plain, _, _ => exact plain rfl
    | .dat d, o, f, plain, _, _ => exact plain rfl
    | .own m, o, f, plain, _, _ => exact plain rfl
    | .shr m, o, f, plain, _, _ => exact plain rfl
section
variable {vs : List V} {rs : List RV} {as fin : List (Option SV)} {ρd : Sl}
/-- behind the call -/
theorem Taken.done (t : Taken K C B z ρ σ F H vs rs as ρd) (p : Post K C B z ρ F σ H) (q : Post K C noB (here as F (vs.map some) H) fin F' (vs.map some) H') :
    Post K C B z (giveBack rs as fin ρd) F' σ H' ∧ ∀ x, Held (giveBack rs as fin ρd) σ H' x → Held ρd σ H' x ∨ Held fin (vs.map some) H' x := by
  have pb := t.behind p q
  -- what the callee holds at its end is none of what stayed with the caller
  have ap : ∀ x, OwnA fin (vs.map some) H' x → ¬ Held ρd σ H' x := fun x h1 h2 => by
    obtain ⟨j, s, m, c, e1, th, e2, f⟩ := h2
    have hr := Held.of e1 th e2 (Foot.root H c m)
    obtain ⟨nr, orr, hor⟩ := t.post.st.held hr
    have er := (q.stays nr hor fun y => t.apart p y hr).1
    have hx : Held ρd σ H x := Held.of e1 th e2 ((Foot.same er).mp f)
    obtain ⟨_, o, ho⟩ := t.post.st.held hx
    rcases q.low x h1 with y | y
    · exact t.apart p y hx
    · exact ho.symm.trans y |> fun w => by cases w
  obtain ⟨p1, c1⟩ := giveBack_spec (rs := rs) (as := as) (fin := fin) pb (fun k i m m' g1 g2 g3 => by
    obtain ⟨i', a, z1, z2, z3, z4, z5⟩ := t.own k m g2
    rw [g1] at z1
    cases z1
    obtain ⟨b, e1, r⟩ := q.st.own g3
    rw [map_some.mpr z3] at e1
    cases e1
    refine ⟨z5, a, z4, r, fun x f => ?_, fun hi => p.st.fix i m hi z2⟩
    have ow : OwnA fin (vs.map some) H' x := ⟨k, m', a, g3, map_some.mpr z3, f⟩
    refine ⟨ap x ow, ?_⟩
    rcases q.low x ow with y | y
    · exact p.low x (t.owns y)
    · exact p.there y) (fun k k' i i' m m' n n' a b x ne g1 g2 g3 g4 g5 g6 g7 g8 f1 f2 => by
    obtain ⟨j, c, z1, z2, z3, z4, _⟩ := t.own k m g2
    obtain ⟨j', c', y1, y2, y3, y4, _⟩ := t.own k' m' g5
    rw [g1] at z1
    rw [g4] at y1
    cases z1
    cases y1
    rw [g7] at z4
    rw [g8] at y4
    cases z4
    cases y4
    exact q.st.sep k k' a b x n n' _ ne g3 g6 rfl (map_some.mpr z3) (map_some.mpr y3) f1 f2)
  refine ⟨p1, fun x y => ?_⟩
  rcases c1 x y with y | ⟨k, i, m, m', a, g1, g2, g3, g4, f⟩
  · exact .inl y
  · obtain ⟨j, b, z1, z2, z3, z4, _⟩ := t.own k m g2
    rw [g1] at z1
    cases z1
    rw [g4] at z4
    cases z4
    exact .inr (Held.of g3 rfl (map_some.mpr z3) f)
end
theorem call_run {f : DE} {vs : List V} {rs : List RV} (p : Post K C B z ρ F σ H) (q : RepRVs K C z ρ F σ H vs rs) (g : Goal K C B W z σ Q (gCallF f rs ρ)) : spF K C f vs H Q (WE W σ) := by
  unfold gCallF at g
  split at g
  · rename_i as ρd e
    have t := takeArgs_spec p q e
    refine ⟨as, F, t.args p, ?_⟩
    cases ef : f as with
    | none => rw [ef] at g; exact False.elim g
    | some o =>
      rw [ef] at g
      cases o with
      | exc c fs fin => exact fun dd F' H' pq ex => g dd F' H' (t.done p pq).1 ex
      | ok r fin =>
        cases r with
        | bor i => exact False.elim g
        | shr i => exact False.elim g
        | dat d => exact fun v F' H' pq rv => g v F' H' (t.done p pq).1 rv
        | own m =>
          rintro v F' H' pq ⟨a, rfl, rm, no⟩
          obtain ⟨p1, c1⟩ := t.done p pq
          refine g _ F' H' p1 ⟨a, rfl, rm, fun x f => ⟨fun y => ?_, ?_⟩⟩
          · rcases c1 x y with y | y
            · obtain ⟨j, s, m', c, e1, th, e2, f2⟩ := y
              have hr := Held.of e1 th e2 (Foot.root H c m')
              obtain ⟨nr, orr, hor⟩ := t.post.st.held hr
              have er := (pq.stays nr hor fun y => t.apart p y hr).1
              have hx : Held ρd σ H x := Held.of e1 th e2 ((Foot.same er).mp f2)
              rcases (no x f).2 with s | s
              · exact t.apart p s hx
              · obtain ⟨_, o, ho⟩ := t.post.st.held hx
                exact ho.symm.trans s |> fun w => by cases w
            · exact (no x f).1 y
          · rcases (no x f).2 with s | s
            · exact p.low x (t.owns s)
            · exact p.there s
  · exact False.elim g
end
end Pl
set_option Elab.async false
set_option linter.all false
set_option maxRecDepth 100000
set_option maxHeartbeats 4000000
/-! A def by what its body makes; its call by name. -/
namespace Pl
open PySem PySem.Spec PyProof.Rows L2 Tk

def finOf (n : Nat) (ρ : Sl) : Sl := (List.range n).map fun (i : Nat) => match ρ[i]? with
  | some (some (.own m)) => some (.own m)
  | _ => none
/-- what a def makes of its arguments' slots, its body making g -/
def callF (N n : Nat) (g : DS) : DE := fun as => if as.length = n then match g (as ++ List.replicate (N - n) none) with
    | some (.nx ρ) => some (.ok (.dat .non) (finOf n ρ))
    | some (.rt (.dat d) ρ) => some (.ok (.dat d) (finOf n ρ))
    | some (.rt (.own m) ρ) => some (.ok (.own m) (finOf n ρ))
    | some (.rt (.bor i) ρ) => match ρ[i]? with
      | some (some (.dat d)) => some (.ok (.dat d) (finOf n ρ))
      | some (some (.own m)) => if n ≤ i then some (.ok (.own m) (finOf n ρ)) else none
      | _ => none
    | some (.exc c fs ρ) => some (.exc c fs (finOf n ρ))
    | _ => none
  else none
section
variable {K : PySem.W.Frag} {C : Cl} {F H F' H' : Hp} {as ρ' : Sl} {vs : List V} {σ' : L2.St} {N : List Str} {n : Nat}
/-- what is borrowed at the entry -/
def bwOf (as : Sl) (vs : List V) : Bw := ⟨fun i => match as[i]?, vs[i]? with
  | some (some (.own _)), some (.ref a) => some a
  | _, _ => none, as.length⟩
theorem bwOf_inv {i : Nat} {a : Addr} (h : (bwOf as vs).B i = some a) : ∃ m, as[i]? = some (some (.own m)) ∧ vs[i]? = some (.ref a) := by
  have h : (match as[i]?, vs[i]? with | some (some (.own _)), some (.ref a) => some a | _, _ => none) = some a := h
  split at h
  · rename_i m b e1 e2
    cases h
    exact ⟨m, e1, e2⟩
  · cases h
theorem app_none {as : Sl} {k i : Nat} {x : SV} (h : (as ++ List.replicate k none)[i]? = some (some x)) : as[i]? = some (some x) := by
  by_cases hi : i < as.length
  · rw [List.getElem?_append_left hi] at h
    exact h
  · rw [List.getElem?_append_right (by omega), List.getElem?_replicate] at h
    split at h <;> cases h
theorem app_back {as : Sl} {k i : Nat} {x : SV} (h : as[i]? = some (some x)) : (as ++ List.replicate k none)[i]? = some (some x) := by
  rw [List.getElem?_append_left (List.getElem?_eq_some_iff.mp h).1]
  exact h
theorem start_at {i : Nat} {v : V} (h : vs[i]? = some v) : (L2.start N vs)[i]? = some (some v) := by
  unfold L2.start
  rw [List.getElem?_append_left (by rw [List.length_map]; exact (List.getElem?_eq_some_iff.mp h).1)]
  exact map_some.mpr h
theorem start_back {i : Nat} {v : V} (h : (L2.start N vs)[i]? = some (some v)) : vs[i]? = some v := by
  unfold L2.start at h
  by_cases hi : i < (vs.map some).length
  · rw [List.getElem?_append_left hi] at h
    exact map_some.mp h
  · rw [List.getElem?_append_right (by omega), List.getElem?_replicate] at h
    split at h <;> cases h
theorem start_map {i : Nat} {v : V} (h : (L2.start N vs)[i]? = some (some v)) : (vs.map some)[i]? = some (some v) := map_some.mpr (start_back h)
theorem map_start {i : Nat} {v : V} (h : (vs.map some)[i]? = some (some v)) : (L2.start N vs)[i]? = some (some v) := start_at (map_some.mp h)
theorem enter (h : RepSt K C noB as F (vs.map some) H) : RepSt K C (bwOf as vs) (as ++ List.replicate (N.length - as.length) none) F (L2.start N vs) H := by
  have l := h.len
  rw [List.length_map] at l
  refine ⟨?_, h.sub, fun i d e => ?_, fun i s m e t => ?_, fun i j a b x m m' s ne e1 e2 t e3 e4 f1 f2 => ?_, fun i m hi e => ?_⟩
  · unfold L2.start
    rw [List.length_append, List.length_append, List.length_replicate, List.length_replicate, List.length_map, l]
  · obtain ⟨v, e1, r⟩ := h.dat i d (app_none e)
    exact ⟨v, map_start e1, r⟩
  · obtain ⟨a, e1, r⟩ := h.thg i s m (app_none e) t
    exact ⟨a, map_start e1, r⟩
  · exact h.sep i j a b x m m' s ne (app_none e1) (app_none e2) t (start_map e3) (start_map e4) f1 f2
  · obtain ⟨a, e1, r⟩ := h.own (app_none e)
    refine ⟨a, ?_, map_start e1⟩
    show (match as[i]?, vs[i]? with | some (some (.own _)), some (.ref a) => some a | _, _ => none) = some a
    rw [app_none e, map_some.mp e1]
theorem here_enter : here (as ++ List.replicate (N.length - as.length) none) F (L2.start N vs) H = here as F (vs.map some) H := by
  have h1 : OwnA (as ++ List.replicate (N.length - as.length) none) (L2.start N vs) H = OwnA as (vs.map some) H := by
    funext x
    exact propext ⟨fun ⟨i, m, a, e1, e2, f⟩ => ⟨i, m, a, app_none e1, start_map e2, f⟩, fun ⟨i, m, a, e1, e2, f⟩ => ⟨i, m, a, app_back e1, map_start e2, f⟩⟩
  have h2 : Held (as ++ List.replicate (N.length - as.length) none) (L2.start N vs) H = Held as (vs.map some) H := by
    funext x
    exact propext ⟨fun ⟨i, s, m, a, e1, t, e2, f⟩ => ⟨i, s, m, a, app_none e1, t, start_map e2, f⟩, fun ⟨i, s, m, a, e1, t, e2, f⟩ => ⟨i, s, m, a, app_back e1, t, map_start e2, f⟩⟩
  have h3 : Lck (as ++ List.replicate (N.length - as.length) none) (L2.start N vs) = Lck as (vs.map some) := by
    funext i a m
    exact propext ⟨fun ⟨e1, e2⟩ => ⟨app_none e1, start_map e2⟩, fun ⟨e1, e2⟩ => ⟨app_back e1, map_start e2⟩⟩
  unfold here
  rw [h1, h2, h3]
theorem finOf_own {ρ : Sl} {i : Nat} {x : SV} (h : (finOf n ρ)[i]? = some (some x)) : i < n ∧ ∃ m, x = .own m ∧ ρ[i]? = some (some (.own m)) := by
  unfold finOf at h
  rw [List.getElem?_map] at h
  by_cases hi : i < n
  · rw [List.getElem?_range hi] at h
    simp only [Option.map_some, Option.some.injEq] at h
    refine ⟨hi, ?_⟩
    split at h
    · rename_i m e
      cases h
      exact ⟨m, rfl, e⟩
    · cases h
  · rw [List.getElem?_eq_none (by rw [List.length_range]; omega)] at h
    cases h
theorem leave (h : RepSt K C noB as F (vs.map some) H) (p : Post K C (bwOf as vs) (here as F (vs.map some) H) ρ' F' σ' H') : Post K C noB (here as F (vs.map some) H) (finOf as.length ρ') F' (vs.map some) H' ∧
    ∀ x, Held (finOf as.length ρ') (vs.map some) H' x → ∃ (i : Nat) (m : MO) (a : Addr), i < as.length ∧ ρ'[i]? = some (some (.own m)) ∧ σ'[i]? = some (some (.ref a)) ∧ Foot H' a m x := by
  have at_ : ∀ {i : Nat} {s : SV}, (finOf as.length ρ')[i]? = some (some s) → ∃ (m : MO) (a : Addr), s = .own m ∧ i < as.length ∧ ρ'[i]? = some (some (.own m)) ∧ σ'[i]? = some (some (.ref a)) ∧ (vs.map some)[i]? = some (some (.ref a)) := by
    intro i s e
    obtain ⟨hi, m, es, e'⟩ := finOf_own e
    obtain ⟨a, b1, b2⟩ := p.st.fix i m hi e'
    obtain ⟨m0, c1, c2⟩ := bwOf_inv b1
    exact ⟨m, a, es, hi, e', b2, map_some.mpr c2⟩
  have l := h.len
  rw [List.length_map] at l
  have hold : ∀ x, Held (finOf as.length ρ') (vs.map some) H' x → ∃ (i : Nat) (m : MO) (a : Addr), i < as.length ∧ ρ'[i]? = some (some (.own m)) ∧ σ'[i]? = some (some (.ref a)) ∧ Foot H' a m x := by
    rintro x ⟨i, s, m, a, e1, t, e2, f⟩
    obtain ⟨m', b, rfl, hi, g1, g2, g3⟩ := at_ e1
    cases t
    rw [e2] at g3
    cases g3
    exact ⟨i, m, a, hi, g1, g2, f⟩
  refine ⟨⟨p.mono, p.frame, p.new, ⟨by rw [List.length_map]; unfold finOf; simp [l], p.st.sub, fun i d e => ?_, fun i s m e t => ?_, fun i j a b x m m' s ne e1 e2 t e3 e4 f1 f2 => ?_, fun i m hi => absurd hi (Nat.not_lt_zero _)⟩, ?_, ?_, p.good, ?_⟩, hold⟩
  · obtain ⟨m, a, z, _⟩ := at_ e
    cases z
  · obtain ⟨m', a, rfl, hi, g1, g2, g3⟩ := at_ e
    cases t
    obtain ⟨b, e1, r⟩ := p.st.own g1
    rw [g2] at e1
    cases e1
    exact ⟨a, g3, r⟩
  · obtain ⟨m1, a', z, hi, g1, g2, g3⟩ := at_ e1
    cases z
    obtain ⟨m2, b', rfl, hi', g1', g2', g3'⟩ := at_ e2
    cases t
    rw [e3] at g3
    rw [e4] at g3'
    cases g3
    cases g3'
    exact p.st.sep i j a b x m m' _ ne g1 g1' rfl g2 g2' f1 f2
  · rintro x ⟨i, m, a, e1, e2, f⟩
    obtain ⟨m', b, z, hi, g1, g2, g3⟩ := at_ e1
    cases z
    rw [e2] at g3
    cases g3
    exact p.low x ⟨i, m, a, g1, g2, f⟩
  · intro x y
    obtain ⟨i, m, a, hi, g1, g2, f⟩ := hold x y
    exact p.lowL x ⟨i, _, m, a, g1, rfl, g2, f⟩
  · rintro i a m ⟨e1, e2⟩
    obtain ⟨m', b, z, _⟩ := at_ e1
    cases z
end
section
variable {P : Program} {w : World} {K : PySem.W.Frag} {mg : Str → Option Value} {base : Heap} {C : Cl}
/-- THE RULE for a def: its body makes g -/
theorem def_ok {x qual : Str} {st : Stmt} {f : Addr} {fd : FuncData} {N ps : List Str} {k n : Nat} {g : DS} (F : Fun K x qual st f fd) (S : FnScope N ps (defScope st)) (hn : ps.length = n)
    (body : ∀ (cdv : Value) (A : Around) (outer : List Env) (s : Shared) (H : Hp) (E : XK) (B : Bw), Room k (A.deeper (envOfC qual (defScope st) s.heap.objs.size f cdv)) → B.np = n →
      PDSs (cxOf (L2.CX P w) P w K mg base N qual (defScope st) f cdv A outer s H E) C B (fun cls d _ H => E cls d H) (defBody st) g) :
    FnOk P w K mg base (L2.CX P w) (k + 1) f fd ps (spF K C (callF N.length n g)) := by
  have arity : ∀ (vs : List V) (H : Hp) (Q : VK) (E : XK), spF K C (callF N.length n g) vs H Q E → vs.length = n := by
    rintro vs H Q E ⟨as, F0, st0, q⟩
    have l := st0.len
    rw [List.length_map] at l
    by_cases h : as.length = n
    · rw [l, h]
    · have e : callF N.length n g as = none := if_neg h
      rw [e] at q
      exact False.elim q
  refine F.okX S (fun vs H Q E h => by rw [hn]; exact arity vs H Q E h) fun cdv A outer s H vs Q E hr h => ?_
  have lv := arity vs H Q E h
  obtain ⟨as, F0, st0, q⟩ := h
  have la : as.length = n := by
    have l := st0.len
    rw [List.length_map] at l
    rw [← l, lv]
  refine ⟨_, body cdv A outer s H E (bwOf as vs) hr la, ?_⟩
  have he := here_enter (as := as) (vs := vs) (N := N) (F := F0) (H := H)
  have hen := enter (N := N) st0
  rw [la] at he hen
  refine ⟨as ++ List.replicate (N.length - n) none, F0, hen, ?_⟩
  rw [he]
  have ec : callF N.length n g as = (match g (as ++ List.replicate (N.length - n) none) with
    | some (.nx ρ) => some (.ok (.dat .non) (finOf n ρ))
    | some (.rt (.dat d) ρ) => some (.ok (.dat d) (finOf n ρ))
    | some (.rt (.own m) ρ) => some (.ok (.own m) (finOf n ρ))
    | some (.rt (.bor i) ρ) => match ρ[i]? with
      | some (some (.dat d)) => some (.ok (.dat d) (finOf n ρ))
      | some (some (.own m)) => if n ≤ i then some (.ok (.own m) (finOf n ρ)) else none
      | _ => none
    | some (.exc c fs ρ) => some (.exc c fs (finOf n ρ))
    | _ => none) := if_pos la
  rw [ec] at q
  have lv' : ∀ {ρ' : Sl} {σ' : L2.St} {F' H' : Hp}, Post K C (bwOf as vs) (here as F0 (vs.map some) H) ρ' F' σ' H' → Post K C noB (here as F0 (vs.map some) H) (finOf n ρ') F' (vs.map some) H' ∧
      ∀ x, Held (finOf n ρ') (vs.map some) H' x → ∃ (i : Nat) (m : MO) (a : Addr), i < n ∧ ρ'[i]? = some (some (.own m)) ∧ σ'[i]? = some (some (.ref a)) ∧ Foot H' a m x := by
    intro ρ' σ' F' H' p
    have := leave st0 p
    rw [la] at this
    exact this
  cases eg : g (as ++ List.replicate (N.length - n) none) with
  | none => rw [eg] at q; exact False.elim q
  | some o =>
    rw [eg] at q
    cases o with
    | bk ρ' => exact False.elim q
    | ct ρ' => exact False.elim q
    | nx ρ' => exact fun σ' F' H' p => q .non F' H' (lv' p).1 .non
    | exc c fs ρ' => exact fun dd σ' F' H' p ex => q dd F' H' (lv' p).1 ex
    | rt r ρ' =>
      cases r with
      | dat d => exact fun v σ' F' H' p rv => q v F' H' (lv' p).1 rv
      | shr i => exact False.elim q
      | own m =>
        rintro v σ' F' H' p ⟨a, rfl, rm, no⟩
        obtain ⟨p1, c1⟩ := lv' p
        refine q _ F' H' p1 ⟨a, rfl, rm, fun x f => ⟨fun y => ?_, (no x f).2⟩⟩
        obtain ⟨i, m', b, _, e1, e2, f2⟩ := c1 x y
        exact (no x f).1 ⟨i, _, m', b, e1, rfl, e2, f2⟩
      | bor i =>
        intro v σ' F' H' p rv
        have rv : σ'[i]? = some (some v) := rv
        obtain ⟨p1, c1⟩ := lv' p
        dsimp only at q
        split at q
        · rename_i d e
          obtain ⟨v', e1, r⟩ := p.st.dat i d e
          rw [rv] at e1
          cases e1
          exact q _ F' H' p1 r
        · rename_i m e
          split at q
          · rename_i hi
            obtain ⟨a, e1, r⟩ := p.st.own e
            rw [rv] at e1
            cases e1
            refine q _ F' H' p1 ⟨a, rfl, r, fun x f => ⟨fun y => ?_, p.low x ⟨i, m, a, e, rv, f⟩⟩⟩
            obtain ⟨j, m', b, hj, g1, g2, f2⟩ := c1 x y
            exact p.st.sep j i b a x m' m _ (by omega) g1 e rfl g2 rv f2 f
          · exact False.elim q
        · exact False.elim q
end
/-- the def x stands there and makes fF -/
structure DefOk (P : Program) (w : World) (K : PySem.W.Frag) (mg : Str → Option Value) (base : Heap) (C : Cl) (k : Nat) (x : Str) (ps : List Str) (fF : DE) : Prop where
  ex : ∃ f fd, FnOk P w K mg base (L2.CX P w) k f fd ps (spF K C fF) ∧ Binds K fd ps [] ∧ PySem.W.keepIn K (.ref f) = true ∧ mg x = some (.ref f)
abbrev dFn (f : DE) (fl : Ef (List RV)) : DE := dCall (gCallF f) fl
section
variable {X : Cx} {C : Cl} {B : Bw} {W : WX} {k : Nat} {ps : List Str} {x : Str} {p pos : Pos} {e : Expr} {es : List Expr} {fF : DE} {fl : Ef (List RV)}
theorem pd_fn (h : DefOk X.prog X.w X.K X.mg X.base C k x ps fF) (hr : Room k X.A) (tk : Takes X W) (hg : Gl X x) (ha : PDA X C B W (e :: es) fl) (hdb : (x == ("__debug__" : Str)) = false := by decide)
    (he : starEach (e :: es) X.env = (false, eval e X.env) :: starEach es X.env := by rfl) (hpl : (backTo pos (starEach es X.env)).any (·.1) = false := by rfl) : PD X C B W (.Call (.Name x p) (e :: es) [] pos) (dFn fF fl) := by
  obtain ⟨f, fd, F, b, kf, mf⟩ := h.ex
  exact PE.conv (pe_callS F hr hg mf kf b (passAt tk) ha hdb he hpl) fun σ H Q ⟨ρ, F', st, g⟩ => tG_bind (k1 := kL X.K C) (Post.start st) g fun rs ρ1 vs F1 H1 g1 p1 _ q1 => call_run p1 q1 g1
end
/-- a slot's thing, to be read only -/
def dShr (f : DE) : DE := bindE f fun r ρ => match r with
  | .bor i => some (.ok (.shr i) ρ)
  | r => some (.ok r ρ)
section
variable {X : Cx} {C : Cl} {B : Bw} {W : WX} {o : Expr} {fo : DE} {pos : Pos}
theorem pd_shr (h : PD X C B W o fo) : PD X C B W o (dShr fo) := PE.conv h fun σ H Q ⟨ρ, F, st, g⟩ => tG_bind (k1 := kR X.K C) (Post.start st) g fun r1 ρ1 v F1 H1 g1 p1 _ q1 => by
  cases r1 with
  | bor i => exact g1 v F1 H1 p1 q1
  | shr i => exact g1 v F1 H1 p1 q1
  | dat d => exact g1 v F1 H1 p1 q1
  | own m => exact g1 v F1 H1 p1 q1
def hNeg : D → Option D
  | .int i => some (.int (-i))
  | _ => none
def dUn (h : D → Option D) (f : DE) : DE := bindE f fun r ρ => match r.see ρ with
  | some a => match h a with
    | some d => some (.ok (.dat d) ρ)
    | none => none
  | none => none
theorem pd_neg (h : PD X C B W o fo) : PD X C B W (.UnaryOp .USub o pos) (dUn hNeg fo) := PE.conv (pe_un un_neg h) fun σ H Q ⟨ρ, F, st, g⟩ => tG_bind (k1 := kR X.K C) (Post.start st) g fun r1 ρ1 v F1 H1 g1 p1 _ q1 => by
  try dsimp only at g1
  split at g1
  · rename_i a e
    split at g1
    · rename_i d e2
      unfold hNeg at e2
      split at e2
      · rename_i i
        cases e2
        exact ⟨i, (RepRV.see q1 p1.st e).int_inv, g1 _ F1 H1 p1 (.int _)⟩
      · cases e2
    · exact False.elim g1
  · exact False.elim g1
end
/-- one more than the number of slot i: how often a while may turn -/
def natAt (i : Nat) (ρ : Sl) : Nat := match (ρ[i]? : Option (Option SV)) with
  | some (some (SV.dat (D.int z))) => z.natAbs + 1
  | _ => 0
end Pl
namespace Pl
open PySem PySem.Spec PyProof.Rows L2 Tk
/-- the law's own promise: at whole numbers it gives True -/
def spLaw (K : PySem.W.Frag) : Sp := fun vs H Q _ => ∃ (a : Addr) (ns : List Int), vs = [.ref a] ∧ SqL K H a (ns.map V.int) ∧ ns.length ≤ 63 ∧ ∀ H', Q (.bl true) H'
section
variable {P : Program} {w : World} {K : PySem.W.Frag} {mg : Str → Option Value} {base : Heap} {C : Cl}
theorem reps_ints {F : Hp} : ∀ ns : List Int, Reps K C F (ns.map V.int) (ns.map D.int)
  | [] => .nil
  | n :: r => .cons (.int n) (reps_ints r)
/-- the law's own def: it makes True of each list of at most 63 whole numbers -/
theorem law_def {st : Stmt} {f : Addr} {fd : FuncData} {N : List Str} {x : Str} {k : Nat} {g : DS} (F : Fun K "law" "law" st f fd) (S : FnScope N [x] (defScope st))
    (body : ∀ (cdv : Value) (A : Around) (outer : List Env) (s : Shared) (H : Hp) (E : XK) (B : Bw), A.guards = some [] → Room k (A.deeper (envOfC "law" (defScope st) s.heap.objs.size f cdv)) → B.np = 1 →
      PDSs (cxOf CX0 P w K mg base N "law" (defScope st) f cdv A outer s H E).nox C B (fun _ _ _ _ => False) (defBody st) g)
    (true_ : ∀ ns : List Int, ns.length ≤ 63 → ∃ ρ, g (some (.dat (.wri (ns.map D.int))) :: List.replicate (N.length - 1) none) = some (.rt (.dat (.bl true)) ρ)) :
    FnG P w K mg base CX0 (k + 1) f fd [x] (spLaw K) := by
  refine okG F S (fun vs H Q E h => ?_) (fun cdv A outer s H vs Q E gd hr h => ?_)
  · obtain ⟨a, ns, rfl, _⟩ := h
    rfl
  obtain ⟨a, ns, rfl, sq, l, q⟩ := h
  refine ⟨_, body cdv A outer s H E ⟨fun _ => none, 1⟩ gd hr rfl, ?_⟩
  obtain ⟨ρ, e⟩ := true_ ns l
  -- the script alone is data: it is read where it stands
  have rep : Rep K C (fun b => if b = a then H b else none) (.ref a) (.wri (ns.map D.int)) := by
    refine .wri ?_ (reps_ints ns)
    rcases sq with (h | ⟨o, h⟩) | h
    · exact .inl (.inl ((if_pos rfl).trans h))
    · exact .inl (.inr ⟨o, (if_pos rfl).trans h⟩)
    · exact .inr h
  have slot : ∀ {i : Nat} {y : SV}, (some (.dat (.wri (ns.map D.int))) :: List.replicate (N.length - 1) none : Sl)[i]? = some (some y) → i = 0 ∧ y = .dat (.wri (ns.map D.int)) := by
    intro i y hy
    cases i with
    | zero => simp at hy; exact ⟨rfl, hy.symm⟩
    | succ i =>
      rw [List.getElem?_cons_succ, List.getElem?_replicate] at hy
      split at hy <;> cases hy
  refine ⟨some (.dat (.wri (ns.map D.int))) :: List.replicate (N.length - 1) none, fun b => if b = a then H b else none, ⟨?_, fun b o hb => ?_, fun i d hd => ?_, fun i s m hm t => ?_, fun i j b b' x m m' s _ hm => ?_, fun i m _ hm => ?_⟩, ?_⟩
  · show (L2.start N [V.ref a]).length = _
    unfold L2.start
    simp
  · have hb : (if b = a then H b else none) = some o := hb
    split at hb
    · exact hb
    · cases hb
  · obtain ⟨rfl, z⟩ := slot hd
    cases z
    exact ⟨_, rfl, rep⟩
  · obtain ⟨_, z⟩ := slot hm
    cases z
    cases t
  · obtain ⟨_, z⟩ := slot hm
    cases z
  · obtain ⟨_, z⟩ := slot hm
    cases z
  · rw [e]
    intro v σ' F' H' p rv
    cases (show Rep K C F' v (.bl true) from rv)
    exact q H'
end
/-- the top's i-th statement -/
abbrev topOf (p : Program) (i : Nat) : Stmt := p.main.body.getD i (.Pass ⟨0, 0, 0, 0⟩)
end Pl
set_option Elab.async false
set_option linter.all false
set_option maxRecDepth 100000
set_option maxHeartbeats 4000000
/-! Own objects: methods that may raise, __len__, own operators, ==, str: over the machine. -/
namespace Pl
open PySem PySem.Spec PyProof.Rows L2 Tk
section
variable {X : Cx} {CX : CXT} {k : Nat} {f : Addr} {fd : FuncData} {ps : List Str} {sp : Sp} {dvs : List V} {ds : List Value} {E : XK} {pins : List (Addr × Obj)} {σ : L2.St} {H : Hp} {s : Shared} {Q : VK} {us : List Value} {vs : List V} {A' : Around} {W : WX}
/-- a def run, wherever it is called from within this def -/
theorem run_fnS (F : FnOk X.prog X.w X.K X.mg X.base CX k f fd ps sp) (hr : Room k A') (hb : Binds X.K fd ps ds) (hd : Vals dvs ds) (hx : PassesAt CX X σ E) (I : L2.Inv X pins σ H s) (ev : Env0 X.prog X.w X.K X.mg X.base A' X.stack s H) (rel : Vals vs us) (h : sp (vs ++ dvs) H Q E) :
    wpAny (model X.prog X.w) A' (call (.ref f) us) (EP X pins σ Q) X.xe s := by
  have len : (us ++ ds).length = ps.length := ((rel.append hd).length.symm).trans (F.len _ _ _ _ h)
  refine wpAny_call (codeAny_mono (F.run A' X.stack s H ⟨us, []⟩ (us ++ ds) (vs ++ dvs) Q E hr ev (hb s us I.kIn len) (rel.append hd) h) ?_)
  rintro (er | fl) s' out
  · exact hx pins H s er s' I out
  · cases fl with
    | ret u => exact I.after out
    | next => exact out.elim
    | brk => exact out.elim
    | cont => exact out.elim
theorem passNo : PassesAt (L2.CX X.prog X.w) X σ (fun _ _ _ => False) := fun _ _ _ _ _ _ h => by
  obtain ⟨_, _, _, _, _, _, _, _, _, _, _, _, h⟩ := h
  exact h.elim
theorem inst_at (I : L2.Inv X pins σ H s) {a C dx : Addr} {fs : List (Str × V)} (h : H a = some (.ins C dx fs)) : ∃ od, PySem.W.InstAt s.heap a (PySem.W.instObj C dx) C (some od) := by
  obtain ⟨mA, om, _⟩ := ins_get I.hok h
  obtain ⟨od, at_, _⟩ := om.look
  exact ⟨od, at_⟩
theorem inst_obj (I : L2.Inv X pins σ H s) {a C dx : Addr} {fs : List (Str × V)} (h : H a = some (.ins C dx fs)) : s.heap.get? a = some (PySem.W.instObj C dx) := by
  obtain ⟨mA, om, _⟩ := ins_get I.hok h
  exact om.obj
/-- a's class has the method m, which keeps sp -/
structure MethR (X : Cx) (k : Nat) (m : Str) (a : Addr) (H : Hp) (sp : Sp) : Prop where
  ex : ∃ (Cc dx : Addr) (fs : List (Str × V)) (f : Addr) (fd : FuncData) (ps : List Str), H a = some (.ins Cc dx fs) ∧ fs.lookup m = none ∧ Cls X.K Cc ∧ Meth X.K Cc m f ∧ FnOk X.prog X.w X.K X.mg X.base (L2.CX X.prog X.w) k f fd ps sp ∧ Binds X.K fd ps []
def tMethS (X : Cx) (k : Nat) (m : Str) (E : L2.St → XK) (ta : TE) (t : TA) : TE := fun σ H Q => ta σ H fun x H1 => ∃ a sp, x = .ref a ∧ MethR X k m a H1 sp ∧ t σ H1 fun vs H2 => sp (x :: vs) H2 Q (E σ)
theorem pe_methS {m : Str} {pos apos : Pos} {e o : Expr} {es : List Expr} {ta : TE} {t : TA} {pl : Sem Bool} (he : PE X o ta) (hr : Room k X.A) (tk : Takes X W) (ha : PA X (e :: es) t)
    (hst : starEach (e :: es) X.env = (false, eval e X.env) :: starEach es X.env := by rfl) (hpl : (backTo pos (starEach es X.env)).any (·.1) = false := by rfl)
    (ht : eval (.Call (.Attribute o m apos) (e :: es) [] pos) X.env = (do
      let ov ← eval o X.env
      standAt apos.atName
      let (f, first) ← holding [ov] (getMethod ov m pl)
      callWith pos f first (backTo pos (starEach (e :: es) X.env)) (backToKw pos (keywordEach [] X.env))) := by rfl) :
    PE X (.Call (.Attribute o m apos) (e :: es) [] pos) (tMethS X k m (WE W) ta t) := by
  constructor
  intro pins s σ H Q I h
  refine PySem.W.methodCall_KW (thn (he.run pins s σ H _ I h) ?_) ht
  rintro u s1 ⟨x, H1, I1, rx, a, sp, rfl, ⟨Cc, dx, fs, f, fd, ps, ea, l, c, hm, F, hb⟩, q⟩
  cases rx
  refine getmeth_ok I1 ea c hm l (PySem.W.callWith_K I.ok.mod.kin hm.kp (thn (ha.run pos pins s1 σ H1 _ I1 q) ?_) hst hpl)
  rintro us s2 ⟨vs, H2, I2, r, q2⟩
  exact ⟨I2.kIn, run_fnS (vs := .ref a :: vs) (us := .ref a :: us) F hr hb .nil (passAt tk σ) I2 I2.env0 (.cons rfl r) (by rw [List.append_nil]; exact q2)⟩
theorem pe_methS0 {m : Str} {pos apos : Pos} {o : Expr} {ta : TE} {pl : Sem Bool} (he : PE X o ta) (hr : Room k X.A) (tk : Takes X W)
    (ht : eval (.Call (.Attribute o m apos) [] [] pos) X.env = (do
      let ov ← eval o X.env
      standAt apos.atName
      let (f, first) ← holding [ov] (getMethod ov m pl)
      callWith pos f first (backTo pos (starEach [] X.env)) (backToKw pos (keywordEach [] X.env))) := by rfl) :
    PE X (.Call (.Attribute o m apos) [] [] pos) (tMethS X k m (WE W) ta tNil) := by
  constructor
  intro pins s σ H Q I h
  refine PySem.W.methodCall_KW (thn (he.run pins s σ H _ I h) ?_) ht
  rintro u s1 ⟨x, H1, I1, rx, a, sp, rfl, ⟨Cc, dx, fs, f, fd, ps, ea, l, c, hm, F, hb⟩, q⟩
  cases rx
  refine getmeth_ok I1 ea c hm l (PySem.W.callWith_K0 I1.kIn hm.kp (run_fnS (vs := [.ref a]) (us := [.ref a]) F hr hb .nil (passAt tk σ) I1 I1.env0 (.cons rfl .nil) q))
/-- len(o), o an own object -/
def rLenO (X : Cx) (k : Nat) : List V → Hp → VK → Prop := fun xs H Q => ∃ a sp, xs = [.ref a] ∧ MethR X k "__len__" a H sp ∧ sp [.ref a] H (fun v H' => ∃ n : Int, v = .int n ∧ 0 ≤ n ∧ n < 2 ^ 63 ∧ Q (.int n) H') (fun _ _ _ => False)
theorem cr_lenO (hr : Room (k + 1) X.A) : CallR X (.builtin "len") (rLenO X k) := by
  intro pins s σ H xs us Q I rel h
  obtain ⟨a, sp, rfl, ⟨Cc, dx, fs, f, fd, ps, ea, l, c, hm, F, hb⟩, q⟩ := h
  obtain ⟨u, rfl, ru⟩ := vals1 rel
  cases ru
  obtain ⟨m, fr⟩ := I.fr
  obtain ⟨od, at_⟩ := inst_at I ea
  refine PySem.W.len_K fr I.ok.mod.kin at_ hm.at_ hm.fn (wpAny_mono (run_fnS (vs := [.ref a]) (us := [.ref a]) F hr.in1 hb .nil passNo I I.env0.in1 (.cons rfl .nil) q) ?_ fun _ _ h => h)
  rintro v s' ⟨v', H', I', rv, n, rfl, h0, h1, q'⟩
  obtain ⟨t, rfl⟩ := rv
  exact ⟨⟨h0, h1⟩, .int n, H', I'.tok _, ⟨_, rfl⟩, q'⟩
/-- o + p, o >> p, .., by o's own method, p of the same class -/
def rBinO (X : Cx) (k : Nat) (m : Str) : R2 := fun x y H Q => ∃ a b sp, x = .ref a ∧ y = .ref b ∧ MethR X k m a H sp ∧ (∃ Cc dx fs dx' fs', H a = some (.ins Cc dx fs) ∧ H b = some (.ins Cc dx' fs') ∧ TyX X.K H (.ref b) (.ref Cc) ∧ PySem.W.selfFirst X.K Cc = true) ∧ sp [.ref a, .ref b] H (fun v H' => (∃ c, v = .ref c) ∧ Q v H') (fun _ _ _ => False)
theorem looks_ty (I : L2.Inv X pins σ H s) {x : V} {u t : Value} (r : RelV x u) (h : TyX X.K H x t) : PySem.W.Looks (model X.prog X.w) s.heap (typeOf u) t := by
  obtain ⟨P, kx, hp, _⟩ := kit_of I r h
  exact kx.ty _ _ I.kIn hp
theorem op_binO {op : Operator} (hr : Room k X.A) : OpR X (binaryOp op) (rBinO X k (dunder op.info.2)) := by
  intro pins s σ H x y v u Q I rx ry h
  obtain ⟨a, b, sp, rfl, rfl, ⟨Cc, dx, fs, f, fd, ps, ea, l, c, hm, F, hb⟩, ⟨Cc', dx', fs', dx2, fs2, ea', eb, ty, sf⟩, q⟩ := h
  rw [ea] at ea'
  cases ea'
  have lk := looks_ty I ry ty
  cases rx
  cases ry
  obtain ⟨m, fr⟩ := I.fr
  obtain ⟨od, at_⟩ := inst_at I ea
  refine PySem.W.binop_K fr I.ok.mod.kin at_ lk sf hm.at_ hm.fn (wpAny_mono (run_fnS (vs := [.ref a, .ref b]) (us := [.ref a, .ref b]) F hr hb .nil passNo I I.env0 (.cons rfl (.cons rfl .nil)) q) ?_ fun _ _ h => h)
  rintro v s' ⟨v', H', I', rv, ⟨c', rfl⟩, q'⟩
  cases rv
  exact ⟨.ref c', H', I', rfl, q'⟩
/-- o == p by o's own method, p of any kind that does not come first -/
def rEqO (X : Cx) (k : Nat) : R2 := fun x y H Q => ∃ a sp t, x = .ref a ∧ MethR X k "__eq__" a H sp ∧ TyX X.K H y t ∧ (∃ Cc dx fs, H a = some (.ins Cc dx fs) ∧ PySem.W.notFirst X.K Cc t = true) ∧ sp [.ref a, y] H (fun v H' => ∃ c, v = .bl c ∧ Q (.bl c) H') (fun _ _ _ => False)
theorem rc_eqO (hr : Room k X.A) : OpR X (compareOp .Eq) (rEqO X k) := by
  intro pins s σ H x y v u Q I rx ry h
  obtain ⟨a, sp, t, rfl, ⟨Cc, dx, fs, f, fd, ps, ea, l, c, hm, F, hb⟩, ty, ⟨Cc', dx', fs', ea', nf⟩, q⟩ := h
  rw [ea] at ea'
  cases ea'
  have lk := looks_ty I ry ty
  cases rx
  obtain ⟨m, fr⟩ := I.fr
  obtain ⟨od, at_⟩ := inst_at I ea
  show wpAny (model X.prog X.w) X.A (richCompare .Eq (.ref a) u) (EP X pins σ Q) X.xe s
  refine PySem.W.cmp_K (op := .Eq) hr.units0 fr I.ok.mod.kin at_ lk nf hm.at_ hm.fn (wpAny_mono (run_fnS (vs := [.ref a, y]) (us := [.ref a, u]) F hr hb .nil passNo I I.env0 (.cons rfl (.cons ry .nil)) q) ?_ fun _ _ h => h)
  rintro v s' ⟨v', H', I', rv, c', rfl, q'⟩
  cases rv
  exact ⟨.bl c', H', I', rfl, q'⟩
/-- str(o) by o's own method -/
def rStrO (X : Cx) (k : Nat) : List V → Hp → VK → Prop := fun xs H Q => ∃ a sp, xs = [.ref a] ∧ MethR X k "__str__" a H sp ∧ sp [.ref a] H (fun v H' => ∃ z, v = .str z ∧ Q (.str z) H') (fun _ _ _ => False)
theorem cr_strO (hr : Room (k + 2) X.A) : CallR X (.type "str") (rStrO X k) := by
  intro pins s σ H xs us Q I rel h
  obtain ⟨a, sp, rfl, ⟨Cc, dx, fs, f, fd, ps, ea, l, c, hm, F, hb⟩, q⟩ := h
  obtain ⟨u, rfl, ru⟩ := vals1 rel
  cases ru
  obtain ⟨od, at_⟩ := inst_at I ea
  have hr2 := (Room.in1 hr).in1
  refine PySem.W.kso_call hr2.units0 I.kIn at_ hm.at_ hm.fn (wpAny_mono (run_fnS (vs := [.ref a]) (us := [.ref a]) F hr2 hb .nil passNo I I.env0.in1.in1 (.cons rfl .nil) q) ?_ fun _ _ h => h)
  rintro v s' ⟨v', H', I', rv, z, rfl, q'⟩
  obtain ⟨t, rfl⟩ := rv
  exact ⟨.str z, H', I', ⟨_, rfl⟩, q'⟩
end
end Pl
set_option Elab.async false
set_option linter.all false
set_option maxRecDepth 100000
set_option maxHeartbeats 4000000
namespace Pl
open PySem PySem.Spec PyProof.Rows L2 Tk
def isStrV : Value → Bool
  | .str _ _ => true
  | _ => false
/-- the names of a class at N: an own __eq__, no __ne__ -/
def neNames (K : PySem.W.Frag) (N f : Addr) : Bool := match K.lookup N with
  | some ⟨_, _, .dict es _, _⟩ => es.toList.all (fun e => isStrV e.key) && (match nsFind es "__eq__" with | some (.ref g) => g == f | _ => false) && (nsFind es "__ne__").isNone
  | _ => false
structure NeAt (K : PySem.W.Frag) (Cc f : Addr) : Prop where
  ex : ∃ (nm q : Str) (N : Addr) (bs : List Value) (hdct : Bool) (sn : List Str) (sub : List Value) (ab : Bool) (col : Option Bool) (dd : Option Addr) (k0 k1 k2 k3 k5 : Option Value) (newId : String),
    K.lookup Cc = some (excClassObj nm q Cc N bs [.type "object"] hdct sn sub ab col dd k0 k1 k2 k3 k5 newId) ∧ neNames K N f = true
section
variable {X : Cx} {CX : CXT} {k : Nat} {f : Addr} {fd : FuncData} {ps : List Str} {sp : Sp} {pins : List (Addr × Obj)} {σ : L2.St} {H : Hp} {s : Shared} {Q : VK}
theorem ownEq_of {K : PySem.W.Frag} {h : Heap} {x Cc f : Addr} {o : Obj} (kin : K.In h) (ne : NeAt K Cc f) (fn : PySem.W.isFn K (.ref f) = true) (ho : h.get? x = some o) (hc : o.cls = .ref Cc) : h.OwnEqNoNe x Cc f "object" [.type "object"] := by
  obtain ⟨nm, q, N, bs, hdct, sn, sub, ab, col, dd, k0, k1, k2, k3, k5, newId, lk, nn⟩ := ne.ex
  unfold neNames at nn
  split at nn
  · rename_i c d es ep sl lN
    simp only [Bool.and_eq_true] at nn
    obtain ⟨⟨n1, n2⟩, n3⟩ := nn
    have fo : ∃ of, h.get? f = some of ∧ of.cls = .type "function" := by
      unfold PySem.W.isFn PySem.W.typeIn at fn
      dsimp only at fn
      cases e : K.lookup f with
      | none => rw [e] at fn; cases fn
      | some of =>
        rw [e] at fn
        exact ⟨of, kin f of e, by simpa using fn⟩
    obtain ⟨of, hf, cf⟩ := fo
    refine ⟨o, of, nm, q, N, bs, hdct, sn, sub, ab, col, dd, k0, k1, k2, k3, k5, newId, nsFind es, some (.builtin "object.__eq__"), ho, hc, kin _ _ lk, ⟨_, es, ep, kin _ _ lN, rfl, fun e he => ?_, fun _ => rfl⟩, ?_, hf, cf, PySem.F.cmp_object.mro, ?_, by simpa using n3⟩
    · have := List.all_eq_true.mp n1 e (Array.mem_toList_iff.mpr he)
      unfold isStrV at this
      split at this
      · rename_i a b e1; exact ⟨a, b, e1⟩
      · cases this
    · split at n2
      · rename_i g e
        rw [e]
        have : g = f := by simpa using n2
        rw [this]
      · cases n2
    · exact PySem.F.cmp_object.eq.lookup
  · cases nn
/-- o != p by o's own __eq__, both of one class -/
def rNeO (X : Cx) (k : Nat) : R2 := fun x y H Q => ∃ a b sp f, x = .ref a ∧ y = .ref b ∧ (∃ Cc dx fs dx' fs' fd ps, H a = some (.ins Cc dx fs) ∧ H b = some (.ins Cc dx' fs') ∧ NeAt X.K Cc f ∧ PySem.W.isFn X.K (.ref f) = true ∧ FnOk X.prog X.w X.K X.mg X.base (L2.CX X.prog X.w) k f fd ps sp ∧ Binds X.K fd ps []) ∧ sp [.ref a, .ref b] H (fun v H' => ∃ c, v = .bl c ∧ Q (.bl !c) H') (fun _ _ _ => False)
theorem op_neO (hr : Room (k + 1) X.A) : OpR X (compareOp .NotEq) (rNeO X k) := by
  intro pins s σ H x y v u Q I rx ry h
  obtain ⟨a, b, sp, f, rfl, rfl, ⟨Cc, dx, fs, dx', fs', fd, ps, ea, eb, ne, fn, F, hb⟩, q⟩ := h
  cases rx
  cases ry
  have oa := inst_obj I ea
  have ob := inst_obj I eb
  refine compareOp_ne_ownEq PySem.F.cmp_object (ownEq_of I.kIn ne fn oa rfl) ob rfl (hr.in1.units0) (wpAny_mono (run_fnS (vs := [.ref a, .ref b]) (us := [.ref a, .ref b]) F hr.in1 hb .nil passNo I I.env0.in1 (.cons rfl (.cons rfl .nil)) q) ?_ fun _ _ h => h)
  rintro v s' ⟨v', H', I', rv, c, rfl, q'⟩
  cases rv
  exact ⟨c, rfl, .bl !c, H', I', rfl, q'⟩
end
end Pl
set_option Elab.async false
set_option linter.all false
set_option maxRecDepth 100000
set_option maxHeartbeats 4000000
/-! Own objects: fields, methods, made, len, operators, ==, str. -/
namespace Pl
open PySem PySem.Spec PyProof.Rows L2 Tk

/-- no way out by an error -/
def quiet (F : DE) : DE := fun ρ => match F ρ with
  | some (.ok r ρ') => some (.ok r ρ')
  | _ => none
theorem spF_quiet {K : PySem.W.Frag} {C : Cl} {f : DE} {vs : List V} {H : Hp} {Q : VK} {E E' : XK} (h : spF K C (quiet f) vs H Q E) : spF K C f vs H Q E' := by
  obtain ⟨as, F, st, g⟩ := h
  refine ⟨as, F, st, ?_⟩
  unfold quiet at g
  cases e : f as with
  | none => rw [e] at g; exact g
  | some o =>
    rw [e] at g
    cases o with
    | ok r ρ' => exact g
    | exc c fs ρ' => exact False.elim g
/-- the name m, made by mt of the own classes -/
structure MethOk (P : Program) (w : World) (K : PySem.W.Frag) (mg : Str → Option Value) (base : Heap) (C : Cl) (k : Nat) (m : Str) (mt : Nat → Option DE) : Prop where
  at_ : ∀ c F, mt c = some F → Cls K (C.adr c) ∧ m ∉ C.att c ∧ ∃ f fd ps, Meth K (C.adr c) m f ∧ FnOk P w K mg base (L2.CX P w) k f fd ps (spF K C F) ∧ Binds K fd ps []
theorem MethOk.mono {P : Program} {w : World} {K : PySem.W.Frag} {mg : Str → Option Value} {base : Heap} {C : Cl} {j k : Nat} {m : Str} {mt : Nat → Option DE} (h : MethOk P w K mg base C j m mt) (l : j ≤ k) : MethOk P w K mg base C k m mt := ⟨fun c F e => by
  obtain ⟨h1, h2, f, fd, ps, h3, h4, h5⟩ := h.at_ c F e
  exact ⟨h1, h2, f, fd, ps, h3, h4.mono l, h5⟩⟩
def noName (m : Str) (fs : List (Str × D)) : Bool := fs.all fun p => !decide (m = p.1)
/-- the class of an object, none of its own attributes named m -/
def clsOf (m : Str) (r : RV) (ρ : Sl) : Option Nat := match r with
  | .dat (.obj c _) => some c
  | .dat _ => none
  | .own _ => none
  | .bor i => match ρ[i]? with
    | some (some (.dat (.obj c _))) => some c
    | some (some (.own (.ins c fs))) => if noName m fs = true then some c else none
    | some (some (.lck (.ins c fs))) => if noName m fs = true then some c else none
    | _ => none
  | .shr i => match ρ[i]? with
    | some (some (.dat (.obj c _))) => some c
    | some (some (.own (.ins c fs))) => if noName m fs = true then some c else none
    | some (some (.lck (.ins c fs))) => if noName m fs = true then some c else none
    | _ => none
section
variable {K : PySem.W.Frag} {C : Cl} {B : Bw} {W : WX} {z : At0} {F H : Hp} {ρ : Sl} {σ : L2.St} {Q : VK} {v : V} {r : RV} {c : Nat} {m : Str}
theorem lookup_none {α : Type} {m : Str} {fs : List (Str × α)} (h : m ∉ fs.map (·.1)) : fs.lookup m = none := by
  induction fs with
  | nil => rfl
  | cons p fs ih =>
    obtain ⟨x, v⟩ := p
    rw [List.map_cons, List.mem_cons, not_or] at h
    rw [List.lookup_cons]
    have : (m == x) = false := by simpa using h.1
    rw [this]
    exact ih h.2
theorem noName_not {fs : List (Str × D)} (h : noName m fs = true) : m ∉ fs.map (·.1) := fun w => by
  obtain ⟨p, hp, e⟩ := List.mem_map.mp w
  have := List.all_eq_true.mp h p hp
  simp [e] at this
theorem slot_ins (st : RepSt K C B ρ F σ H) {i : Nat} (h : σ[i]? = some (some v)) (e : clsOf m (.bor i) ρ = some c) (no : m ∉ C.att c) : ∃ a dx fs, v = .ref a ∧ H a = some (.ins (C.adr c) dx fs) ∧ fs.lookup m = none := by
  unfold clsOf at e
  dsimp only at e
  split at e
  · rename_i c' l q
    cases e
    obtain ⟨v', e1, rr⟩ := st.dat i _ q
    rw [h] at e1
    cases e1
    cases rr with
    | obj q n r => exact ⟨_, _, _, rfl, st.sub _ _ q, lookup_none (by rw [n]; exact no)⟩
  · rename_i c' fs q
    split at e
    · rename_i nn
      cases e
      obtain ⟨a, e1, n, dx, vs, q2, nm, _⟩ := st.thg i _ _ q rfl
      rw [h] at e1
      cases e1
      exact ⟨a, dx, vs, rfl, q2, lookup_none (by rw [nm]; exact noName_not nn)⟩
    · cases e
  · rename_i c' fs q
    split at e
    · rename_i nn
      cases e
      obtain ⟨a, e1, n, dx, vs, q2, nm, _⟩ := st.thg i _ _ q rfl
      rw [h] at e1
      cases e1
      exact ⟨a, dx, vs, rfl, q2, lookup_none (by rw [nm]; exact noName_not nn)⟩
    · cases e
  · cases e
theorem clsOf_at (h : RepRV K C z ρ F σ H v r) (st : RepSt K C B ρ F σ H) (e : clsOf m r ρ = some c) (no : m ∉ C.att c) : ∃ a dx fs, v = .ref a ∧ H a = some (.ins (C.adr c) dx fs) ∧ fs.lookup m = none := by
  cases r with
  | dat d =>
    cases d with
    | obj c' l =>
      cases e
      cases (show Rep K C F v (.obj _ l) from h) with
      | obj q n r => exact ⟨_, _, _, rfl, st.sub _ _ q, lookup_none (by rw [n]; exact no)⟩
    | _ => cases e
  | own m => cases e
  | bor i => exact slot_ins st h e no
  | shr i => exact slot_ins st h (show clsOf m (.bor i) ρ = some c from e) no
theorem clsOf_own {mo : MO} (e : clsOf m r ρ = some c) : r ≠ .own mo := by
  rintro rfl
  cases e
end
/-- o.m(..) -/
def dMth (m : Str) (mt : Nat → Option DE) (fo : DE) (fl : Ef (List RV)) : DE := bindE fo fun r ρ => match clsOf m r ρ with
  | some c => match mt c with
    | some F => bindE fl (fun rs => gCallF F (r :: rs)) ρ
    | none => none
  | none => none
section
variable {X : Cx} {C : Cl} {B : Bw} {W : WX} {k : Nat} {m : Str} {mt : Nat → Option DE} {o e : Expr} {es : List Expr} {fo : DE} {fl : Ef (List RV)} {pos apos : Pos} {pl : Sem Bool}
theorem meth_run (ok : MethOk X.prog X.w X.K X.mg X.base C k m mt) {t : TA} (ht : ∀ σ H Q, tL X.K C B W fl σ H Q → t σ H Q) {σ : L2.St} {H : Hp} {Q : VK} (h : tD X.K C B W (dMth m mt fo fl) σ H Q) : tMethS X k m (WE W) (tD X.K C B W fo) t σ H Q := by
  obtain ⟨ρ, F, st, g⟩ := h
  refine tG_bind (k1 := kR X.K C) (Post.start st) g fun r1 ρ1 v F1 H1 g1 p1 _ q1 => ?_
  try dsimp only at g1
  split at g1
  · rename_i c ec
    split at g1
    · rename_i F0 em
      obtain ⟨cl, no, f, fd, ps, me, fn, bi⟩ := ok.at_ c F0 em
      obtain ⟨a, dx, fs, rfl, ea, lk⟩ := clsOf_at q1 p1.st ec no
      refine ⟨a, spF X.K C F0, rfl, ⟨_, dx, fs, f, fd, ps, ea, lk, cl, me, fn, bi⟩, ht σ H1 _ (tG_bind (k1 := kL X.K C) p1 g1 fun rs ρ2 vs F2 H2 g2 p2 s2 q2 => ?_)⟩
      exact call_run p2 (.cons (RepRV.carry q1 s2) q2 fun mo er => (clsOf_own ec er).elim) g2
    · exact False.elim g1
  · exact False.elim g1
theorem pd_mth (ok : MethOk X.prog X.w X.K X.mg X.base C k m mt) (hr : Room k X.A) (tk : Takes X W) (ho : PD X C B W o fo) (ha : PDA X C B W (e :: es) fl)
    (hst : starEach (e :: es) X.env = (false, eval e X.env) :: starEach es X.env := by rfl) (hpl : (backTo pos (starEach es X.env)).any (·.1) = false := by rfl)
    (ht : eval (.Call (.Attribute o m apos) (e :: es) [] pos) X.env = (do
      let ov ← eval o X.env
      standAt apos.atName
      let (f, first) ← holding [ov] (getMethod ov m pl)
      callWith pos f first (backTo pos (starEach (e :: es) X.env)) (backToKw pos (keywordEach [] X.env))) := by rfl) :
    PD X C B W (.Call (.Attribute o m apos) (e :: es) [] pos) (dMth m mt fo fl) := PE.conv (pe_methS (k := k) ho hr tk ha hst hpl ht) fun _ _ _ h => meth_run ok (fun _ _ _ q => q) h
theorem pd_mth0 (ok : MethOk X.prog X.w X.K X.mg X.base C k m mt) (hr : Room k X.A) (tk : Takes X W) (ho : PD X C B W o fo)
    (ht : eval (.Call (.Attribute o m apos) [] [] pos) X.env = (do
      let ov ← eval o X.env
      standAt apos.atName
      let (f, first) ← holding [ov] (getMethod ov m pl)
      callWith pos f first (backTo pos (starEach [] X.env)) (backToKw pos (keywordEach [] X.env))) := by rfl) :
    PD X C B W (.Call (.Attribute o m apos) [] [] pos) (dMth m mt fo dNil) := PE.conv (pe_methS0 (k := k) ho hr tk ht) fun _ _ _ h => meth_run ok (fun _ _ _ ⟨ρ, F, st, g⟩ => g [] F _ (Post.start st) .nil) h
end

/-! ### fields -/
/-- the attribute f of the own classes that have it -/
structure FldOk (K : PySem.W.Frag) (C : Cl) (att : Nat → List Str) (f : Str) : Prop where
  hA : C.att = att
  at_ : ∀ c, f ∈ att c → Cls K (C.adr c) ∧ NoAttr K (C.adr c) f
def objFld (att : Nat → List Str) (f : Str) : D → Option D
  | .obj c l => if (att c).contains f then ((att c).zip l).lookup f else none
  | _ => none
def insFld (att : Nat → List Str) (f : Str) : MO → Option D
  | .ins c fs => if (att c).contains f then fs.lookup f else none
  | _ => none
def svFld (att : Nat → List Str) (f : Str) : Option (Option SV) → Option D
  | some (some (.dat d)) => objFld att f d
  | some (some (.own m)) => insFld att f m
  | some (some (.lck m)) => insFld att f m
  | _ => none
def rvFld (att : Nat → List Str) (f : Str) (r : RV) (ρ : Sl) : Option D := match r with
  | .dat d => objFld att f d
  | .own m => insFld att f m
  | .bor i => svFld att f ρ[i]?
  | .shr i => svFld att f ρ[i]?
def dFld (att : Nat → List Str) (f : Str) (fo : DE) : DE := bindE fo fun r ρ => match rvFld att f r ρ with
  | some d => some (.ok (.dat d) ρ)
  | none => none
section
variable {K : PySem.W.Frag} {C : Cl} {B : Bw} {W : WX} {z : At0} {F H : Hp} {ρ : Sl} {σ : L2.St} {Q : VK} {v : V} {r : RV} {c : Nat} {f : Str} {att : Nat → List Str}
theorem lookup_reps {f : Str} {d : D} : ∀ {fs : List (Str × V)} {ds : List (Str × D)}, fs.map (·.1) = ds.map (·.1) → Reps K C F (fs.map (·.2)) (ds.map (·.2)) → ds.lookup f = some d → ∃ v, fs.lookup f = some v ∧ Rep K C F v d
  | [], [], _, _, e => by cases e
  | [], _ :: _, h, _, _ => by cases h
  | _ :: _, [], h, _, _ => by cases h
  | (x, v) :: fs, (y, d') :: ds, h, r, e => by
    rw [List.map_cons, List.map_cons] at h
    injection h with h1 h2
    have h1 : x = y := h1
    subst h1
    cases r with
    | cons r1 r2 =>
      rw [List.lookup_cons] at e ⊢
      cases hx : f == x with
      | true => rw [hx] at e; cases e; exact ⟨v, rfl, r1⟩
      | false => rw [hx] at e; exact lookup_reps h2 r2 e
theorem obj_fld (ok : FldOk K C att f) {d e : D} (h : Rep K C F v d) (s : Same F H) (q : objFld att f d = some e) : ∃ a c dx fs u, v = .ref a ∧ H a = some (.ins (C.adr c) dx fs) ∧ f ∈ att c ∧ fs.lookup f = some u ∧ Rep K C F u e := by
  cases d with
  | obj c l =>
    unfold objFld at q
    dsimp only at q
    split at q
    · rename_i hc
      cases h with
      | obj e1 n r =>
        rename_i p dx fs
        rw [ok.hA] at n
        have hl : fs.length = l.length := by have := r.length; simpa using this
        obtain ⟨u, h1, h2⟩ := lookup_reps (ds := (att c).zip l) (by rw [n, List.map_fst_zip]; rw [← n, List.length_map, hl]; exact Nat.le_refl _) (by rw [List.map_snd_zip]; exact r; rw [← n, List.length_map, hl]; exact Nat.le_refl _) q
        exact ⟨_, c, _, _, u, rfl, s _ _ e1, by simpa using hc, h1, h2⟩
    · cases q
  | _ => cases q
theorem ins_fld (ok : FldOk K C att f) {m : MO} {a : Addr} {e : D} (h : RepM K C F H a m) (q : insFld att f m = some e) : ∃ c dx fs u, H a = some (.ins (C.adr c) dx fs) ∧ f ∈ att c ∧ fs.lookup f = some u ∧ Rep K C F u e := by
  cases m with
  | ins c fs =>
    obtain ⟨n, dx, vs, e1, nm, r⟩ := h
    unfold insFld at q
    dsimp only at q
    split at q
    · rename_i hc
      obtain ⟨u, h1, h2⟩ := lookup_reps nm r q
      exact ⟨c, dx, vs, u, e1, by simpa using hc, h1, h2⟩
    · cases q
  | _ => cases q
theorem rv_fld (ok : FldOk K C att f) {e : D} (h : RepRV K C z ρ F σ H v r) (st : RepSt K C B ρ F σ H) (q : rvFld att f r ρ = some e) : ∃ a c dx fs u, v = .ref a ∧ H a = some (.ins (C.adr c) dx fs) ∧ f ∈ att c ∧ fs.lookup f = some u ∧ Rep K C F u e := by
  have slot : ∀ i : Nat, σ[i]? = some (some v) → svFld att f ρ[i]? = some e → ∃ a c dx fs u, v = .ref a ∧ H a = some (.ins (C.adr c) dx fs) ∧ f ∈ att c ∧ fs.lookup f = some u ∧ Rep K C F u e := fun i h q => by
    unfold svFld at q
    split at q
    · rename_i d hd
      obtain ⟨v', e1, rr⟩ := st.dat i _ hd
      rw [h] at e1
      cases e1
      exact obj_fld ok rr st.sub q
    · rename_i m hm
      obtain ⟨a, e1, rm⟩ := st.thg i _ m hm rfl
      rw [h] at e1
      cases e1
      obtain ⟨c, dx, fs, u, h1, h2, h3, h4⟩ := ins_fld ok rm q
      exact ⟨a, c, dx, fs, u, rfl, h1, h2, h3, h4⟩
    · rename_i m hm
      obtain ⟨a, e1, rm⟩ := st.thg i _ m hm rfl
      rw [h] at e1
      cases e1
      obtain ⟨c, dx, fs, u, h1, h2, h3, h4⟩ := ins_fld ok rm q
      exact ⟨a, c, dx, fs, u, rfl, h1, h2, h3, h4⟩
    · cases q
  cases r with
  | dat d => exact obj_fld ok h st.sub q
  | own m =>
    obtain ⟨a, rfl, rm, _⟩ := h
    obtain ⟨c, dx, fs, u, h1, h2, h3, h4⟩ := ins_fld ok rm q
    exact ⟨a, c, dx, fs, u, rfl, h1, h2, h3, h4⟩
  | bor i => exact slot i h q
  | shr i => exact slot i h q
end
section
variable {X : Cx} {C : Cl} {B : Bw} {W : WX} {o e : Expr} {fo fe : DE} {pos pos' : Pos} {f : Str} {att : Nat → List Str}
def tFldX (K : PySem.W.Frag) (ta : TE) (f : Str) : TE := fun σ H Q => ta σ H fun x H1 => ∃ a Cc dx fs v, x = .ref a ∧ H1 a = some (.ins Cc dx fs) ∧ Cls K Cc ∧ NoAttr K Cc f ∧ fs.lookup f = some v ∧ Q v H1
theorem pd_fld (ok : FldOk X.K C att f) (ho : PD X C B W o fo) (hab : attributeBase o f X.env (eval o X.env) = eval o X.env := by rfl) : PD X C B W (.Attribute o f pos) (dFld att f fo) := PE.conv (pe_fld ho hab) fun σ H Q ⟨ρ, F, st, g⟩ => tG_bind (k1 := kR X.K C) (Post.start st) g fun r1 ρ1 v F1 H1 g1 p1 _ q1 => by
  try dsimp only at g1
  split at g1
  · rename_i d ed
    obtain ⟨a, c, dx, fs, u, rfl, h1, h2, h3, h4⟩ := rv_fld ok q1 p1.st ed
    exact ⟨a, _, dx, fs, u, rfl, h1, (ok.at_ c h2).1, (ok.at_ c h2).2, h3, g1 u F1 H1 p1 h4⟩
  · exact False.elim g1
end
end Pl
set_option Elab.async false
set_option linter.all false
set_option maxRecDepth 100000
set_option maxHeartbeats 4000000
/-! Own objects: attributes stored, instances made, properties. -/
namespace Pl
open PySem PySem.Spec PyProof.Rows L2 Tk

/-! ### o.f = e -/
def putD (f : Str) (d : D) : List (Str × D) → List (Str × D)
  | [] => [(f, d)]
  | (g, w) :: r => if g = f then (g, d) :: r else (g, w) :: putD f d r
def sFldSet (att : Nat → List Str) (f : Str) (fo fe : DE) : DS := bindS (froze fe) fun r => bindS fo fun r2 ρ => match r, r2 with
  | .dat d, .bor i => match ρ[i]? with
    | some (some (.own (.ins c fs))) => if (att c).contains f && decide (fs.length < 1000) then some (.nx (ρ.set i (some (.own (.ins c (putD f d fs)))))) else none
    | _ => none
  | _, _ => none
section
variable {K : PySem.W.Frag} {C : Cl} {F : Hp}
theorem reps_put {f : Str} {v : V} {d : D} (x : Rep K C F v d) : ∀ {fs : List (Str × V)} {ds : List (Str × D)}, fs.map (·.1) = ds.map (·.1) → Reps K C F (fs.map (·.2)) (ds.map (·.2)) → (putF f v fs).map (·.1) = (putD f d ds).map (·.1) ∧ Reps K C F ((putF f v fs).map (·.2)) ((putD f d ds).map (·.2))
  | [], [], _, _ => ⟨rfl, .cons x .nil⟩
  | [], _ :: _, h, _ => by cases h
  | _ :: _, [], h, _ => by cases h
  | (g, w) :: fs, (y, d') :: ds, h, r => by
    rw [List.map_cons, List.map_cons] at h
    injection h with h1 h2
    have h1 : g = y := h1
    subst h1
    cases r with
    | cons r1 r2 =>
      rw [putF.eq_2]
      unfold putD
      by_cases hx : g = f
      · rw [if_pos hx, if_pos hx]
        exact ⟨congrArg (g :: ·) h2, .cons x r2⟩
      · rw [if_neg hx, if_neg hx]
        obtain ⟨a, b⟩ := reps_put x h2 r2
        exact ⟨congrArg (g :: ·) a, .cons r1 b⟩
end
section
variable {X : Cx} {C : Cl} {B : Bw} {W : WX} {o value : Expr} {fo fe : DE} {pos pos' : Pos} {f : Str} {att : Nat → List Str}
theorem pds_fld (ok : FldOk X.K C att f) (ho : PD X C B W o fo) (hv : PD X C B W value fe) (hs : swapsWith value (some (.Attribute o f pos')) pos.line X.env = pure false := by rfl) : PDS X C B W (.Assign [.Attribute o f pos'] value pos) (sFldSet att f fo fe) :=
  PS.conv (ps_fld ho (pd_frz hv) hs) fun E σ H ⟨ρ, F, st, g⟩ => tS_bind (k1 := kR X.K C) (Post.start st) g fun r1 ρ1 v F1 H1 g1 p1 q1 => tS_bindR (k1 := kR X.K C) p1 g1 fun r2 ρ2 w F2 H2 g2 p2 s2 q2 => by
    try dsimp only at g2
    split at g2
    · rename_i d i
      have q1 : Rep X.K C F2 v d := Rep.to q1 s2.mono
      have q2 : σ[i]? = some (some w) := q2
      split at g2
      · rename_i c fs hi
        split at g2
        · rename_i hc
          simp only [Bool.and_eq_true, decide_eq_true_eq] at hc
          obtain ⟨a, e1, rm⟩ := p2.st.own hi
          rw [q2] at e1
          cases e1
          obtain ⟨n, dx, vs, e2, nm, rs⟩ := rm
          have hm : f ∈ att c := by simpa using hc.1
          obtain ⟨n1, n2⟩ := reps_put (f := f) q1 nm rs
          have ln : vs.length = fs.length := by have := congrArg List.length nm; simpa using this
          refine ⟨a, _, dx, vs, rfl, e2, (ok.at_ c hm).1, (ok.at_ c hm).2, by rw [ln]; exact hc.2, g2 σ F2 _ ?_⟩
          exact p2.write hi q2 (x := a) rfl ⟨n, dx, _, upd_same, n1, n2⟩ fun y f => f
        · exact False.elim g2
      · exact False.elim g2
    · exact False.elim g2
end

/-! ### a new instance -/
section
variable {K : PySem.W.Frag} {C : Cl} {B : Bw} {W : WX} {z : At0} {F H : Hp} {ρ : Sl} {σ : L2.St} {Q : VK}
theorem app_at {α : Type} {l : List α} {y z : α} {i : Nat} (h : (l ++ [y])[i]? = some z) : l[i]? = some z ∨ (i = l.length ∧ z = y) := by
  by_cases hi : i < l.length
  · rw [List.getElem?_append_left hi] at h
    exact .inl h
  · by_cases hj : i = l.length
    · subst hj
      rw [List.getElem?_append_right (Nat.le_refl _)] at h
      simp at h
      exact .inr ⟨rfl, h.symm⟩
    · rw [List.getElem?_eq_none (by simp; omega)] at h
      cases h
theorem at_app {α : Type} {l : List α} {y z : α} {i : Nat} (h : l[i]? = some z) : (l ++ [y])[i]? = some z := by
  rw [List.getElem?_append_left (List.getElem?_eq_some_iff.mp h).1]
  exact h
/-- one more slot, with a thing -/
theorem Post.push (p : Post K C B z ρ F σ H) {a : Addr} {m : MO} (hn : B.np ≤ ρ.length) (rm : RepM K C F H a m) (no : ∀ x, Foot H a m x → ¬ Held ρ σ H x ∧ (z.S x ∨ z.H x = none)) : Post K C B z (ρ ++ [some (.own m)]) F (σ ++ [some (.ref a)]) H := by
  have l := p.st.len
  have cs : ∀ {j : Nat} {x : SV}, (ρ ++ [some (.own m)])[j]? = some (some x) → ρ[j]? = some (some x) ∨ (j = ρ.length ∧ x = .own m) := fun h => (app_at h).imp_right fun ⟨a, b⟩ => ⟨a, by cases b; rfl⟩
  have sl : ∀ {j : Nat} {x : SV} {v : V}, ρ[j]? = some (some x) → (σ ++ [some (.ref a)])[j]? = some (some v) → σ[j]? = some (some v) := fun {j x v} h e => by
    rw [List.getElem?_append_left (by rw [l]; exact (List.getElem?_eq_some_iff.mp h).1)] at e
    exact e
  have last : ∀ {v : V}, (σ ++ [some (.ref a)])[ρ.length]? = some (some v) → v = .ref a := fun e => by
    rw [← l, List.getElem?_append_right (Nat.le_refl _)] at e
    simp at e
    exact e.symm
  have lastS : (σ ++ [some (V.ref a)])[ρ.length]? = some (some (.ref a)) := by rw [← l]; simp
  refine ⟨p.mono, p.frame, p.new, ⟨by simp [l], p.st.sub, fun j d h => ?_, fun j x m' e t => ?_, fun j k a1 b1 x m1 m2 s' n e1 e2 t q1 q2 f1 f2 => ?_, fun j m' hi e => ?_⟩, ?_, ?_, p.good, ?_⟩
  · rcases cs h with h | ⟨_, y⟩
    · obtain ⟨v, e1, r⟩ := p.st.dat j d h
      exact ⟨v, at_app e1, r⟩
    · cases y
  · rcases cs e with h | ⟨rfl, rfl⟩
    · obtain ⟨b, e1, r⟩ := p.st.thg j x m' h t
      exact ⟨b, at_app e1, r⟩
    · cases t
      exact ⟨a, lastS, rm⟩
  · rcases cs e1 with h1 | ⟨rfl, y1⟩
    · rcases cs e2 with h2 | ⟨rfl, y2⟩
      · exact p.st.sep j k a1 b1 x m1 m2 s' n h1 h2 t (sl h1 q1) (sl h2 q2) f1 f2
      · cases y2
        cases t
        cases last q2
        exact (no x f2).1 (Held.of h1 rfl (sl h1 q1) f1)
    · cases y1
      cases last q1
      rcases cs e2 with h2 | ⟨rfl, y2⟩
      · exact (no x f1).1 (Held.of h2 t (sl h2 q2) f2)
      · exact n rfl
  · rcases cs e with h | ⟨rfl, _⟩
    · obtain ⟨b, h1, h2⟩ := p.st.fix j m' hi h
      exact ⟨b, h1, at_app h2⟩
    · omega
  · rintro x ⟨j, m', b, e, q, f⟩
    rcases cs e with h | ⟨rfl, y⟩
    · exact p.low x ⟨j, m', b, h, sl h q, f⟩
    · cases y
      cases last q
      exact (no x f).2
  · rintro x ⟨j, s', m', b, e, t, q, f⟩
    rcases cs e with h | ⟨rfl, rfl⟩
    · exact p.lowL x ⟨j, s', m', b, h, t, sl h q, f⟩
    · cases t
      cases last q
      exact (no x f).2.imp_left (p.good x)
  · rintro j b m' ⟨e, q⟩
    rcases cs e with h | ⟨_, y⟩
    · exact p.lks j b m' ⟨h, sl h q⟩
    · cases y
/-- the last slot is given away -/
theorem Post.pop {v : V} (p : Post K C B z ρ F (σ ++ [some v]) H) (hn : B.np ≤ σ.length) : Post K C B z (ρ.take σ.length) F σ H ∧ ∀ m, ρ[σ.length]? = some (some (.own m)) → RepRV K C z (ρ.take σ.length) F σ H v (.own m) := by
  have l := p.st.len
  simp only [List.length_append, List.length_cons, List.length_nil, Nat.zero_add] at l
  have cs : ∀ {j : Nat} {x : SV}, (ρ.take σ.length)[j]? = some (some x) → ρ[j]? = some (some x) ∧ j < σ.length := fun {j x} h => by
    rw [List.getElem?_take] at h
    split at h
    · exact ⟨h, by assumption⟩
    · cases h
  have sl : ∀ {j : Nat} {w : Option V}, j < σ.length → (σ ++ [some v])[j]? = some w → σ[j]? = some w := fun h e => by
    rw [List.getElem?_append_left h] at e
    exact e
  have back : ∀ {j : Nat} {w : V}, σ[j]? = some (some w) → (σ ++ [some v])[j]? = some (some w) := fun h => at_app h
  have own : ∀ {x : Addr}, OwnA (ρ.take σ.length) σ H x → OwnA ρ (σ ++ [some v]) H x := fun ⟨i, m, a, e, q, f⟩ => ⟨i, m, a, (cs e).1, back q, f⟩
  have held : ∀ {x : Addr}, Held (ρ.take σ.length) σ H x → Held ρ (σ ++ [some v]) H x := fun ⟨i, s, m, a, e, t, q, f⟩ => ⟨i, s, m, a, (cs e).1, t, back q, f⟩
  refine ⟨⟨p.mono, p.frame, p.new, ⟨by rw [List.length_take, ← l]; omega, p.st.sub, fun j d h => ?_, fun j x m e t => ?_, fun j k a b x m m' s n e1 e2 t q1 q2 f1 f2 => ?_, fun j m hi e => ?_⟩, fun a h => p.low a (own h), fun a h => p.lowL a (held h), p.good, fun i a m ⟨e, q⟩ => p.lks i a m ⟨(cs e).1, back q⟩⟩, fun m e => ?_⟩
  · obtain ⟨w, e1, r⟩ := p.st.dat j d (cs h).1
    exact ⟨w, sl (cs h).2 e1, r⟩
  · obtain ⟨w, e1, r⟩ := p.st.thg j x m (cs e).1 t
    exact ⟨w, sl (cs e).2 e1, r⟩
  · exact p.st.sep j k a b x m m' s n (cs e1).1 (cs e2).1 t (back q1) (back q2) f1 f2
  · obtain ⟨b, h1, h2⟩ := p.st.fix j m hi (cs e).1
    exact ⟨b, h1, sl (cs e).2 h2⟩
  · obtain ⟨a, e1, rm⟩ := p.st.own e
    have ev : v = .ref a := by
      rw [List.getElem?_append_right (Nat.le_refl _)] at e1
      simp at e1
      exact e1
    refine ⟨a, ev, rm, fun x f => ⟨?_, p.low x ⟨_, m, a, e, e1, f⟩⟩⟩
    rintro ⟨j, s, m', b, h1, t, h2, f2⟩
    exact p.st.sep σ.length j a b x m m' s (by have := (cs h1).2; omega) e (cs h1).1 t e1 (back h2) f f2
/-- an object all of whose attributes are there becomes data -/
theorem Post.fixI (p : Post K C B z ρ F σ H) {v : V} {c : Nat} {fs : List (Str × D)} (h : RepRV K C z ρ F σ H v (.own (.ins c fs))) (hc : fs.map (·.1) = C.att c) : ∃ F', Post K C B z ρ F' σ H ∧ Rep K C F' v (.obj c (fs.map (·.2))) := by
  obtain ⟨a, rfl, ⟨n, dx, vs, e, nm, rs⟩, no⟩ := h
  have s : Same F (upd F a (.ins (C.adr c) dx vs)) := fun b u q => by rw [upd_ne (ne_of_none q n)]; exact q
  refine ⟨_, p.fixed s fun x u q => ?_, .obj upd_same (nm.trans hc) (rs.to s)⟩
  by_cases hx : x = a
  · subst hx
    rw [upd_same] at q
    cases q
    exact .inr ⟨e, (no x rfl).1, (no x rfl).2⟩
  · rw [upd_ne hx] at q
    exact .inl q
end
def tMakeD (C : Addr) (sp : Sp) (dvs : List V) (E : L2.St → XK) (t : TA) : TE := fun σ H Q => t σ H fun vs H1 => ∀ x dx, H1 x = none → H1 dx = none → dx ≠ x →
  sp (.ref x :: (vs ++ dvs)) (upd (upd H1 dx (.own x)) x (.ins C dx [])) (fun v H2 => v = .non ∧ Q (.ref x) H2) (E σ)
theorem pe_makeD {X : Cx} {k : Nat} {f C : Addr} {fd : FuncData} {ps : List Str} {sp : Sp} {dvs : List V} {ds : List Value} {W : WX} {x : Str} {p pos : Pos} {e : Expr} {es : List Expr} {t : TA} (M : Mk X.K C f) (F : FnOk X.prog X.w X.K X.mg X.base (L2.CX X.prog X.w) k f fd ps sp) (hr : Room (k + 1) X.A)
    (hg : Gl X x) (hm : X.mg x = some (.ref C)) (hb : Binds X.K fd ps ds) (hd : Vals dvs ds) (tk : Takes X W)
    (ha : PA X (e :: es) t) (hdb : (x == ("__debug__" : Str)) = false := by decide) (he : starEach (e :: es) X.env = (false, eval e X.env) :: starEach es X.env := by rfl) (hpl : (backTo pos (starEach es X.env)).any (·.1) = false := by rfl) :
    PE X (.Call (.Name x p) (e :: es) [] pos) (tMakeD C sp dvs (WE W) t) := by
  constructor
  intro pins s σ H Q I h
  refine wpAny_Call_Name_kw (ld_glob I hg hm ?_ hdb)
  refine PySem.W.callWith_K (h₀ := X.base) I.ok.mod.kin M.kp ?_ he hpl
  refine thn (ha.run pos pins s σ H _ I h) ?_
  rintro us s1 ⟨vs, H1, I1, r, q⟩
  refine ⟨I1.kIn, ?_⟩
  have ask := q (s1.heap.objs.size + 1) s1.heap.objs.size (I1.hok.fresh (Nat.le_succ _)) (I1.hok.fresh (Nat.le_refl _)) (Nat.ne_of_lt (Nat.lt_succ_self _))
  have J := Inv.made (C := C) I1
  have rel : Vals (V.ref (s1.heap.objs.size + 1) :: (vs ++ dvs)) (Value.ref (s1.heap.objs.size + 1) :: (us ++ ds)) := .cons rfl (r.append hd)
  have len : (Value.ref (s1.heap.objs.size + 1) :: (us ++ ds)).length = ps.length := rel.length.symm.trans (F.len _ _ _ _ ask)
  have bnd := hb _ (Value.ref (s1.heap.objs.size + 1) :: us) J.kIn (by simpa using len)
  refine wpAny_call (make_map (f := f) I1.kIn M.makes M.init (beq_iff_eq.mp M.fn) (codeAny_mono (F.run _ X.stack _ _ ⟨Value.ref (s1.heap.objs.size + 1) :: us, []⟩ (Value.ref (s1.heap.objs.size + 1) :: (us ++ ds)) _ _ (WE W σ) (hr.make C us []) (J.env0.make C us []) (by simpa using bnd) rel ask) ?_))
  rintro (er | fl) s' out
  · exact passAt tk σ pins _ _ _ _ J out
  · cases fl with
    | next => exact out.elim
    | brk => exact out.elim
    | cont => exact out.elim
    | ret u =>
      obtain ⟨v, H', J', rv, rfl, qq⟩ := J.after out
      exact ⟨rv, ⟨V.ref (s1.heap.objs.size + 1), H', J', rfl, qq⟩⟩
/-- an own class's making: F is what its __init__ makes, dd what is left out -/
structure MakeOk (P : Program) (w : World) (K : PySem.W.Frag) (mg : Str → Option Value) (base : Heap) (C : Cl) (k : Nat) (x : Str) (c : Nat) (F : DE) (dd : List D) : Prop where
  at_ : ∃ f fd ps dvs ds, Mk K (C.adr c) f ∧ mg x = some (.ref (C.adr c)) ∧ FnOk P w K mg base (L2.CX P w) k f fd ps (spF K C F) ∧ Binds K fd ps ds ∧ Vals dvs ds ∧ ∀ Fh : Hp, Reps K C Fh dvs dd
/-- what the call of a class makes of the instance's end -/
def gMakeI (c : Nat) (F : DE) (dd : List D) (rs : List RV) : Ef (List (Str × D)) := fun ρ => match gCallF F (.bor ρ.length :: (rs ++ dd.map .dat)) (ρ ++ [some (.own (.ins c []))]) with
  | some (.ok (.dat .non) ρ1) => match ρ1[ρ.length]? with
    | some (some (.own (.ins c' fs))) => if c' = c then some (.ok fs (ρ1.take ρ.length)) else none
    | _ => none
  | some (.exc e fs ρ1) => some (.exc e fs (ρ1.take ρ.length))
  | _ => none
/-- an object that never changes -/
def gMake (att : Nat → List Str) (c : Nat) (F : DE) (dd : List D) (rs : List RV) : DE := fun ρ => match gMakeI c F dd rs ρ with
  | some (.ok fs ρ') => if fs.map (·.1) = att c then some (.ok (.dat (.obj c (fs.map (·.2)))) ρ') else none
  | some (.exc e fs ρ') => some (.exc e fs ρ')
  | none => none
/-- an object that may change -/
def gMakeO (c : Nat) (F : DE) (dd : List D) (rs : List RV) : DE := fun ρ => match gMakeI c F dd rs ρ with
  | some (.ok fs ρ') => some (.ok (.own (.ins c fs)) ρ')
  | some (.exc e fs ρ') => some (.exc e fs ρ')
  | none => none
section
variable {K : PySem.W.Frag} {C : Cl} {B : Bw} {W : WX} {z : At0} {F H : Hp} {ρ : Sl} {σ : L2.St} {Q : VK}
theorem reps_dat : ∀ {us : List V} {ds : List D}, Reps K C F us ds → RepRVs K C z ρ F σ H us (ds.map .dat)
  | _, _, .nil => .nil
  | _, _, .cons x r => .cons x (reps_dat r) fun m e => by cases e
theorem repRVs_add : ∀ {vs us : List V} {rs : List RV} {ds : List D}, RepRVs K C z ρ F σ H vs rs → Reps K C F us ds → RepRVs K C z ρ F σ H (vs ++ us) (rs ++ ds.map .dat)
  | _, _, _, _, .nil, r => reps_dat r
  | _, us, _, ds, .cons (v := v) (vs := vs) (r := r0) (rs := rs) x t n, r => by
    refine .cons x (repRVs_add t r) fun m e k m' a b y hk hv ea f => ?_
    have hk : (rs ++ ds.map RV.dat)[k]? = some (.own m') := hk
    have hv : (vs ++ us)[k]? = some (.ref b) := hv
    by_cases hl : k < rs.length
    · rw [List.getElem?_append_left hl] at hk
      rw [List.getElem?_append_left (by rw [t.length]; exact hl)] at hv
      exact n m e k m' a b y hk hv ea f
    · rw [List.getElem?_append_right (by omega), List.getElem?_map] at hk
      cases hd : ds[k - rs.length]? with
      | none => rw [hd] at hk; cases hk
      | some d => rw [hd] at hk; cases hk
theorem takeArgs_noown : ∀ {rs : List RV} {ρ : Sl} {x : List (Option SV) × Sl}, takeArgs rs ρ = some x → ∀ m, RV.own m ∉ rs
  | [], _, _, _ => fun m h => by cases h
  | .own _ :: _, _, _, e => by cases e
  | .dat d :: rs, ρ, x, e => fun m h => by
    unfold takeArgs at e
    split at e
    · rename_i e'
      rcases List.mem_cons.mp h with h | h
      · cases h
      · exact takeArgs_noown e' m h
    · cases e
  | .shr i :: rs, ρ, x, e => fun m h => by
    unfold takeArgs at e
    split at e
    · rename_i e'
      rcases List.mem_cons.mp h with h | h
      · cases h
      · exact takeArgs_noown e' m h
    · cases e
  | .bor i :: rs, ρ, x, e => fun m h => by
    rcases List.mem_cons.mp h with h | h
    · cases h
    · unfold takeArgs at e
      split at e
      · split at e
        · rename_i e'
          exact takeArgs_noown e' m h
        · cases e
      · split at e
        · rename_i e'
          exact takeArgs_noown e' m h
        · cases e
      · split at e
        · rename_i e'
          exact takeArgs_noown e' m h
        · cases e
      · cases e
/-- the arguments as they stand behind one more slot -/
theorem RepRVs.lift {ρ' : Sl} {H' : Hp} {w : Option V} : ∀ {vs : List V} {rs : List RV}, RepRVs K C z ρ F σ H vs rs → (∀ m, RV.own m ∉ rs) → RepRVs K C z ρ' F (σ ++ [w]) H' vs rs
  | _, _, .nil, _ => .nil
  | _, _, .cons (r := r) x t n, no => by
    refine .cons ?_ (t.lift fun m h => no m (List.mem_cons_of_mem _ h)) fun m e => (no m (e ▸ List.mem_cons_self)).elim
    cases r with
    | dat d => exact x
    | own m => exact (no m List.mem_cons_self).elim
    | bor i => exact at_app x
    | shr i => exact at_app x
/-- a new instance, made by F -/
theorem make_run {f : DE} {c : Nat} {dd : List D} {vs dvs : List V} {rs : List RV} (hd : ∀ Fh : Hp, Reps K C Fh dvs dd) (hn : B.np ≤ ρ.length) (p : Post K C B z ρ F σ H) (q : RepRVs K C z ρ F σ H vs rs) {x dx : Addr} (nx : H x = none) (nd : H dx = none) (ne : dx ≠ x)
    (good : ∀ fs ρ', gMakeI c f dd rs ρ = some (.ok fs ρ') → ∀ F' H', Post K C B z ρ' F' σ H' → RepRV K C z ρ' F' σ H' (.ref x) (.own (.ins c fs)) → Q (.ref x) H')
    (bad : ∀ e fs ρ', gMakeI c f dd rs ρ = some (.exc e fs ρ') → ∀ d F' H', Post K C B z ρ' F' σ H' → ExcAt K C F' H' d fs → W (.ref (C.adr e)) d σ H')
    (some_ : gMakeI c f dd rs ρ ≠ none) : spF K C f (.ref x :: (vs ++ dvs)) (upd (upd H dx (.own x)) x (.ins (C.adr c) dx [])) (fun v H2 => v = .non ∧ Q (.ref x) H2) (WE W σ) := by
  have l := p.st.len
  have p1 := p.newO nd (.own x)
  have nx1 : upd H dx (.own x) x = none := by rw [upd_ne (Ne.symm ne)]; exact nx
  have p2 := p1.newO nx1 (.ins (C.adr c) dx [])
  have rm : RepM K C F (upd (upd H dx (.own x)) x (.ins (C.adr c) dx [])) x (.ins c []) := ⟨p1.st.sub.free nx1, dx, [], upd_same, rfl, .nil⟩
  have nh : ¬ Held ρ σ (upd (upd H dx (.own x)) x (.ins (C.adr c) dx [])) x := by
    rintro ⟨i, s, m, b, e, t, w, fo⟩
    have nb : b ≠ x := by
      rintro rfl
      exact p1.notHeld nx1 (Held.of e t w (Foot.root _ _ _))
    exact p1.notHeld nx1 ⟨i, s, m, b, e, t, w, (Foot.same (upd_ne nb)).mp fo⟩
  have p3 := p2.push hn rm fun y fy => by
    obtain rfl : y = x := fy
    exact ⟨nh, p.there nx⟩
  cases ec : gCallF f (.bor ρ.length :: (rs ++ dd.map .dat)) (ρ ++ [some (.own (.ins c []))]) with
  | none => exact (some_ (by unfold gMakeI; rw [ec])).elim
  | some o =>
    have no : ∀ m, RV.own m ∉ rs := fun m h => by
      unfold gCallF at ec
      split at ec
      · rename_i as ρd et
        exact takeArgs_noown et m (List.mem_cons_of_mem _ (List.mem_append_left _ h))
      · cases ec
    have q3 : RepRVs K C z (ρ ++ [some (.own (.ins c []))]) F (σ ++ [some (.ref x)]) (upd (upd H dx (.own x)) x (.ins (C.adr c) dx [])) (.ref x :: (vs ++ dvs)) (.bor ρ.length :: (rs ++ dd.map .dat)) :=
      .cons (show (σ ++ [some (V.ref x)])[ρ.length]? = _ by rw [← l]; simp) (repRVs_add (q.lift no) (hd F)) fun m e => by cases e
    refine call_run (W := fun cls d _ H => W cls d σ H) p3 q3 ?_
    rw [ec]
    cases o with
    | exc e fs ρ1 =>
      intro d F' H' p' ex
      have eg : gMakeI c f dd rs ρ = some (.exc e fs (ρ1.take ρ.length)) := by unfold gMakeI; rw [ec]
      refine bad e fs _ eg d F' H' ?_ ex
      have := (p'.pop (by rw [l]; exact hn)).1
      rw [l] at this
      exact this
    | ok r ρ1 =>
      cases r with
      | dat d =>
        cases d with
        | non =>
          intro v F' H' p' rv
          cases (show Rep K C F' v .non from rv)
          refine ⟨rfl, ?_⟩
          cases e1 : ρ1[ρ.length]? with
          | none => exact (some_ (by unfold gMakeI; rw [ec]; dsimp only; rw [e1])).elim
          | some s1 =>
            match s1, e1 with
            | some (.own (.ins c' fs)), e1 =>
              by_cases hc : c' = c
              · subst hc
                have eg : gMakeI c' f dd rs ρ = some (.ok fs (ρ1.take ρ.length)) := by unfold gMakeI; rw [ec]; dsimp only; rw [e1]; exact if_pos rfl
                obtain ⟨p4, q4⟩ := p'.pop (by rw [l]; exact hn)
                rw [l] at p4 q4
                exact good fs _ eg F' H' p4 (q4 _ e1)
              · exact (some_ (by unfold gMakeI; rw [ec]; dsimp only; rw [e1]; exact if_neg hc)).elim
            | none, e1 => exact (some_ (by unfold gMakeI; rw [ec]; dsimp only; rw [e1])).elim
            | some (.dat d), e1 => exact (some_ (by unfold gMakeI; rw [ec]; dsimp only; rw [e1])).elim
            | some (.lck d), e1 => exact (some_ (by unfold gMakeI; rw [ec]; dsimp only; rw [e1])).elim
            | some (.own (.lst d)), e1 => exact (some_ (by unfold gMakeI; rw [ec]; dsimp only; rw [e1])).elim
            | some (.own (.dct k d)), e1 => exact (some_ (by unfold gMakeI; rw [ec]; dsimp only; rw [e1])).elim
            | some (.own (.lls d)), e1 => exact (some_ (by unfold gMakeI; rw [ec]; dsimp only; rw [e1])).elim
            | some (.own (.dls k d)), e1 => exact (some_ (by unfold gMakeI; rw [ec]; dsimp only; rw [e1])).elim
        | _ => exact (some_ (by unfold gMakeI; rw [ec])).elim
      | _ => exact (some_ (by unfold gMakeI; rw [ec])).elim
end
section
variable {X : Cx} {C : Cl} {B : Bw} {W : WX} {k : Nat} {c : Nat} {F : DE} {dd : List D} {e : Expr} {es : List Expr} {fl : Ef (List RV)} {x : Str} {p pos : Pos} {att : Nat → List Str}
theorem pd_make (ok : MakeOk X.prog X.w X.K X.mg X.base C k x c F dd) (hA : C.att = att) (hn : B.np ≤ X.N.length) (hr : Room (k + 1) X.A) (tk : Takes X W) (hg : Gl X x) (ha : PDA X C B W (e :: es) fl)
    (hdb : (x == ("__debug__" : Str)) = false := by decide) (he : starEach (e :: es) X.env = (false, eval e X.env) :: starEach es X.env := by rfl) (hpl : (backTo pos (starEach es X.env)).any (·.1) = false := by rfl) :
    PD X C B W (.Call (.Name x p) (e :: es) [] pos) (bindE fl (gMake att c F dd)) := by
  obtain ⟨f, fd, ps, dvs, ds, M, mx, Fn, hb, hd, hD⟩ := ok.at_
  constructor
  intro pins s σ H Q I h
  refine (pe_makeD M Fn hr hg mx hb hd tk ha hdb he hpl).run pins s σ H Q I ?_
  have ln := I.len
  obtain ⟨ρ, F0, st, g⟩ := h
  refine tG_bind (k1 := kL X.K C) (Post.start st) g fun rs ρ1 vs F1 H1 g1 p1 _ q1 x dx nx nd ne => ?_
  refine make_run hD (by rw [← p1.st.len, ln]; exact hn) p1 q1 nx nd ne (fun fs ρ' eg F' H' p' q' => ?_) (fun e' fs ρ' eg d F' H' p' ex => ?_) fun en => ?_
  · unfold gMake at g1
    rw [eg] at g1
    dsimp only at g1
    split at g1
    · rename_i hc
      obtain ⟨F2, p2, r2⟩ := p'.fixI q' (by rw [hA]; exact hc)
      exact g1 _ F2 H' p2 r2
    · exact False.elim g1
  · unfold gMake at g1
    rw [eg] at g1
    exact g1 d F' H' p' ex
  · unfold gMake at g1
    rw [en] at g1
    exact g1
theorem pd_makeO (ok : MakeOk X.prog X.w X.K X.mg X.base C k x c F dd) (hn : B.np ≤ X.N.length) (hr : Room (k + 1) X.A) (tk : Takes X W) (hg : Gl X x) (ha : PDA X C B W (e :: es) fl)
    (hdb : (x == ("__debug__" : Str)) = false := by decide) (he : starEach (e :: es) X.env = (false, eval e X.env) :: starEach es X.env := by rfl) (hpl : (backTo pos (starEach es X.env)).any (·.1) = false := by rfl) :
    PD X C B W (.Call (.Name x p) (e :: es) [] pos) (bindE fl (gMakeO c F dd)) := by
  obtain ⟨f, fd, ps, dvs, ds, M, mx, Fn, hb, hd, hD⟩ := ok.at_
  constructor
  intro pins s σ H Q I h
  refine (pe_makeD M Fn hr hg mx hb hd tk ha hdb he hpl).run pins s σ H Q I ?_
  have ln := I.len
  obtain ⟨ρ, F0, st, g⟩ := h
  refine tG_bind (k1 := kL X.K C) (Post.start st) g fun rs ρ1 vs F1 H1 g1 p1 _ q1 x dx nx nd ne => ?_
  refine make_run hD (by rw [← p1.st.len, ln]; exact hn) p1 q1 nx nd ne (fun fs ρ' eg F' H' p' q' => ?_) (fun e' fs ρ' eg d F' H' p' ex => ?_) fun en => ?_
  · unfold gMakeO at g1
    rw [eg] at g1
    exact g1 _ F' H' p' q'
  · unfold gMakeO at g1
    rw [eg] at g1
    exact g1 d F' H' p' ex
  · unfold gMakeO at g1
    rw [en] at g1
    exact g1
end
end Pl
set_option Elab.async false
set_option linter.all false
set_option maxRecDepth 100000
set_option maxHeartbeats 4000000
/-! Own objects: properties, len, operators, ==, !=, str, isinstance. -/
namespace Pl
open PySem PySem.Spec PyProof.Rows L2 Tk
/-- what is known of the own class c of values -/
structure ClsK (K : PySem.W.Frag) (C : Cl) (c : Nat) : Prop where
  cl : Cls K (C.adr c)
  ha : PySem.W.findIn K (.ref (C.adr c)) "__class__" = some (some (.builtin "object.__class__"))
  hn : PySem.W.specialIn K (.builtin "object.__class__") "__get__" = some (some (.builtin "getset_descriptor.__get__"))
  ht : PySem.W.takesIn K (.builtin "object.__class__") = some true
  hm : PySem.W.mroIn K (C.adr c) (.type "object") = some true
  sf : PySem.W.selfFirst K (C.adr c) = true
theorem ClsK.ty {K : PySem.W.Frag} {C : Cl} {c : Nat} (k : ClsK K C c) {H : Hp} {a dx : Addr} {fs : List (Str × V)} (h : H a = some (.ins (C.adr c) dx fs)) : TyX K H (.ref a) (.ref (C.adr c)) := .base (.ins h k.cl k.ha k.hn k.ht k.hm)
section
variable {K : PySem.W.Frag} {C : Cl} {B : Bw} {W : WX} {z : At0} {F H : Hp} {ρ : Sl} {σ : L2.St} {Q : VK}
/-- a call that makes r' -/
theorem quiet_run {f : DE} {vs : List V} {rs : List RV} {E : XK} (p : Post K C B z ρ F σ H) (q : RepRVs K C z ρ F σ H vs rs) {r' : RV} {ρ' : Sl} (e : gCallF (quiet f) rs ρ = some (.ok r' ρ')) (h : ∀ v F' H', Post K C B z ρ' F' σ H' → RepRV K C z ρ' F' σ H' v r' → Q v H') : spF K C f vs H Q E :=
  spF_quiet (call_run (W := fun _ _ _ _ => False) p q (by rw [e]; exact h))
end

/-! ### properties -/
structure PropOk (P : Program) (w : World) (K : PySem.W.Frag) (mg : Str → Option Value) (base : Heap) (C : Cl) (k : Nat) (f : Str) (pt : Nat → Option DE) : Prop where
  at_ : ∀ c F, pt c = some F → Cls K (C.adr c) ∧ f ∉ C.att c ∧ ∃ p g fd ps, PropOf K (C.adr c) f p g ∧ FnOk P w K mg base (L2.CX P w) k g fd ps (spF K C F) ∧ Binds K fd ps []
def dPrp (f : Str) (pt : Nat → Option DE) (fo : DE) : DE := bindE fo fun r ρ => match clsOf f r ρ with
  | some c => match pt c with
    | some F => gCallF (quiet F) [r] ρ
    | none => none
  | none => none
section
variable {X : Cx} {C : Cl} {B : Bw} {W : WX} {k : Nat} {o : Expr} {fo : DE} {pos : Pos} {f : Str} {pt : Nat → Option DE}
theorem pd_prp (ok : PropOk X.prog X.w X.K X.mg X.base C k f pt) (hr : Room (k + 1) X.A) (ho : PD X C B W o fo) (hab : attributeBase o f X.env (eval o X.env) = eval o X.env := by rfl) : PD X C B W (.Attribute o f pos) (dPrp f pt fo) := by
  constructor
  intro pins s σ H Q I h
  refine attr_of hab (thn (ho.run pins s σ H _ I (?_ : tD X.K C B W fo σ H fun x H1 => ∃ a Cc dx fs p g fd ps sp, x = V.ref a ∧ H1 a = some (.ins Cc dx fs) ∧ Cls X.K Cc ∧ PropOf X.K Cc f p g ∧ FnOk X.prog X.w X.K X.mg X.base (L2.CX X.prog X.w) k g fd ps sp ∧ Binds X.K fd ps [] ∧ sp [.ref a] H1 Q (fun _ _ _ => False))) ?_)
  · obtain ⟨ρ, F, st, g⟩ := h
    refine tG_bind (k1 := kR X.K C) (Post.start st) g fun r1 ρ1 v F1 H1 g1 p1 _ q1 => ?_
    try dsimp only at g1
    split at g1
    · rename_i c ec
      split at g1
      · rename_i F0 em
        obtain ⟨cl, no, p, g, fd, ps, pr, fn, bi⟩ := ok.at_ c F0 em
        obtain ⟨a, dx, fs, rfl, ea, lk⟩ := clsOf_at q1 p1.st ec no
        refine ⟨a, _, dx, fs, p, g, fd, ps, _, rfl, ea, cl, pr, fn, bi, ?_⟩
        have qs : RepRVs X.K C (here ρ F σ H) ρ1 F1 σ H1 [V.ref a] [r1] := .cons q1 .nil fun mo er => (clsOf_own ec er).elim
        cases eg : gCallF (quiet F0) [r1] ρ1 with
        | none => rw [eg] at g1; exact False.elim g1
        | some o1 =>
          rw [eg] at g1
          cases o1 with
          | ok r' ρ' => exact quiet_run p1 qs eg g1
          | exc c fs ρ' =>
            have : ∀ as ρd, takeArgs [r1] ρ1 = some (as, ρd) → False := fun as ρd et => by
              unfold gCallF at eg
              rw [et] at eg
              dsimp only at eg
              unfold quiet at eg
              cases ef : F0 as with
              | none => rw [ef] at eg; cases eg
              | some o2 =>
                rw [ef] at eg
                cases o2 with
                | exc c fs ρ'' => cases eg
                | ok r ρ'' => cases r <;> cases eg
            unfold gCallF at eg
            cases et : takeArgs [r1] ρ1 with
            | none => rw [et] at eg; cases eg
            | some x => exact (this x.1 x.2 et).elim
      · exact False.elim g1
    · exact False.elim g1
  · rintro u s1 ⟨x, H1, I1, rx, a, Cc, dx, fs, p, g, fd, ps, sp, rfl, ea, cl, pr, fn, bi, q⟩
    cases rx
    exact getprop_ok (dvs := []) (ds := []) I1 ea cl pr fn hr bi .nil (fun pins σ H s e s' I h => by
      obtain ⟨_, _, _, _, _, _, _, _, _, _, _, _, h⟩ := h
      exact h.elim) q
end
/-! ### len, operators, ==, !=, str -/
/-- a call without a way out by an error -/
def gCallQ (F : DE) (rs : List RV) : DE := fun ρ => match gCallF (quiet F) rs ρ with
  | some (.ok r ρ') => some (.ok r ρ')
  | _ => none
theorem gCallQ_inv {F : DE} {rs : List RV} {ρ : Sl} {x : Res RV} (h : gCallQ F rs ρ = some x) : ∃ r ρ', x = .ok r ρ' ∧ gCallF (quiet F) rs ρ = some (.ok r ρ') := by
  unfold gCallQ at h
  split at h
  · rename_i r ρ' e
    cases h
    exact ⟨r, ρ', rfl, e⟩
  · cases h
def gLenX (lt : Nat → Option DE) (rs : List RV) : DE := fun ρ => match rs with
  | [r] => match clsOf "__len__" r ρ with
    | some c => match lt c with
      | some F => match gCallQ F [r] ρ with
        | some (.ok (.dat (.int n)) ρ') => if decide (0 ≤ n) && decide (n ≤ 100000) then some (.ok (.dat (.int n)) ρ') else none
        | _ => none
      | none => none
    | none => on1 hLen [r] ρ
  | _ => none
def gBinX (m : Str) (bt : Nat → Option DE) (g : RV → RV → DE) (r1 r2 : RV) : DE := fun ρ => match clsOf m r1 ρ with
  | some c => match bt c with
    | some F => if clsOf m r2 ρ = some c then match gCallQ F [r1, r2] ρ with
        | some (.ok (.dat (.obj c' l)) ρ') => some (.ok (.dat (.obj c' l)) ρ')
        | _ => none
      else none
    | none => none
  | none => g r1 r2 ρ
def gEqX (et : Nat → Option DE) (g : RV → RV → DE) (r1 r2 : RV) : DE := fun ρ => match clsOf "__eq__" r1 ρ with
  | some c => match et c with
    | some F => if decide (clsOf "__eq__" r2 ρ = some c) || ((r2.see ρ).bind kindD).isSome then match gCallQ F [r1, r2] ρ with
        | some (.ok (.dat (.bl b)) ρ') => some (.ok (.dat (.bl b)) ρ')
        | _ => none
      else none
    | none => none
  | none => g r1 r2 ρ
def gNeX (et : Nat → Option DE) (g : RV → RV → DE) (r1 r2 : RV) : DE := fun ρ => match clsOf "__eq__" r1 ρ with
  | some c => match et c with
    | some F => if clsOf "__eq__" r2 ρ = some c then match gCallQ F [r1, r2] ρ with
        | some (.ok (.dat (.bl b)) ρ') => some (.ok (.dat (.bl !b)) ρ')
        | _ => none
      else none
    | none => none
  | none => g r1 r2 ρ
def gStrX (st : Nat → Option DE) (g : List RV → DE) (rs : List RV) : DE := fun ρ => match rs with
  | [r] => match clsOf "__str__" r ρ with
    | some c => match st c with
      | some F => match gCallQ F [r] ρ with
        | some (.ok (.dat (.str x)) ρ') => some (.ok (.dat (.str x)) ρ')
        | _ => none
      | none => none
    | none => g [r] ρ
  | _ => none
section
variable {X : Cx} {C : Cl} {k : Nat} {lt : Nat → Option DE}
theorem MethOk.r {m : Str} {B : Bw} {z : At0} {F H : Hp} {ρ : Sl} {σ : L2.St} {v : V} {r : RV} {c : Nat} {F0 : DE} (ok : MethOk X.prog X.w X.K X.mg X.base C k m lt) (p : Post X.K C B z ρ F σ H) (q : RepRV X.K C z ρ F σ H v r) (ec : clsOf m r ρ = some c) (em : lt c = some F0) : ∃ a dx fs, v = .ref a ∧ H a = some (.ins (C.adr c) dx fs) ∧ MethR X k m a H (spF X.K C F0) := by
  obtain ⟨cl, no, f, fd, ps, me, fn, bi⟩ := ok.at_ c F0 em
  obtain ⟨a, dx, fs, rfl, ea, lk⟩ := clsOf_at q p.st ec no
  exact ⟨a, dx, fs, rfl, ea, ⟨_, dx, fs, f, fd, ps, ea, lk, cl, me, fn, bi⟩⟩
theorem o_lenX (ok : MethOk X.prog X.w X.K X.mg X.base C k "__len__" lt) : OpL X.K C (fun xs H Q => (∃ x n, xs = [x] ∧ LenV X.K x H n ∧ Q (V.int ↑n) H) ∨ rLenO X k xs H Q) (gLenX lt) := by
  intro B W z ρ σ F H vs rs Q p q g
  unfold gLenX at g
  split at g
  · rename_i r
    cases q with
    | @cons v _ _ _ q1 qt no =>
    cases qt
    split at g
    · rename_i c ec
      split at g
      · rename_i F0 em
        obtain ⟨a, dx, fs, rfl, ea, mr⟩ := ok.r p q1 ec em
        split at g
        · rename_i n ρ' eg
          obtain ⟨r', ρ2, e1, eg⟩ := gCallQ_inv eg
          cases e1
          split at g
          · rename_i hn
            simp only [Bool.and_eq_true, decide_eq_true_eq] at hn
            refine .inr ⟨a, _, rfl, mr, quiet_run p (.cons q1 .nil no) eg fun v F' H' p' rv => ?_⟩
            have rv : Rep X.K C F' v (.int n) := rv
            rw [rv.int_inv]
            exact ⟨n, rfl, hn.1, Int.lt_of_le_of_lt hn.2 (by decide), g _ F' H' p' (.int n)⟩
          · exact False.elim g
        · exact False.elim g
      · exact False.elim g
    · exact .inl (o_len B W z ρ σ F H _ _ Q p (.cons q1 .nil no) g)
  · exact False.elim g
theorem cr_lenX (hr : Room (k + 1) X.A) : CallR X (.builtin "len") (fun xs H Q => (∃ x n, xs = [x] ∧ LenV X.K x H n ∧ Q (V.int ↑n) H) ∨ rLenO X k xs H Q) := Pl.CallR.or call_len (cr_lenO hr)
theorem no_own2 {z : At0} {H : Hp} {m : Str} {ρ : Sl} {c c' : Nat} {r1 r2 : RV} {v1 v2 : V} (e1 : clsOf m r1 ρ = some c) : ∀ mo, r1 = .own mo → ∀ (k : Nat) (m' : MO) (a b x : Addr), [r2][k]? = some (.own m') → [v2][k]? = some (.ref b) → v1 = .ref a → Foot H a mo x → ¬ Foot H b m' x := fun mo er => (clsOf_own e1 er).elim
theorem o_binX {m : Str} {r0 : R2} {g0 : RV → RV → DE} (ok : MethOk X.prog X.w X.K X.mg X.base C k m lt) (ck : ∀ c F, lt c = some F → ClsK X.K C c) (o0 : Op2 X.K C r0 g0) : Op2 X.K C (fun x y H Q => r0 x y H Q ∨ rBinO X k m x y H Q) (gBinX m lt g0) := by
  intro B W z ρ σ F H x y r1 r2 Q p q1 q2 g
  unfold gBinX at g
  split at g
  · rename_i c ec
    split at g
    · rename_i F0 em
      split at g
      · rename_i e2
        obtain ⟨a, dx, fs, rfl, ea, mr⟩ := ok.r p q1 ec em
        obtain ⟨b, dx', fs', rfl, eb, _⟩ := ok.r p q2 e2 em
        split at g
        · rename_i c' l ρ' eg
          obtain ⟨r', ρ2, e1, eg⟩ := gCallQ_inv eg
          cases e1
          refine .inr ⟨a, b, _, rfl, rfl, mr, ⟨_, dx, fs, dx', fs', ea, eb, (ck c F0 em).ty eb, (ck c F0 em).sf⟩, quiet_run p (.cons q1 (.cons q2 .nil fun mo er => (clsOf_own e2 er).elim) fun mo er => (clsOf_own ec er).elim) eg fun v F' H' p' rv => ?_⟩
          refine ⟨?_, g v F' H' p' rv⟩
          cases (show Rep X.K C F' v (.obj c' l) from rv) with
          | obj _ _ _ => exact ⟨_, rfl⟩
        · exact False.elim g
      · exact False.elim g
    · exact False.elim g
  · exact .inl (o0 B W z ρ σ F H x y r1 r2 Q p q1 q2 g)
theorem o_eqX {r0 : R2} {g0 : RV → RV → DE} (ok : MethOk X.prog X.w X.K X.mg X.base C k "__eq__" lt) (ck : ∀ c F, lt c = some F → ClsK X.K C c ∧ ∀ n, n ∈ ["NoneType", "bool", "int", "str", "list", "tuple"] → PySem.W.subIn X.K (.type n) (.ref (C.adr c)) = some false) (o0 : Op2 X.K C r0 g0) : Op2 X.K C (fun x y H Q => r0 x y H Q ∨ rEqO X k x y H Q) (gEqX lt g0) := by
  intro B W z ρ σ F H x y r1 r2 Q p q1 q2 g
  unfold gEqX at g
  split at g
  · rename_i c ec
    split at g
    · rename_i F0 em
      split at g
      · rename_i e2
        obtain ⟨a, dx, fs, rfl, ea, mr⟩ := ok.r p q1 ec em
        have no2 : ∀ mo, r2 = .own mo → ∀ (k : Nat) (m' : MO) (a b x : Addr), ([] : List RV)[k]? = some (.own m') → ([] : List V)[k]? = some (.ref b) → y = .ref a → Foot H a mo x → ¬ Foot H b m' x := fun mo er k m' a b x hk => by simp at hk
        have ty : ∃ t, TyX X.K H y t ∧ PySem.W.notFirst X.K (C.adr c) t = true := by
          simp only [Bool.or_eq_true, decide_eq_true_eq] at e2
          rcases e2 with e2 | e2
          · obtain ⟨b, dx', fs', rfl, eb, _⟩ := ok.r p q2 e2 em
            refine ⟨_, (ck c F0 em).1.ty eb, ?_⟩
            unfold PySem.W.notFirst
            simp
          · cases e3 : r2.see ρ with
            | none => rw [e3] at e2; cases e2
            | some d =>
              rw [e3] at e2
              cases e4 : kindD d with
              | none => rw [Option.bind_some, e4] at e2; cases e2
              | some n =>
                refine ⟨_, (q2.parts p.st e3).kind e4, ?_⟩
                have hn : n ∈ ["NoneType", "bool", "int", "str", "list", "tuple"] := by
                  cases d <;> simp [kindD] at e4 <;> subst e4 <;> simp
                have := (ck c F0 em).2 n hn
                unfold PySem.W.notFirst
                rw [this]
                simp
        obtain ⟨t, ty, nf⟩ := ty
        split at g
        · rename_i b ρ' eg
          obtain ⟨r', ρ2, e1, eg⟩ := gCallQ_inv eg
          cases e1
          refine .inr ⟨a, _, t, rfl, mr, ty, ⟨_, dx, fs, ea, nf⟩, quiet_run p (.cons q1 (.cons q2 .nil no2) fun mo er => (clsOf_own ec er).elim) eg fun v F' H' p' rv => ?_⟩
          have rv : Rep X.K C F' v (.bl b) := rv
          rw [rv.bl_inv]
          exact ⟨b, rfl, g _ F' H' p' (.bl b)⟩
        · exact False.elim g
      · exact False.elim g
    · exact False.elim g
  · exact .inl (o0 B W z ρ σ F H x y r1 r2 Q p q1 q2 g)
theorem o_neX {r0 : R2} {g0 : RV → RV → DE} (ok : MethOk X.prog X.w X.K X.mg X.base C k "__eq__" lt) (nk : ∀ c F, lt c = some F → ∀ f, Meth X.K (C.adr c) "__eq__" f → NeAt X.K (C.adr c) f) (o0 : Op2 X.K C r0 g0) : Op2 X.K C (fun x y H Q => r0 x y H Q ∨ rNeO X k x y H Q) (gNeX lt g0) := by
  intro B W z ρ σ F H x y r1 r2 Q p q1 q2 g
  unfold gNeX at g
  split at g
  · rename_i c ec
    split at g
    · rename_i F0 em
      split at g
      · rename_i e2
        obtain ⟨cl, no, f, fd, ps, me, fn, bi⟩ := ok.at_ c F0 em
        obtain ⟨a, dx, fs, rfl, ea, mr⟩ := ok.r p q1 ec em
        obtain ⟨b, dx', fs', rfl, eb, _⟩ := ok.r p q2 e2 em
        split at g
        · rename_i b1 ρ' eg
          obtain ⟨r', ρ2, e1, eg⟩ := gCallQ_inv eg
          cases e1
          refine .inr ⟨a, b, _, f, rfl, rfl, ⟨_, dx, fs, dx', fs', fd, ps, ea, eb, nk c F0 em f me, me.fn, fn, bi⟩, quiet_run p (.cons q1 (.cons q2 .nil fun mo er => (clsOf_own e2 er).elim) fun mo er => (clsOf_own ec er).elim) eg fun v F' H' p' rv => ?_⟩
          have rv : Rep X.K C F' v (.bl b1) := rv
          rw [rv.bl_inv]
          exact ⟨b1, rfl, g _ F' H' p' (.bl _)⟩
        · exact False.elim g
      · exact False.elim g
    · exact False.elim g
  · exact .inl (o0 B W z ρ σ F H x y r1 r2 Q p q1 q2 g)
theorem o_strX {r0 : List V → Hp → VK → Prop} {g0 : List RV → DE} (ok : MethOk X.prog X.w X.K X.mg X.base C k "__str__" lt) (o0 : OpL X.K C r0 g0) : OpL X.K C (fun xs H Q => r0 xs H Q ∨ rStrO X k xs H Q) (gStrX lt g0) := by
  intro B W z ρ σ F H vs rs Q p q g
  unfold gStrX at g
  split at g
  · rename_i r
    split at g
    · rename_i c ec
      cases q with
      | @cons v _ _ _ q1 qt no =>
      cases qt
      split at g
      · rename_i F0 em
        obtain ⟨a, dx, fs, rfl, ea, mr⟩ := ok.r p q1 ec em
        split at g
        · rename_i x ρ' eg
          obtain ⟨r', ρ2, e1, eg⟩ := gCallQ_inv eg
          cases e1
          refine .inr ⟨a, _, rfl, mr, quiet_run p (.cons q1 .nil no) eg fun v F' H' p' rv => ?_⟩
          have rv : Rep X.K C F' v (.str x) := rv
          rw [rv.str_inv]
          exact ⟨x, rfl, g _ F' H' p' (.str x)⟩
        · exact False.elim g
      · exact False.elim g
    · exact .inl (o0 B W z ρ σ F H _ _ Q p q g)
  · exact False.elim g
end
end Pl
set_option Elab.async false
set_option linter.all false
set_option maxRecDepth 100000
set_option maxHeartbeats 4000000
/-! Errors raised; suites that catch them. -/
namespace Pl
open PySem PySem.Spec PyProof.Rows L2 Tk
/-- the own error x: its __init__ keeps its one argument as f -/
structure RaiseOk (P : Program) (w : World) (K : PySem.W.Frag) (mg : Str → Option Value) (base : Heap) (C : Cl) (k : Nat) (x : Str) (c : Nat) (f : Str) : Prop where
  ex : ∃ fI fd nm, OexC K (C.adr c) ∧ OxC K (C.adr c) ∧ PySem.W.findIn K (.ref (C.adr c)) "__init__" = some (some (.ref fI)) ∧ PySem.W.typeIn K (.ref fI) = some (.type "function") ∧ FnOk P w K mg base CX0 k fI fd ["self", nm] (spInit K f) ∧ Binds K fd ["self", nm] [] ∧ mg x = some (.ref (C.adr c)) ∧ PySem.W.findIn K (.ref (C.adr c)) f = some none
def sRaise1 (c : Nat) (f : Str) (fe : DE) : DS := bindS (froze fe) fun r ρ => match r with
  | .dat d => some (.exc c [(f, d)] ρ)
  | _ => none
section
variable {X : Cx} {C : Cl} {B : Bw} {W : WX} {k : Nat} {c : Nat} {e : Expr} {fe : DE} {x f : Str} {p pos pos' : Pos}
theorem pds_raise1 (ok : RaiseOk X.prog X.w X.K X.mg X.base C k x c f) (hc : X.calm = true) (hr : Room (k + 1) X.A) (tk : Takes X W) (hg : Gl X x) (he : PD X C B W e fe)
    (hdb : (x == ("__debug__" : Str)) = false := by decide) (hs : starEach [e] X.env = (false, eval e X.env) :: starEach [] X.env := by rfl) (hpl : (backTo pos (starEach [] X.env)).any (·.1) = false := by rfl) :
    PDS X C B W (.Raise (some (.Call (.Name x p) [e] [] pos)) none pos') (sRaise1 c f fe) := by
  obtain ⟨fI, fd, nm, oe, ox, iI, tI, F, b, mx, no⟩ := ok.ex
  refine PS.conv (ps_raise (W := W) hc tk (pmk_oex oe iI tI F hr b .nil (fun _ _ _ _ _ _ _ h => h.elim) hg mx (pa_cons (pd_frz he) pa_nil hs) hdb hs hpl)) fun E σ H ⟨ρ, F0, st, g⟩ => tS_bind (k1 := kR X.K C) (Post.start st) g fun r1 ρ1 v F1 H1 g1 p1 q1 => ?_
  try dsimp only at g1
  split at g1
  · rename_i d
    have q1 : Rep X.K C F1 v d := q1
    refine ⟨(by show 1 ≤ 1000; decide), fun a na => ⟨a, C.adr c, v, rfl, ox, no, upd_same, fun dd nd ne => ⟨rfl, dd, [(f, v)], upd_same, ?_, ?_, ?_⟩⟩⟩
    · rw [upd_ne ne, upd_same]
    · rw [upd_ne ne] at nd
      exact nd
    · rw [upd_ne ne] at nd
      have eh : upd (del (upd (upd (upd H1 a (exo a (C.adr c) none)) dd (exd dd [(f, v)])) a (exo a (C.adr c) (some dd))) a) dd (.xd [(f, v)]) = upd H1 dd (.xd [(f, v)]) := by
        funext b
        by_cases h1 : b = dd
        · subst h1; rw [upd_same, upd_same]
        · rw [upd_ne h1, upd_ne h1]
          by_cases h2 : b = a
          · subst h2
            rw [na]
            unfold del
            exact if_pos rfl
          · rw [del_ne h2, upd_ne h2, upd_ne h1, upd_ne h2]
      rw [eh]
      have p2 := p1.newO nd (.xd [(f, v)])
      exact g1 (some dd) σ F1 _ p2 ⟨p1.st.sub.free nd, [(f, v)], upd_same, rfl, .cons q1 .nil⟩
  · exact False.elim g1
end

/-! ### isinstance with own classes -/
structure IsiOk (K : PySem.W.Frag) (C : Cl) (cs : List Nat) : Prop where
  ck : ∀ c, c ∈ cs → ClsK K C c
  kk : ∀ c, c ∈ cs → ∀ c', c' ∈ cs → PySem.W.kitOne K (.ref (C.adr c)) (.ref (C.adr c')) = some (decide (c = c'))
  kt : ∀ n, n ∈ ["NoneType", "bool", "int", "str", "list", "tuple"] → ∀ c', c' ∈ cs → PySem.W.kitOne K (.type n) (.ref (C.adr c')) = some false
  ko : ∀ c, c ∈ cs → ∀ m, m ∈ ["int", "bool", "str", "tuple", "list"] → PySem.W.kitOne K (.ref (C.adr c)) (.type m) = some false
def hIsiX (cs : List Nat) (a b : D) : Option D := match a, b with
  | .obj c _, .cls c' => if cs.contains c && cs.contains c' then some (.bl (decide (c = c'))) else none
  | .obj c _, .ty m => if cs.contains c && plainTy m then some (.bl false) else none
  | a, .cls c' => if cs.contains c' then (kindD a).map fun _ => .bl false else none
  | a, b => hIsi a b
section
variable {K : PySem.W.Frag} {C : Cl} {cs : List Nat}
theorem kind_mem {a : D} {n : String} (e : kindD a = some n) : n ∈ ["NoneType", "bool", "int", "str", "list", "tuple"] := by
  cases a <;> simp [kindD] at e <;> subst e <;> simp
theorem o_isiX (ok : IsiOk K C cs) : OpL K C (rIsi K) (on2 (hIsiX cs)) := by
  intro B W z ρ σ F H vs rs Q p q g
  unfold on2 at g
  split at g
  · rename_i r1 r2
    cases q with
    | cons q1 qt n1 =>
    cases qt with
    | cons q2 qt n2 =>
    cases qt
    split at g
    · rename_i a b e1 e2
      split at g
      · rename_i d ed
        unfold hIsiX at ed
        have r2 := q2.parts p.st e2
        split at ed
        · rename_i c l c'
          split at ed
          · rename_i hc
            simp only [Bool.and_eq_true, List.contains_iff_mem] at hc
            cases ed
            have r1 := q1.keep p.st e1 fun _ z => by cases z
            cases r1 with
            | obj e n r =>
              cases (show Rep K C F _ (.cls c') from r2)
              exact ⟨_, _, _, _, _, rfl, .own _, (ok.ck c hc.1).ty (p.st.sub _ _ e), ok.kk c hc.1 c' hc.2, g _ F H p (.bl _)⟩
          · cases ed
        · rename_i c l m
          split at ed
          · rename_i hc
            simp only [Bool.and_eq_true, List.contains_iff_mem] at hc
            cases ed
            have r1 := q1.keep p.st e1 fun _ z => by cases z
            cases r1 with
            | obj e n r =>
              cases (show Rep K C F _ (.ty m) from r2)
              refine ⟨_, _, _, _, _, rfl, .ty m, (ok.ck c hc.1).ty (p.st.sub _ _ e), ok.ko c hc.1 m ?_, g _ F H p (.bl _)⟩
              rcases plain_or hc.2 with h | h | h | h | h <;> simp [h]
          · cases ed
        · rename_i c' _
          split at ed
          · rename_i hc
            simp only [List.contains_iff_mem] at hc
            obtain ⟨n, hk, rfl⟩ := Option.map_eq_some_iff.mp ed
            cases (show Rep K C F _ (.cls c') from r2)
            exact ⟨_, _, _, _, _, rfl, .own _, (q1.parts p.st e1).kind hk, ok.kt n (kind_mem hk) c' hc, g _ F H p (.bl _)⟩
          · cases ed
        · exact o_isi B W z ρ σ F H _ _ Q p (.cons q1 (.cons q2 .nil n2) n1) (by unfold on2; simp only [e1, e2, ed]; exact g)
      · exact False.elim g
    · exact False.elim g
  · exact False.elim g
end
/-! ### all, any -/
def D.bools : D → Option (List Bool)
  | .lst l => go l
  | .wri l => go l
  | _ => none
where go : List D → Option (List Bool)
  | [] => some []
  | .bl b :: r => (go r).map (b :: ·)
  | _ :: _ => none
theorem bools_go {K : PySem.W.Frag} {C : Cl} {F : Hp} : ∀ {vs : List V} {l : List D} {bs : List Bool}, Reps K C F vs l → D.bools.go l = some bs → vs = bs.map V.bl
  | _, _, _, .nil, e => by cases e; rfl
  | _, _, _, .cons (d := d) x r, e => by
    cases d with
    | bl b =>
      unfold D.bools.go at e
      cases h : D.bools.go _ with
      | none => rw [h] at e; cases e
      | some bs' =>
        rw [h] at e
        cases e
        cases x
        rw [bools_go r h]
        rfl
    | _ => cases e
theorem RepP.bools {K : PySem.W.Frag} {C : Cl} {F H : Hp} {v : V} {d : D} {bs : List Bool} (r : RepP K C F H v d) (e : d.bools = some bs) : ∃ a, v = .ref a ∧ SqL K H a (bs.map V.bl) := by
  cases d with
  | lst l => obtain ⟨a, vs, rfl, q, z⟩ := r; rw [bools_go z e] at q; exact ⟨a, rfl, SqL.of q⟩
  | wri l => obtain ⟨a, vs, rfl, q, z⟩ := r; rw [bools_go z e] at q; exact ⟨a, rfl, q⟩
  | _ => cases e
def hAll (d : D) : Option D := d.bools.map fun bs => .bl (bs.all id)
def hAny (d : D) : Option D := d.bools.map fun bs => .bl (bs.any id)
section
variable {K : PySem.W.Frag} {C : Cl}
theorem o_all : OpL K C (rAll K) (on1 hAll) := on1_op (by
  intro F H x a d Q r e q
  unfold hAll at e
  cases h : a.bools with
  | none => rw [h] at e; cases e
  | some bs =>
    rw [h] at e
    cases e
    obtain ⟨p, rfl, s⟩ := r.bools h
    exact ⟨p, bs, rfl, s, q _ fun F => .bl _⟩)
theorem o_any : OpL K C (rAny K) (on1 hAny) := on1_op (by
  intro F H x a d Q r e q
  unfold hAny at e
  cases h : a.bools with
  | none => rw [h] at e; cases e
  | some bs =>
    rw [h] at e
    cases e
    obtain ⟨p, rfl, s⟩ := r.bools h
    exact ⟨p, bs, rfl, s, q _ fun F => .bl _⟩)
end
/-! ### methods of texts -/
/-- the texts of a list or a tuple -/
def D.strs : D → Option (List Str)
  | .lst l => go l
  | .wri l => go l
  | .tup l => go l
  | _ => none
where go : List D → Option (List Str)
  | [] => some []
  | .str b :: r => (go r).map (b :: ·)
  | _ :: _ => none
theorem strs_go {K : PySem.W.Frag} {C : Cl} {F : Hp} : ∀ {vs : List V} {l : List D} {bs : List Str}, Reps K C F vs l → D.strs.go l = some bs → vs = bs.map V.str
  | _, _, _, .nil, e => by cases e; rfl
  | _, _, _, .cons (d := d) x r, e => by
    cases d with
    | str b =>
      unfold D.strs.go at e
      cases h : D.strs.go _ with
      | none => rw [h] at e; cases e
      | some bs' =>
        rw [h] at e
        cases e
        cases x
        rw [strs_go r h]
        rfl
    | _ => cases e
theorem RepP.strs {K : PySem.W.Frag} {C : Cl} {F H : Hp} {v : V} {d : D} {bs : List Str} (r : RepP K C F H v d) (e : d.strs = some bs) : ∃ a, v = .ref a ∧ (SqL K H a (bs.map V.str) ∨ SqT K H a (bs.map V.str)) := by
  cases d with
  | lst l => obtain ⟨a, vs, rfl, q, z⟩ := r; rw [strs_go z e] at q; exact ⟨a, rfl, .inl (SqL.of q)⟩
  | wri l => obtain ⟨a, vs, rfl, q, z⟩ := r; rw [strs_go z e] at q; exact ⟨a, rfl, .inl q⟩
  | tup l => obtain ⟨a, vs, rfl, q, z⟩ := r; rw [strs_go z e] at q; exact ⟨a, rfl, .inr q⟩
  | _ => cases e
/-- a text's method with one argument -/
def dTx1 (h : Str → D → Option RV) (fo fe : DE) : DE := bindE fo fun r ρ1 => match r.see ρ1 with
  | some (.str a) => bindE fe (fun r2 ρ => match r2.see ρ with
    | some d => match h a d with
      | some x => some (.ok x ρ)
      | none => none
    | none => none) ρ1
  | _ => none
def dTx0 (h : Str → Option RV) (fo : DE) : DE := bindE fo fun r ρ => match r.see ρ with
  | some (.str a) => match h a with
    | some x => some (.ok x ρ)
    | none => none
  | _ => none
/-- what a text's method makes -/
def Tx1 (K : PySem.W.Frag) (C : Cl) (r : V → List V → Hp → VK → Prop) (h : Str → D → Option RV) : Prop := ∀ (B : Bw) (W : WX) (z : At0) (ρ : Sl) (σ : L2.St) (F H : Hp) (a : Str) (y : V) (d : D) (x : RV) (Q : VK),
  Post K C B z ρ F σ H → RepP K C F H y d → h a d = some x → Goal K C B W z σ Q (some (.ok x ρ)) → r (.str a) [y] H Q
def Tx0 (K : PySem.W.Frag) (C : Cl) (r : V → List V → Hp → VK → Prop) (h : Str → Option RV) : Prop := ∀ (B : Bw) (W : WX) (z : At0) (ρ : Sl) (σ : L2.St) (F H : Hp) (a : Str) (x : RV) (Q : VK),
  Post K C B z ρ F σ H → h a = some x → Goal K C B W z σ Q (some (.ok x ρ)) → r (.str a) [] H Q
section
variable {X : Cx} {C : Cl} {B : Bw} {W : WX} {o e : Expr} {fo fe : DE} {apos pos : Pos} {name : Str} {id : String} {r : V → List V → Hp → VK → Prop}
theorem pd_tx1 {h : Str → D → Option RV} (sl : Slot "str" name id) (ty : typeOf (.builtin id) = pure (.type "method_descriptor")) (mr : MtR X id r) (ok : Tx1 X.K C r h) (ho : PD X C B W o fo) (he : PD X C B W e fe)
    (hs : starEach [e] X.env = [(false, eval e X.env)] := by rfl) (hb : attributeBase o name X.env (eval o X.env) = eval o X.env := by rfl) (hl : (apos.endLine == pos.line) = true := by rfl) : PD X C B W (.Call (.Attribute o name apos) [e] [] pos) (dTx1 h fo fe) :=
  PE.conv (pe_m1 sl ty mr ho he hs hb hl) fun σ H Q ⟨ρ, F, st, g⟩ => tG_bind (k1 := kR X.K C) (Post.start st) g fun r1 ρ1 v F1 H1 g1 p1 _ q1 => by
    try dsimp only at g1
    split at g1
    · rename_i a e1
      have := (RepRV.see q1 p1.st e1).str_inv
      subst this
      refine ⟨⟨a, rfl⟩, tG_bind (k1 := kR X.K C) p1 g1 fun r2 ρ2 w F2 H2 g2 p2 s2 q2 => ?_⟩
      try dsimp only at g2
      split at g2
      · rename_i d e2
        split at g2
        · rename_i x ex
          exact ok B W _ ρ2 σ F2 H2 a w d x Q p2 (RepRV.parts q2 p2.st e2) ex g2
        · exact False.elim g2
      · exact False.elim g2
    · exact False.elim g1
theorem pd_tx0 {h : Str → Option RV} (sl : Slot "str" name id) (ty : typeOf (.builtin id) = pure (.type "method_descriptor")) (mr : MtR X id r) (ok : Tx0 X.K C r h) (ho : PD X C B W o fo)
    (hb : attributeBase o name X.env (eval o X.env) = eval o X.env := by rfl) (hl : (apos.endLine == pos.line) = true := by rfl) : PD X C B W (.Call (.Attribute o name apos) [] [] pos) (dTx0 h fo) :=
  PE.conv (pe_m0 sl ty mr ho hb hl) fun σ H Q ⟨ρ, F, st, g⟩ => tG_bind (k1 := kR X.K C) (Post.start st) g fun r1 ρ1 v F1 H1 g1 p1 _ q1 => by
    try dsimp only at g1
    split at g1
    · rename_i a e1
      have := (RepRV.see q1 p1.st e1).str_inv
      subst this
      split at g1
      · rename_i x ex
        exact ⟨⟨a, rfl⟩, ok B W _ ρ1 σ F1 H1 a x Q p1 ex g1⟩
      · exact False.elim g1
    · exact False.elim g1
end
def hJoin (a : Str) (d : D) : Option RV := d.strs.bind fun ys => if (ys.map (·.length)).sum + ys.length * a.length ≤ 10000 then some (.dat (.str (Txt.join a ys))) else none
def hSplit (a : Str) (d : D) : Option RV := match d with
  | .str b => if b.length ≠ 0 ∧ a.length ≤ 10000 then some (.own (.lst ((Txt.split a b).map .str))) else none
  | _ => none
def hDigit (a : Str) : Option RV := some (.dat (.bl (Txt.isdigit a)))
section
variable {X : Cx} {K : PySem.W.Frag} {C : Cl}
theorem reps_strs {F : Hp} : ∀ ys : List Str, Reps K C F (ys.map V.str) (ys.map D.str)
  | [] => .nil
  | y :: r => .cons (.str y) (reps_strs r)
theorem line16 {n : Nat} (h : n ≤ 10000) : n ≤ 16777216 := Nat.le_trans h (by decide)
theorem o_join : Tx1 K C (fun x xs H Q => ∃ a p ys, x = V.str a ∧ xs = [V.ref p] ∧ (SqL K H p (List.map V.str ys) ∨ SqT K H p (List.map V.str ys)) ∧ (List.map (fun x => x.length) ys).sum + ys.length * a.length ≤ 16777216 ∧ Q (V.str (Txt.join a ys)) H) hJoin := by
  intro B W z ρ σ F H a y d x Q p r e g
  unfold hJoin at e
  cases h : d.strs with
  | none => rw [h] at e; cases e
  | some ys =>
    rw [h, Option.bind_some] at e
    split at e
    · rename_i c
      cases e
      obtain ⟨q, rfl, s⟩ := r.strs h
      exact ⟨a, q, ys, rfl, rfl, s, line16 c, g _ F H p (.str _)⟩
    · cases e
theorem o_split : Tx1 K C (fun x xs H Q => ∃ a b, x = V.str a ∧ xs = [V.str b] ∧ (b.length == 0) = false ∧ a.length + 2 ≤ sizeLine ∧ rNewStrs (Txt.split a b) H Q) hSplit := by
  intro B W z ρ σ F H a y d x Q p r e g
  unfold hSplit at e
  split at e
  · rename_i b
    split at e
    · rename_i c
      cases e
      refine ⟨a, b, rfl, by rw [r.str_inv], by simpa using c.1, Nat.le_trans (Nat.add_le_add_right c.2 2) (by decide), fun q n => ?_⟩
      exact Goal.newL g p n (reps_strs _)
    · cases e
  · cases e
theorem o_digit : Tx0 K C (fun x xs H Q => ∃ a, x = V.str a ∧ xs = [] ∧ True ∧ Q (V.bl (Txt.isdigit a)) H) hDigit := by
  intro B W z ρ σ F H a x Q p e g
  cases e
  exact ⟨a, rfl, rfl, trivial, g _ F H p (.bl _)⟩
end
end Pl
namespace Pl
open PySem PySem.Spec PyProof.Rows L2 Tk
/-- a method's def, at f, makes F -/
structure FOk (P : Program) (w : World) (K : PySem.W.Frag) (mg : Str → Option Value) (base : Heap) (C : Cl) (k : Nat) (f : Addr) (ps : List Str) (F : DE) : Prop where
  ex : ∃ fd, FnOk P w K mg base (L2.CX P w) k f fd ps (spF K C F) ∧ Binds K fd ps []
end Pl
namespace Pl
open PySem PySem.Spec PyProof.Rows L2 Tk
/-- an argument: a slot's thing is lent, a new thing becomes data -/
def dLend (f : DE) : DE := bindE f fun r ρ => match r with
  | .bor i => some (.ok (.shr i) ρ)
  | .own m => match m.fix with
    | some d => some (.ok (.dat d) ρ)
    | none => none
  | r => some (.ok r ρ)
section
variable {X : Cx} {C : Cl} {B : Bw} {W : WX} {o : Expr} {fo : DE} {pos : Pos} {x : Str}
theorem pd_lend (h : PD X C B W o fo) : PD X C B W o (dLend fo) := PE.conv h fun σ H Q ⟨ρ, F, st, g⟩ => tG_bind (k1 := kR X.K C) (Post.start st) g fun r1 ρ1 v F1 H1 g1 p1 _ q1 => by
  cases r1 with
  | bor i => exact g1 v F1 H1 p1 q1
  | shr i => exact g1 v F1 H1 p1 q1
  | dat d => exact g1 v F1 H1 p1 q1
  | own m =>
    try dsimp only at g1
    split at g1
    · rename_i d em
      have e : toDat (.own m) ρ1 = some (.ok d ρ1) := by unfold toDat; dsimp only; rw [em]
      obtain ⟨F', p', r', _⟩ := p1.toDat (show RepRV X.K C (here ρ F σ H) ρ1 F1 σ H1 v (.own m) from q1) e
      exact g1 v F' H1 p' r'
    · exact False.elim g1
/-- a constant of the module -/
theorem pd_gint {i : Int} (hg : Gl X x) (hm : ∃ t, X.mg x = some (.int i t)) (hd : (x == ("__debug__" : Str)) = false := by decide) : PD X C B W (.Name x pos) (retE (.dat (.int i))) := by
  obtain ⟨t, hm⟩ := hm
  exact pd_const (pe_glob (v := .int i) hg hm ⟨t, rfl⟩ hd) fun _ => .int i
theorem pd_gstr {z : Str} (hg : Gl X x) (hm : ∃ t, X.mg x = some (.str z t)) (hd : (x == ("__debug__" : Str)) = false := by decide) : PD X C B W (.Name x pos) (retE (.dat (.str z))) := by
  obtain ⟨t, hm⟩ := hm
  exact pd_const (pe_glob (v := .str z) hg hm ⟨t, rfl⟩ hd) fun _ => .str z
end
end Pl
set_option Elab.async false
set_option linter.all false
set_option maxRecDepth 100000
set_option maxHeartbeats 4000000
/-! How what is made is reckoned out. -/
namespace Pl
open PySem PySem.Spec PyProof.Rows L2 Tk
section
variable {α β : Type} {f fa fb fo fi : DE} {fl : Ef (List RV)} {ρ ρ' : Sl} {r r1 r2 : RV} {d d' : D} {a b i j : Int} {x y : Str} {l l' : List D}
@[simp] theorem ev_bind (f : Ef α) (k : α → Ef β) (ρ : Sl) : bindE f k ρ = (match f ρ with
  | some (.ok a ρ') => k a ρ'
  | some (.exc c fs ρ') => some (.exc c fs ρ')
  | none => none) := rfl
@[simp] theorem ev_bindS (f : Ef α) (k : α → DS) (ρ : Sl) : bindS f k ρ = (match f ρ with
  | some (.ok a ρ') => k a ρ'
  | some (.exc c fs ρ') => some (.exc c fs ρ')
  | none => none) := rfl
@[simp] theorem ev_ret (a : α) (ρ : Sl) : retE a ρ = some (.ok a ρ) := rfl
@[simp] theorem ev_var (i : Nat) (ρ : Sl) : dVar i ρ = (match ρ[i]? with
  | some (some (.dat d)) => some (.ok (.dat d) ρ)
  | some (some _) => some (.ok (.bor i) ρ)
  | _ => none) := rfl
@[simp] theorem ev_bin (g : RV → RV → DE) (fa fb : DE) (ρ : Sl) : dBin g fa fb ρ = bindE fa (fun r1 => bindE fb fun r2 => g r1 r2) ρ := rfl
@[simp] theorem ev_lift2 (h : D → D → Option D) (r1 r2 : RV) (ρ : Sl) : lift2 h r1 r2 ρ = (match r1.see ρ, r2.see ρ with
  | some a, some b => (match h a b with
    | some d => some (.ok (.dat d) ρ)
    | none => none)
  | _, _ => none) := rfl
@[simp] theorem ev_hI (f : Int → Int → Option D) (i j : Int) : hI f (.int i) (.int j) = f i j := rfl
@[simp] theorem see_dat (ρ : Sl) (d : D) : RV.see ρ (.dat d) = some d := rfl
@[simp] theorem see_own (ρ : Sl) (m : MO) : RV.see ρ (.own m) = m.see := rfl
@[simp] theorem see_bor (ρ : Sl) (i : Nat) : RV.see ρ (.bor i) = slotSee ρ[i]? := rfl
@[simp] theorem see_mo (l : List D) : MO.see (.lst l) = some (.lst l) := rfl
@[simp] theorem see_shr (ρ : Sl) (i : Nat) : RV.see ρ (.shr i) = slotSee ρ[i]? := rfl
@[simp] theorem see_slotL (m : MO) : slotSee (some (some (.lck m))) = m.see := rfl
@[simp] theorem see_slotO (m : MO) : slotSee (some (some (.own m))) = m.see := rfl
@[simp] theorem see_slotD (d : D) : slotSee (some (some (.dat d))) = some d := rfl
@[simp] theorem items_lst (l : List D) : D.items (.lst l) = some l := rfl
@[simp] theorem items_tup (l : List D) : D.items (.tup l) = some l := rfl
@[simp] theorem items_wri (l : List D) : D.items (.wri l) = some l := rfl
@[simp] theorem ev_items (ρ : Sl) (r : RV) : r.items ρ = (r.see ρ).bind D.items := rfl
@[simp] theorem ev_add (r1 r2 : RV) (ρ : Sl) : gAdd r1 r2 ρ = (match r1.see ρ, r2.see ρ with
  | some (.int a), some (.int b) => some (.ok (.dat (.int (a + b))) ρ)
  | some (.str a), some (.str b) => if a.length + b.length ≤ 10000 then some (.ok (.dat (.str (a ++ b))) ρ) else none
  | some (.lst a), some (.lst b) => if a.length + b.length ≤ 10000 then some (.ok (.own (.lst (a ++ b))) ρ) else none
  | some (.tup a), some (.tup b) => if a.length + b.length ≤ 10000 then some (.ok (.dat (.tup (a ++ b))) ρ) else none
  | _, _ => none) := rfl
@[simp] theorem ev_mul (r1 r2 : RV) (ρ : Sl) : gMul r1 r2 ρ = (match r1.see ρ, r2.see ρ with
  | some (.int a), some (.int b) => if cMul a b = true then some (.ok (.dat (.int (a * b))) ρ) else none
  | some (.lst a), some (.int b) => if decide (0 ≤ b) && decide (b ≤ 1000) && decide (a.length ≤ 10) then some (.ok (.own (.lst (List.replicate b.toNat a).flatten)) ρ) else none
  | some (.tup a), some (.int b) => if decide (0 < a.length) && decide (2 ≤ b) && decide (b ≤ 1000) && decide (a.length ≤ 10) then some (.ok (.dat (.tup (List.replicate b.toNat a).flatten)) ρ) else none
  | _, _ => none) := rfl
@[simp] theorem ev_ix (r1 r2 : RV) (ρ : Sl) : gIx r1 r2 ρ = (match r1.see ρ, r2.see ρ with
  | some d, some (.int i) => (match ixD d i with
    | some z => some (.ok (.dat z) ρ)
    | none => none)
  | _, _ => none) := rfl
@[simp] theorem ixD_lst (l : List D) (i : Int) : ixD (.lst l) i = atI l i := rfl
@[simp] theorem ixD_tup (l : List D) (i : Int) : ixD (.tup l) i = atI l i := rfl
@[simp] theorem ixD_wri (l : List D) (i : Int) : ixD (.wri l) i = atI l i := rfl
@[simp] theorem atI_0 {α : Type} (x : α) (l : List α) : atI (x :: l) 0 = some x := atI_nat (j := 0) rfl
@[simp] theorem atI_1 {α : Type} (x y : α) (l : List α) : atI (x :: y :: l) 1 = some y := atI_nat (j := 1) rfl
@[simp] theorem atI_2 {α : Type} (x y z : α) (l : List α) : atI (x :: y :: z :: l) 2 = some z := atI_nat (j := 2) rfl
theorem atI_of {α : Type} (l : List α) (i : Int) (h0 : 0 ≤ i) (h : i.toNat < l.length) : atI l i = some (l[i.toNat]'h) := by
  have := atI_nat (List.getElem?_eq_getElem h)
  rwa [Int.toNat_of_nonneg h0] at this
@[simp] theorem ixN_0 (n : Nat) : ixN (n + 1) 0 = some 0 := by simp [ixN]
@[simp] theorem ixN_1 (n : Nat) : ixN (n + 2) 1 = some 1 := by simp [ixN]; omega
@[simp] theorem ixN_2 (n : Nat) : ixN (n + 3) 2 = some 2 := by simp [ixN]; omega
@[simp] theorem ev_dCall (g : List RV → DE) (fl : Ef (List RV)) (ρ : Sl) : dCall g fl ρ = bindE fl g ρ := rfl
@[simp] theorem ev_on1 (h : D → Option D) (r : RV) (ρ : Sl) : on1 h [r] ρ = (match r.see ρ with
  | some a => (match h a with
    | some d => some (.ok (.dat d) ρ)
    | none => none)
  | none => none) := rfl
@[simp] theorem ev_on2 (h : D → D → Option D) (r r' : RV) (ρ : Sl) : on2 h [r, r'] ρ = (match r.see ρ, r'.see ρ with
  | some a, some b => (match h a b with
    | some d => some (.ok (.dat d) ρ)
    | none => none)
  | _, _ => none) := rfl
@[simp] theorem ev_dNil (ρ : Sl) : dNil ρ = some (.ok [] ρ) := rfl
@[simp] theorem ev_dCons (fa : DE) (fr : Ef (List RV)) (ρ : Sl) : dCons fa fr ρ = bindE fa (fun r => bindE fr fun rs => retE (r :: rs)) ρ := rfl
@[simp] theorem allDat_nil : allDat [] = some [] := rfl
@[simp] theorem allDat_cons (d : D) (rs : List RV) : allDat (.dat d :: rs) = (allDat rs).map fun ds => d :: ds := rfl
@[simp] theorem ev_dTup (fl : Ef (List RV)) (ρ : Sl) : dTup fl ρ = bindE fl (fun rs ρ => match allDat rs with
  | some ds => if ds.length ≤ 1000 then some (.ok (.dat (.tup ds)) ρ) else none
  | none => none) ρ := rfl
@[simp] theorem ev_dLst (fl : Ef (List RV)) (ρ : Sl) : dLst fl ρ = bindE fl (fun rs ρ => match allDat rs with
  | some ds => if ds.length ≤ 1000 then some (.ok (.own (.lst ds)) ρ) else none
  | none => none) ρ := rfl
@[simp] theorem ev_froze (f : DE) (ρ : Sl) : froze f ρ = bindE f (fun r ρ => match toDat r ρ with
  | some (.ok d ρ') => some (.ok (.dat d) ρ')
  | _ => none) ρ := rfl
@[simp] theorem toDat_dat (d : D) (ρ : Sl) : toDat (.dat d) ρ = some (.ok d ρ) := rfl
@[simp] theorem toDat_own (m : MO) (ρ : Sl) : toDat (.own m) ρ = (match m.fix with
    | some d => some (.ok d ρ)
    | none => none) := rfl
@[simp] theorem toDat_bor (i : Nat) (ρ : Sl) : toDat (.bor i) ρ = (match ρ[i]? with
    | some (some (.dat d)) => some (.ok d ρ)
    | some (some (.own m)) => (match m.fix with
      | some d => some (.ok d (ρ.set i (some (.dat d))))
      | none => none)
    | _ => none) := rfl
@[simp] theorem fix_lst (l : List D) : MO.fix (.lst l) = some (.lst l) := rfl
@[simp] theorem ev_asB (f : DE) (ρ : Sl) : asB f ρ = bindE f (fun r ρ => match r.see ρ with
  | some (.bl b) => some (.ok b ρ)
  | _ => none) ρ := rfl
@[simp] theorem ev_andT (fa fb : Ef Bool) (ρ : Sl) : dAndT fa fb ρ = bindE fa (fun c => if c = true then fb else retE false) ρ := rfl
@[simp] theorem ev_orT (fa fb : Ef Bool) (ρ : Sl) : dOrT fa fb ρ = bindE fa (fun c => if c = true then retE true else fb) ρ := rfl
@[simp] theorem ev_notT (fa : Ef Bool) (ρ : Sl) : dNotT fa ρ = bindE fa (fun c => retE (!c)) ρ := rfl
@[simp] theorem ev_andV (fa fb : DE) (ρ : Sl) : dAndV fa fb ρ = bindE (asB fa) (fun c => if c = true then fb else retE (.dat (.bl false))) ρ := rfl
@[simp] theorem ev_orV (fa fb : DE) (ρ : Sl) : dOrV fa fb ρ = bindE (asB fa) (fun c => if c = true then retE (.dat (.bl true)) else fb) ρ := rfl
@[simp] theorem ev_notV (fa : DE) (ρ : Sl) : dNotV fa ρ = bindE (asB fa) (fun c => retE (.dat (.bl (!c)))) ρ := rfl
@[simp] theorem ev_ifE (fc : Ef Bool) (fa fb : DE) (ρ : Sl) : dIfE fc fa fb ρ = bindE fc (fun c => if c = true then fa else fb) ρ := rfl
@[simp] theorem ev_un (h : D → Option D) (f : DE) (ρ : Sl) : dUn h f ρ = bindE f (fun r ρ => match r.see ρ with
  | some a => (match h a with
    | some d => some (.ok (.dat d) ρ)
    | none => none)
  | none => none) ρ := rfl
@[simp] theorem hNeg_int (i : Int) : hNeg (.int i) = some (.int (-i)) := rfl
@[simp] theorem ev_meth (T : String) (g : RV → List RV → DE) (fo : DE) (fl : Ef (List RV)) (ρ : Sl) : dMeth T g fo fl ρ = bindE fo (fun r ρ => match r.see ρ with
  | some d => if tyOk T d = true then bindE fl (fun rs => g r rs) ρ else none
  | none => none) ρ := rfl
@[simp] theorem tyOk_lst (l : List D) : tyOk "list" (.lst l) = true := rfl
@[simp] theorem tyOk_str (z : Str) : tyOk "str" (.str z) = true := rfl
@[simp] theorem ev_ownL (i : Nat) (ρ : Sl) : ownL (.bor i) ρ = (match ρ[i]? with
    | some (some (.own (.lst l))) => some (i, l)
    | _ => none) := rfl
@[simp] theorem ev_append (r : RV) (rs : List RV) (ρ : Sl) : gAppend r rs ρ = (match ownL r ρ, rs with
  | some (i, l), [.dat d] => if l.length < 10000 then some (.ok (.dat .non) (ρ.set i (some (.own (.lst (l ++ [d])))))) else none
  | _, _ => none) := rfl
@[simp] theorem ev_extend (r : RV) (rs : List RV) (ρ : Sl) : gExtend r rs ρ = (match ownL r ρ, rs with
  | some (i, l), [r'] => (match r'.see ρ with
    | some (.lst l') => if l.length + l'.length ≤ 10000 then some (.ok (.dat .non) (ρ.set i (some (.own (.lst (l ++ l')))))) else none
    | _ => none)
  | _, _ => none) := rfl
@[simp] theorem ev_listOf (r : RV) (ρ : Sl) : gListOf [r] ρ = (match r.items ρ with
    | some l => some (.ok (.own (.lst l)) ρ)
    | none => none) := rfl
@[simp] theorem ev_tupOf (r : RV) (ρ : Sl) : gTupOf [r] ρ = (match r.see ρ with
    | some (.lst l) => some (.ok (.dat (.tup l)) ρ)
    | some (.tup l) => some (.ok (.dat (.tup l)) ρ)
    | _ => none) := rfl
@[simp] theorem ev_seq (g1 g2 : DS) (ρ : Sl) : seqS g1 g2 ρ = (match g1 ρ with
  | some (.nx ρ') => g2 ρ'
  | o => o) := rfl
@[simp] theorem ev_nx (ρ : Sl) : nxS ρ = some (.nx ρ) := rfl
@[simp] theorem ev_sExpr (f : DE) (ρ : Sl) : sExpr f ρ = bindS f (fun _ => nxS) ρ := rfl
@[simp] theorem ev_sRet (f : DE) (ρ : Sl) : sRet f ρ = bindS f (fun r ρ => some (.rt r ρ)) ρ := rfl
@[simp] theorem ev_sIf (fc : Ef Bool) (g1 g2 : DS) (ρ : Sl) : sIf fc g1 g2 ρ = bindS fc (fun c => if c = true then g1 else g2) ρ := rfl
@[simp] theorem ev_sSet (i np : Nat) (f : DE) (ρ : Sl) : sSet i np f ρ = bindS f (fun r => putR i np r) ρ := rfl
@[simp] theorem putR_dat (i np : Nat) (d : D) (ρ : Sl) : putR i np (.dat d) ρ = some (.nx (ρ.set i (some (.dat d)))) := rfl
@[simp] theorem putR_own (i np : Nat) (m : MO) (ρ : Sl) : putR i np (.own m) ρ = if np ≤ i then some (.nx (ρ.set i (some (.own m)))) else none := rfl
@[simp] theorem putR_bor (i np j : Nat) (ρ : Sl) : putR i np (.bor j) ρ = (match toDat (.bor j) ρ with
    | some (.ok d ρ') => some (.nx (ρ'.set i (some (.dat d))))
    | _ => none) := rfl
@[simp] theorem noBor_dat (d : D) : noBor (.dat d) = true := rfl
@[simp] theorem noBor_own (m : MO) : noBor (.own m) = true := rfl
@[simp] theorem ev_par (i j np : Nat) (fl : Ef (List RV)) (ρ : Sl) : sPar2 i j np fl ρ = bindS fl (fun rs => match rs with
  | [r, r'] => if noBor r && noBor r' then seqS (putR i np r) (putR j np r') else fun _ => none
  | _ => fun _ => none) ρ := rfl
@[simp] theorem ev_asg (h : D → Sl → Option Sl) (f : DE) (ρ : Sl) : sAsg h f ρ = bindS (froze f) (fun r ρ => match r with
  | .dat d => (match h d ρ with
    | some ρ' => some (.nx ρ')
    | none => none)
  | _ => none) ρ := rfl
@[simp] theorem ev_tgN (i : Nat) (d : D) (ρ : Sl) : tgN i d ρ = some (ρ.set i (some (.dat d))) := rfl
@[simp] theorem ev_tgT (js : List Nat) (ds : List D) (ρ : Sl) : tgT js (.tup ds) ρ = setDs js ds ρ := rfl
@[simp] theorem setDs_nil (ρ : Sl) : setDs [] [] ρ = some ρ := rfl
@[simp] theorem setDs_cons (j : Nat) (js : List Nat) (d : D) (ds : List D) (ρ : Sl) : setDs (j :: js) (d :: ds) ρ = setDs js ds (ρ.set j (some (.dat d))) := rfl
@[simp] theorem ev_store (f fo fi : DE) (ρ : Sl) : sStore f fo fi ρ = bindS (froze f) (fun rv => bindS fo fun ro => bindS fi fun ri ρ => match rv, ownL ro ρ, ri.see ρ with
  | .dat d, some (i, l), some (.int k) => (match ixN l.length k with
    | some j => some (.nx (ρ.set i (some (.own (.lst (l.set j d))))))
    | none => none)
  | _, _, _ => none) ρ := rfl
@[simp] theorem ev_dItems (f : DE) (ρ : Sl) : dItems f ρ = bindE f (fun r ρ => match walked r ρ with
  | some w => some (.ok w ρ)
  | none => none) ρ := rfl
@[simp] theorem walked_dat (d : D) (ρ : Sl) : walked (.dat d) ρ = (walkedD d).map fun l => (l, []) := rfl
@[simp] theorem walked_own (l : List D) (ρ : Sl) : walked (.own (.lst l)) ρ = some (l, []) := rfl
@[simp] theorem walked_bor (i : Nat) (ρ : Sl) : walked (.bor i) ρ = (match ρ[i]? with
    | some (some (.dat d)) => (walkedD d).map fun l => (l, [])
    | some (some (.own (.lst l))) => some (l, [i])
    | some (some (.lck (.lst l))) => some (l, [])
    | _ => none) := rfl
@[simp] theorem walkedD_lst (l : List D) : walkedD (.lst l) = some l := rfl
@[simp] theorem walkedD_tup (l : List D) : walkedD (.tup l) = some l := rfl
@[simp] theorem ev_dEnum (f : DE) (ρ : Sl) : dEnum f ρ = bindE f (fun r ρ => match walked r ρ with
  | some w => some (.ok (enumL w.1, w.2) ρ)
  | none => none) ρ := rfl
@[simp] theorem ev_range1 (f : DE) (ρ : Sl) : dRange1 f ρ = bindE f (fun r ρ => match r.see ρ with
  | some (.int j) => if j.natAbs ≤ 100000 then some (.ok (rangeL 0 j.toNat, []) ρ) else none
  | _ => none) ρ := rfl
@[simp] theorem ev_range2 (f f' : DE) (ρ : Sl) : dRange2 f f' ρ = bindE f (fun r => bindE f' fun r' ρ => match r.see ρ, r'.see ρ with
  | some (.int i), some (.int j) => if i.natAbs ≤ 100000 ∧ j.natAbs ≤ 100000 then some (.ok (rangeL i (j - i).toNat, []) ρ) else none
  | _, _ => none) ρ := rfl
@[simp] theorem ev_for (fi : Ef Wk) (tg : D → Sl → Option Sl) (body : DS) (ρ : Sl) : sFor fi tg body ρ = bindS fi (fun w => lockedS w.2 (loopS tg body w.1)) ρ := rfl
@[simp] theorem lockedS_nil (g : DS) (ρ : Sl) : lockedS [] g ρ = g ρ := rfl
@[simp] theorem lockedS_cons (i : Nat) (is : List Nat) (g : DS) (ρ : Sl) : lockedS (i :: is) g ρ = if isOwnL i ρ = true then mapO (free1 i) (lockedS is g (lock1 i ρ)) else none := rfl
@[simp] theorem lockedE_nil (g : DE) (ρ : Sl) : lockedE [] g ρ = g ρ := rfl
@[simp] theorem lockedE_cons (i : Nat) (is : List Nat) (g : DE) (ρ : Sl) : lockedE (i :: is) g ρ = if isOwnL i ρ = true then mapR (free1 i) (lockedE is g (lock1 i ρ)) else none := rfl
@[simp] theorem ev_isOwnL (i : Nat) (ρ : Sl) : isOwnL i ρ = (match ρ[i]? with
  | some (some (.own (.lst _))) => true
  | _ => false) := rfl
@[simp] theorem ev_lock1 (i : Nat) (ρ : Sl) : lock1 i ρ = (match ρ[i]? with
  | some (some (.own (.lst l))) => ρ.set i (some (.lck (.lst l)))
  | _ => ρ) := rfl
@[simp] theorem ev_free1 (i : Nat) (ρ : Sl) : free1 i ρ = (match ρ[i]? with
  | some (some (.lck m)) => ρ.set i (some (.own m))
  | _ => ρ) := rfl
@[simp] theorem mapO_nx (f : Sl → Sl) (ρ : Sl) : mapO f (some (.nx ρ)) = some (.nx (f ρ)) := rfl
@[simp] theorem mapO_rt (f : Sl → Sl) (r : RV) (ρ : Sl) : mapO f (some (.rt r ρ)) = some (.rt r (f ρ)) := rfl
@[simp] theorem mapO_exc (f : Sl → Sl) (c : Nat) (fs : List (Str × D)) (ρ : Sl) : mapO f (some (.exc c fs ρ)) = some (.exc c fs (f ρ)) := rfl
@[simp] theorem mapR_ok (f : Sl → Sl) (r : RV) (ρ : Sl) : mapR f (some (.ok r ρ)) = some (.ok r (f ρ)) := rfl
@[simp] theorem mapR_exc (f : Sl → Sl) (c : Nat) (fs : List (Str × D)) (ρ : Sl) : mapR f (some (.exc c fs ρ) : Option (Res RV)) = some (.exc c fs (f ρ)) := rfl
@[simp] theorem ev_loopS_nil (tg : D → Sl → Option Sl) (body : DS) (ρ : Sl) : loopS tg body [] ρ = some (.nx ρ) := rfl
theorem ev_loopS_cons (tg : D → Sl → Option Sl) (body : DS) (d : D) (r : List D) (ρ : Sl) : loopS tg body (d :: r) ρ = (match tg d ρ with
    | none => none
    | some ρ1 => match body ρ1 with
      | some (.nx ρ2) => loopS tg body r ρ2
      | some (.ct ρ2) => loopS tg body r ρ2
      | some (.bk ρ2) => some (.nx ρ2)
      | o => o) := rfl
@[simp] theorem ev_while (μ : Sl → Nat) (test : Ef Bool) (body : DS) (ρ : Sl) : sWhile μ test body ρ = loopW test body (μ ρ) ρ := rfl
@[simp] theorem ev_lc (vs : List Nat) (fi : Ef Wk) (tg : D → Sl → Option Sl) (ft : Ef Bool) (fe : DE) (ρ : Sl) : dLc vs fi tg ft fe ρ = bindE fi (fun w => lockedE w.2 fun ρ => loopC vs tg ft (froze fe) w.1 [] (wipeR ρ vs)) ρ := rfl
@[simp] theorem wipeR_nil (ρ : Sl) : wipeR ρ [] = ρ := rfl
@[simp] theorem wipeR_cons (ρ : Sl) (v : Nat) (vs : List Nat) : wipeR ρ (v :: vs) = (wipeR ρ vs).set v none := rfl
@[simp] theorem ev_yes (ρ : Sl) : yesT ρ = some (.ok true ρ) := rfl
@[simp] theorem ev_loopC_nil (vs : List Nat) (tg : D → Sl → Option Sl) (ft : Ef Bool) (fe : DE) (acc : List D) (ρ : Sl) : loopC vs tg ft fe [] acc ρ = some (.ok (.own (.lst acc)) ρ) := rfl
theorem ev_loopC_cons (vs : List Nat) (tg : D → Sl → Option Sl) (ft : Ef Bool) (fe : DE) (d : D) (r acc : List D) (ρ : Sl) : loopC vs tg ft fe (d :: r) acc ρ = (match tg d ρ with
    | none => none
    | some ρ1 => match ft ρ1 with
      | some (.ok true ρ2) => (match fe ρ2 with
        | some (.ok (.dat e) ρ3) => if acc.length < 10000 then loopC vs tg ft fe r (acc ++ [e]) (wipeR ρ3 vs) else none
        | _ => none)
      | some (.ok false ρ2) => loopC vs tg ft fe r acc (wipeR ρ2 vs)
      | _ => none) := rfl
@[simp] theorem ev_callF (f : DE) (rs : List RV) (ρ : Sl) : gCallF f rs ρ = (match takeArgs rs ρ with
  | some (as, ρd) => (match f as with
    | some (.ok (.dat d) fin) => some (.ok (.dat d) (giveBack rs as fin ρd))
    | some (.ok (.own m) fin) => some (.ok (.own m) (giveBack rs as fin ρd))
    | some (.exc c fs fin) => some (.exc c fs (giveBack rs as fin ρd))
    | _ => none)
  | none => none) := rfl
@[simp] theorem takeArgs_nil (ρ : Sl) : takeArgs [] ρ = some ([], ρ) := rfl
@[simp] theorem takeArgs_dat (d : D) (rs : List RV) (ρ : Sl) : takeArgs (.dat d :: rs) ρ = (match takeArgs rs ρ with
    | some (as, ρ') => some (some (.dat d) :: as, ρ')
    | none => none) := rfl
@[simp] theorem takeArgs_bor (i : Nat) (rs : List RV) (ρ : Sl) : takeArgs (.bor i :: rs) ρ = (match ρ[i]? with
    | some (some (.dat d)) => (match takeArgs rs ρ with
      | some (as, ρ') => some (some (.dat d) :: as, ρ')
      | none => none)
    | some (some (.own m)) => (match takeArgs rs (ρ.set i none) with
      | some (as, ρ') => some (some (.own m) :: as, ρ')
      | none => none)
    | some (some (.lck m)) => (match takeArgs rs ρ with
      | some (as, ρ') => (match lend ρ'[i]? with
        | some s => some (some s :: as, ρ')
        | none => none)
      | none => none)
    | _ => none) := rfl
@[simp] theorem takeArgs_shr (i : Nat) (rs : List RV) (ρ : Sl) : takeArgs (.shr i :: rs) ρ = (match takeArgs rs ρ with
    | some (as, ρ') => (match lend ρ'[i]? with
      | some s => some (some s :: as, ρ')
      | none => none)
    | none => none) := rfl
@[simp] theorem lend_dat (d : D) : lend (some (some (.dat d))) = some (.dat d) := rfl
@[simp] theorem lend_own (m : MO) : lend (some (some (.own m))) = some (.lck m) := rfl
@[simp] theorem lend_lck (m : MO) : lend (some (some (.lck m))) = some (.lck m) := rfl
@[simp] theorem giveBack_shr (i : Nat) (rs : List RV) (o f : Option SV) (as fin ρ : Sl) : giveBack (.shr i :: rs) (o :: as) (f :: fin) ρ = giveBack rs as fin ρ := rfl
@[simp] theorem giveBack_borD (i : Nat) (rs : List RV) (d : D) (f : Option SV) (as fin ρ : Sl) : giveBack (.bor i :: rs) (some (.dat d) :: as) (f :: fin) ρ = giveBack rs as fin ρ := rfl
@[simp] theorem giveBack_borL (i : Nat) (rs : List RV) (m : MO) (f : Option SV) (as fin ρ : Sl) : giveBack (.bor i :: rs) (some (.lck m) :: as) (f :: fin) ρ = giveBack rs as fin ρ := rfl
@[simp] theorem giveBack_nil (as fin ρ : Sl) : giveBack [] as fin ρ = ρ := by unfold giveBack; cases as <;> cases fin <;> rfl
@[simp] theorem giveBack_dat (d : D) (rs : List RV) (o f : Option SV) (as fin ρ : Sl) : giveBack (.dat d :: rs) (o :: as) (f :: fin) ρ = giveBack rs as fin ρ := rfl
@[simp] theorem giveBack_own (i : Nat) (rs : List RV) (m m' : MO) (as fin ρ : Sl) : giveBack (.bor i :: rs) (some (.own m) :: as) (some (.own m') :: fin) ρ = giveBack rs as fin (ρ.set i (some (.own m'))) := rfl
@[simp] theorem ev_def (N n : Nat) (g : DS) (as : Sl) : callF N n g as = if as.length = n then (match g (as ++ List.replicate (N - n) none) with
    | some (.nx ρ) => some (.ok (.dat .non) (finOf n ρ))
    | some (.rt (.dat d) ρ) => some (.ok (.dat d) (finOf n ρ))
    | some (.rt (.own m) ρ) => some (.ok (.own m) (finOf n ρ))
    | some (.rt (.bor i) ρ) => (match ρ[i]? with
      | some (some (.dat d)) => some (.ok (.dat d) (finOf n ρ))
      | some (some (.own m)) => if n ≤ i then some (.ok (.own m) (finOf n ρ)) else none
      | _ => none)
    | some (.exc c fs ρ) => some (.exc c fs (finOf n ρ))
    | _ => none)
  else none := rfl
def keepO : Option SV → Option SV
  | some (.own m) => some (.own m)
  | _ => none
@[simp] theorem keepO_own (m : MO) : keepO (some (.own m)) = some (.own m) := rfl
@[simp] theorem keepO_dat (d : D) : keepO (some (.dat d)) = none := rfl
@[simp] theorem keepO_lck (m : MO) : keepO (some (.lck m)) = none := rfl
@[simp] theorem keepO_none : keepO none = none := rfl
theorem keepO_eq (a : Option SV) : (match (some a : Option (Option SV)) with | some (some (.own m)) => some (.own m) | _ => none) = keepO a := by
  rcases a with _ | (_ | _ | _) <;> rfl
@[simp] theorem ev_finOf1 (a : Option SV) (ρ : Sl) : finOf 1 (a :: ρ) = [keepO a] := by rw [← keepO_eq]; rfl
@[simp] theorem ev_finOf2 (a b : Option SV) (ρ : Sl) : finOf 2 (a :: b :: ρ) = [keepO a, keepO b] := by rw [← keepO_eq, ← keepO_eq]; rfl
@[simp] theorem ev_finOf3 (a b c : Option SV) (ρ : Sl) : finOf 3 (a :: b :: c :: ρ) = [keepO a, keepO b, keepO c] := by rw [← keepO_eq, ← keepO_eq, ← keepO_eq]; rfl
@[simp] theorem ev_finOf4 (a b c d : Option SV) (ρ : Sl) : finOf 4 (a :: b :: c :: d :: ρ) = [keepO a, keepO b, keepO c, keepO d] := by rw [← keepO_eq, ← keepO_eq, ← keepO_eq, ← keepO_eq]; rfl
@[simp] theorem hLen_lst (l : List D) : hLen (.lst l) = some (.int l.length) := rfl
@[simp] theorem hLen_tup (l : List D) : hLen (.tup l) = some (.int l.length) := rfl
@[simp] theorem hLen_wri (l : List D) : hLen (.wri l) = some (.int l.length) := rfl
@[simp] theorem hAbs_int (i : Int) : hAbs (.int i) = some (.int (if i < 0 then -i else i)) := rfl
@[simp] theorem hInt_int (i : Int) : hInt (.int i) = some (.int i) := rfl
@[simp] theorem hInt_bl (b : Bool) : hInt (.bl b) = some (.int (if b then 1 else 0)) := rfl
@[simp] theorem hMax2_int (i j : Int) : hMax2 (.int i) (.int j) = some (.int (if j > i then j else i)) := rfl
@[simp] theorem hMin2_int (i j : Int) : hMin2 (.int i) (.int j) = some (.int (if j < i then j else i)) := rfl
@[simp] theorem hGcd_int (i j : Int) : hGcd (.int i) (.int j) = some (.int ((Nat.gcd i.natAbs j.natAbs : Nat) : Int)) := rfl
@[simp] theorem hLcm_int (i j : Int) : hLcm (.int i) (.int j) = if cLcm i j = true then some (.int ((Nat.lcm i.natAbs j.natAbs : Nat) : Int)) else none := rfl
@[simp] theorem hIsi_ty (a : D) (m : String) : hIsi a (.ty m) = if decide (m = "int") || decide (m = "bool") || decide (m = "str") || decide (m = "tuple") || decide (m = "list") then (kindD a).map fun n => .bl (isKind n m) else none := rfl
@[simp] theorem hIsN_non (a : D) : hIsN a .non = some (.bl (isNon a)) := rfl
@[simp] theorem hNotN_non (a : D) : hNotN a .non = some (.bl (!isNon a)) := rfl
@[simp] theorem hEq_ap (a b : D) : hEq a b = (dEq a b).map fun c => .bl c := rfl
@[simp] theorem hNe_ap (a b : D) : hNe a b = (dEq a b).map fun c => .bl !c := rfl
@[simp] theorem dEq_int (i j : Int) : dEq (.int i) (.int j) = some (decide (i = j)) := rfl
@[simp] theorem dEq_str (i j : Str) : dEq (.str i) (.str j) = some (decide (i = j)) := rfl
@[simp] theorem dEq_bl (i j : Bool) : dEq (.bl i) (.bl j) = some (decide (i = j)) := rfl
end
section
variable {ρ : Sl}
@[simp] theorem ev_shr_ (f : DE) (ρ : Sl) : dShr f ρ = bindE f (fun r ρ => match r with
  | .bor i => some (.ok (.shr i) ρ)
  | r => some (.ok r ρ)) ρ := rfl
@[simp] theorem ev_lend (f : DE) (ρ : Sl) : dLend f ρ = bindE f (fun r ρ => match r with
  | .bor i => some (.ok (.shr i) ρ)
  | .own m => (match m.fix with
    | some d => some (.ok (.dat d) ρ)
    | none => none)
  | r => some (.ok r ρ)) ρ := rfl
@[simp] theorem ev_isi2 (m m' : String) (f : DE) (ρ : Sl) : dIsi2 m m' f ρ = bindE f (fun r ρ => match r.see ρ with
  | some a => (match hIsi2 m m' a with
    | some d => some (.ok (.dat d) ρ)
    | none => none)
  | none => none) ρ := rfl
@[simp] theorem hIsi2_ap (m m' : String) (a : D) : hIsi2 m m' a = (kindD a).map fun n => .bl (isKind n m || isKind n m') := rfl
@[simp] theorem kindD_non : kindD .non = some "NoneType" := rfl
@[simp] theorem kindD_bl (b : Bool) : kindD (.bl b) = some "bool" := rfl
@[simp] theorem kindD_int (i : Int) : kindD (.int i) = some "int" := rfl
@[simp] theorem kindD_str (x : Str) : kindD (.str x) = some "str" := rfl
@[simp] theorem kindD_lst (l : List D) : kindD (.lst l) = some "list" := rfl
@[simp] theorem kindD_tup (l : List D) : kindD (.tup l) = some "tuple" := rfl
@[simp] theorem ev_fld (att : Nat → List Str) (f : Str) (fo : DE) (ρ : Sl) : dFld att f fo ρ = bindE fo (fun r ρ => match rvFld att f r ρ with
  | some d => some (.ok (.dat d) ρ)
  | none => none) ρ := rfl
@[simp] theorem rvFld_dat (att : Nat → List Str) (f : Str) (d : D) (ρ : Sl) : rvFld att f (.dat d) ρ = objFld att f d := rfl
@[simp] theorem rvFld_bor (att : Nat → List Str) (f : Str) (i : Nat) (ρ : Sl) : rvFld att f (.bor i) ρ = svFld att f ρ[i]? := rfl
@[simp] theorem svFld_dat (att : Nat → List Str) (f : Str) (d : D) : svFld att f (some (some (.dat d))) = objFld att f d := rfl
@[simp] theorem svFld_own (att : Nat → List Str) (f : Str) (m : MO) : svFld att f (some (some (.own m))) = insFld att f m := rfl
@[simp] theorem svFld_lck (att : Nat → List Str) (f : Str) (m : MO) : svFld att f (some (some (.lck m))) = insFld att f m := rfl
@[simp] theorem ev_fldSet (att : Nat → List Str) (f : Str) (fo fe : DE) (ρ : Sl) : sFldSet att f fo fe ρ = bindS (froze fe) (fun r => bindS fo fun r2 ρ => match r, r2 with
  | .dat d, .bor i => (match ρ[i]? with
    | some (some (.own (.ins c fs))) => if (att c).contains f && decide (fs.length < 1000) then some (.nx (ρ.set i (some (.own (.ins c (putD f d fs)))))) else none
    | _ => none)
  | _, _ => none) ρ := rfl
@[simp] theorem ev_mth (m : Str) (mt : Nat → Option DE) (fo : DE) (fl : Ef (List RV)) (ρ : Sl) : dMth m mt fo fl ρ = bindE fo (fun r ρ => match clsOf m r ρ with
  | some c => (match mt c with
    | some F => bindE fl (fun rs => gCallF F (r :: rs)) ρ
    | none => none)
  | none => none) ρ := rfl
@[simp] theorem clsOf_obj (m : Str) (c : Nat) (l : List D) (ρ : Sl) : clsOf m (.dat (.obj c l)) ρ = some c := rfl
@[simp] theorem clsOf_int (m : Str) (i : Int) (ρ : Sl) : clsOf m (.dat (.int i)) ρ = none := rfl
@[simp] theorem clsOf_str (m : Str) (i : Str) (ρ : Sl) : clsOf m (.dat (.str i)) ρ = none := rfl
@[simp] theorem clsOf_lst (m : Str) (i : List D) (ρ : Sl) : clsOf m (.dat (.lst i)) ρ = none := rfl
@[simp] theorem clsOf_tup (m : Str) (i : List D) (ρ : Sl) : clsOf m (.dat (.tup i)) ρ = none := rfl
@[simp] theorem clsOf_bl (m : Str) (i : Bool) (ρ : Sl) : clsOf m (.dat (.bl i)) ρ = none := rfl
@[simp] theorem clsOf_nn (m : Str) (ρ : Sl) : clsOf m (.dat .non) ρ = none := rfl
@[simp] theorem clsOf_own_ (m : Str) (x : MO) (ρ : Sl) : clsOf m (.own x) ρ = none := rfl
@[simp] theorem clsOf_bor (m : Str) (i : Nat) (ρ : Sl) : clsOf m (.bor i) ρ = (match ρ[i]? with
    | some (some (.dat (.obj c _))) => some c
    | some (some (.own (.ins c fs))) => if noName m fs = true then some c else none
    | some (some (.lck (.ins c fs))) => if noName m fs = true then some c else none
    | _ => none) := rfl
@[simp] theorem ev_prp (f : Str) (pt : Nat → Option DE) (fo : DE) (ρ : Sl) : dPrp f pt fo ρ = bindE fo (fun r ρ => match clsOf f r ρ with
  | some c => (match pt c with
    | some F => gCallF (quiet F) [r] ρ
    | none => none)
  | none => none) ρ := rfl
@[simp] theorem ev_quiet (F : DE) (ρ : Sl) : quiet F ρ = (match F ρ with
  | some (.ok r ρ') => some (.ok r ρ')
  | _ => none) := rfl
@[simp] theorem ev_callQ (F : DE) (rs : List RV) (ρ : Sl) : gCallQ F rs ρ = (match gCallF (quiet F) rs ρ with
  | some (.ok r ρ') => some (.ok r ρ')
  | _ => none) := rfl
@[simp] theorem ev_lenX (lt : Nat → Option DE) (r : RV) (ρ : Sl) : gLenX lt [r] ρ = (match clsOf "__len__" r ρ with
    | some c => (match lt c with
      | some F => (match gCallQ F [r] ρ with
        | some (.ok (.dat (.int n)) ρ') => if decide (0 ≤ n) && decide (n ≤ 100000) then some (.ok (.dat (.int n)) ρ') else none
        | _ => none)
      | none => none)
    | none => on1 hLen [r] ρ) := rfl
@[simp] theorem ev_binX (m : Str) (bt : Nat → Option DE) (g : RV → RV → DE) (r1 r2 : RV) (ρ : Sl) : gBinX m bt g r1 r2 ρ = (match clsOf m r1 ρ with
  | some c => (match bt c with
    | some F => if clsOf m r2 ρ = some c then (match gCallQ F [r1, r2] ρ with
        | some (.ok (.dat (.obj c' l)) ρ') => some (.ok (.dat (.obj c' l)) ρ')
        | _ => none)
      else none
    | none => none)
  | none => g r1 r2 ρ) := rfl
@[simp] theorem ev_eqX (et : Nat → Option DE) (g : RV → RV → DE) (r1 r2 : RV) (ρ : Sl) : gEqX et g r1 r2 ρ = (match clsOf "__eq__" r1 ρ with
  | some c => (match et c with
    | some F => if decide (clsOf "__eq__" r2 ρ = some c) || ((r2.see ρ).bind kindD).isSome then (match gCallQ F [r1, r2] ρ with
        | some (.ok (.dat (.bl b)) ρ') => some (.ok (.dat (.bl b)) ρ')
        | _ => none)
      else none
    | none => none)
  | none => g r1 r2 ρ) := rfl
@[simp] theorem ev_neX (et : Nat → Option DE) (g : RV → RV → DE) (r1 r2 : RV) (ρ : Sl) : gNeX et g r1 r2 ρ = (match clsOf "__eq__" r1 ρ with
  | some c => (match et c with
    | some F => if clsOf "__eq__" r2 ρ = some c then (match gCallQ F [r1, r2] ρ with
        | some (.ok (.dat (.bl b)) ρ') => some (.ok (.dat (.bl !b)) ρ')
        | _ => none)
      else none
    | none => none)
  | none => g r1 r2 ρ) := rfl
@[simp] theorem ev_strX (st : Nat → Option DE) (g : List RV → DE) (r : RV) (ρ : Sl) : gStrX st g [r] ρ = (match clsOf "__str__" r ρ with
    | some c => (match st c with
      | some F => (match gCallQ F [r] ρ with
        | some (.ok (.dat (.str x)) ρ') => some (.ok (.dat (.str x)) ρ')
        | _ => none)
      | none => none)
    | none => g [r] ρ) := rfl
@[simp] theorem ev_makeI (c : Nat) (F : DE) (dd : List D) (rs : List RV) (ρ : Sl) : gMakeI c F dd rs ρ = (match gCallF F (.bor ρ.length :: (rs ++ dd.map .dat)) (ρ ++ [some (.own (.ins c []))]) with
  | some (.ok (.dat .non) ρ1) => (match ρ1[ρ.length]? with
    | some (some (.own (.ins c' fs))) => if c' = c then some (.ok fs (ρ1.take ρ.length)) else none
    | _ => none)
  | some (.exc e fs ρ1) => some (.exc e fs (ρ1.take ρ.length))
  | _ => none) := rfl
@[simp] theorem ev_make (att : Nat → List Str) (c : Nat) (F : DE) (dd : List D) (rs : List RV) (ρ : Sl) : gMake att c F dd rs ρ = (match gMakeI c F dd rs ρ with
  | some (.ok fs ρ') => if fs.map (·.1) = att c then some (.ok (.dat (.obj c (fs.map (·.2)))) ρ') else none
  | some (.exc e fs ρ') => some (.exc e fs ρ')
  | none => none) := rfl
@[simp] theorem ev_raise1 (c : Nat) (f : Str) (fe : DE) (ρ : Sl) : sRaise1 c f fe ρ = bindS (froze fe) (fun r ρ => match r with
  | .dat d => some (.exc c [(f, d)] ρ)
  | _ => none) ρ := rfl
@[simp] theorem ev_tx1 (h : Str → D → Option RV) (fo fe : DE) (ρ : Sl) : dTx1 h fo fe ρ = bindE fo (fun r ρ1 => match r.see ρ1 with
  | some (.str a) => bindE fe (fun r2 ρ => match r2.see ρ with
    | some d => (match h a d with
      | some x => some (.ok x ρ)
      | none => none)
    | none => none) ρ1
  | _ => none) ρ := rfl
@[simp] theorem ev_tx0 (h : Str → Option RV) (fo : DE) (ρ : Sl) : dTx0 h fo ρ = bindE fo (fun r ρ => match r.see ρ with
  | some (.str a) => (match h a with
    | some x => some (.ok x ρ)
    | none => none)
  | _ => none) ρ := rfl
@[simp] theorem hAll_ap (d : D) : hAll d = d.bools.map fun bs => .bl (bs.all id) := rfl
@[simp] theorem hAny_ap (d : D) : hAny d = d.bools.map fun bs => .bl (bs.any id) := rfl
@[simp] theorem bools_lst (l : List D) : D.bools (.lst l) = D.bools.go l := rfl
theorem bools_map (l : List Bool) : D.bools.go (l.map D.bl) = some l := by
  induction l with
  | nil => rfl
  | cons b r ih => simp [D.bools.go, ih]
@[simp] theorem strs_lst (l : List D) : D.strs (.lst l) = D.strs.go l := rfl
@[simp] theorem strs_tup (l : List D) : D.strs (.tup l) = D.strs.go l := rfl
theorem strs_map (l : List Str) : D.strs.go (l.map D.str) = some l := by
  induction l with
  | nil => rfl
  | cons b r ih => simp [D.strs.go, ih]
@[simp] theorem ev_par3 (i j l np : Nat) (fl : Ef (List RV)) (ρ : Sl) : sPar3 i j l np fl ρ = bindS fl (fun rs => match rs with
  | [r, r', r''] => if noBor r && noBor r' && noBor r'' then seqS (putR i np r) (seqS (putR j np r') (putR l np r'')) else fun _ => none
  | _ => fun _ => none) ρ := rfl
end
/-! ### bounds -/
theorem small_log {n k : Nat} (h : n < 2 ^ k) (h0 : 0 < k) : n.log2 < k := by
  by_cases hn : n = 0
  · subst hn
    simpa using h0
  · exact (Nat.log2_lt hn).mpr h
theorem cDiv_ok {i j : Int} (h0 : 0 < j) (h : j < 2 ^ 200) : cDiv i j = true := by
  unfold cDiv
  have : j.natAbs < 2 ^ 200 := by
    have : ((j.natAbs : Nat) : Int) < ((2 ^ 200 : Nat) : Int) := by
      rw [Int.natAbs_of_nonneg (Int.le_of_lt h0)]
      simpa using h
    exact Int.ofNat_lt.mp this
  have := small_log this (by decide)
  simp [h0]
  omega
theorem cMul_left {i j : Int} (h : i.natAbs < 2 ^ 64) : cMul i j = true := by
  unfold cMul
  rw [decide_eq_true h]
  rfl
theorem cMul_right {i j : Int} (h : j.natAbs < 2 ^ 64) : cMul i j = true := by
  unfold cMul
  rw [decide_eq_true h]
  simp
theorem cLcm_ok {i j : Int} (h : i.natAbs < 2 ^ 64) (h' : j.natAbs < 2 ^ 64) : cLcm i j = true := by
  unfold cLcm
  rw [decide_eq_true h, decide_eq_true h']
  rfl
end Pl
namespace Pl
open PySem PySem.Spec PyProof.Rows L2 Tk

/-! ### loops -/
theorem loopS_inv {tg : D → Sl → Option Sl} {body : DS} (I : List D → Sl → Prop) (step : ∀ d r ρ, I (d :: r) ρ → ∃ ρ1 ρ2, tg d ρ = some ρ1 ∧ (body ρ1 = some (.nx ρ2) ∨ body ρ1 = some (.ct ρ2)) ∧ I r ρ2) :
    ∀ (ds : List D) (ρ : Sl), I ds ρ → ∃ ρ', I [] ρ' ∧ loopS tg body ds ρ = some (.nx ρ')
  | [], ρ, h => ⟨ρ, h, rfl⟩
  | d :: r, ρ, h => by
    obtain ⟨ρ1, ρ2, e1, e2, h2⟩ := step d r ρ h
    obtain ⟨ρ', h', e'⟩ := loopS_inv I step r ρ2 h2
    refine ⟨ρ', h', ?_⟩
    rw [ev_loopS_cons, e1]
    rcases e2 with e2 | e2
    · simp [e2, e']
    · simp [e2, e']
theorem loopC_inv {vs : List Nat} {tg : D → Sl → Option Sl} {ft : Ef Bool} {fe : DE} (I : List D → List D → Sl → Prop)
    (step : ∀ d r acc ρ, I (d :: r) acc ρ → ∃ ρ1 ρ2, tg d ρ = some ρ1 ∧ ((ft ρ1 = some (.ok true ρ2) ∧ ∃ e ρ3, fe ρ2 = some (.ok (.dat e) ρ3) ∧ acc.length < 10000 ∧ I r (acc ++ [e]) (wipeR ρ3 vs)) ∨ (ft ρ1 = some (.ok false ρ2) ∧ I r acc (wipeR ρ2 vs)))) :
    ∀ (ds acc : List D) (ρ : Sl), I ds acc ρ → ∃ acc' ρ', I [] acc' ρ' ∧ loopC vs tg ft fe ds acc ρ = some (.ok (.own (.lst acc')) ρ')
  | [], acc, ρ, h => ⟨acc, ρ, h, rfl⟩
  | d :: r, acc, ρ, h => by
    obtain ⟨ρ1, ρ2, e1, h2⟩ := step d r acc ρ h
    rcases h2 with ⟨e2, e, ρ3, e3, l, h3⟩ | ⟨e2, h3⟩
    · obtain ⟨acc', ρ', h', e'⟩ := loopC_inv I step r _ _ h3
      refine ⟨acc', ρ', h', ?_⟩
      rw [ev_loopC_cons, e1]
      simp only [e2, e3, if_pos l]
      exact e'
    · obtain ⟨acc', ρ', h', e'⟩ := loopC_inv I step r _ _ h3
      refine ⟨acc', ρ', h', ?_⟩
      rw [ev_loopC_cons, e1]
      simp only [e2]
      exact e'
/-- a comprehension that changes nothing -/
theorem loopC_map {i : Nat} {fe : DE} (h : D → D) {ρ : Sl} (hρ : ∀ x, (ρ.set i x).set i none = ρ) : ∀ (ds acc : List D), (∀ d ∈ ds, fe (ρ.set i (some (.dat d))) = some (.ok (.dat (h d)) (ρ.set i (some (.dat d))))) → acc.length + ds.length ≤ 10000 →
    loopC [i] (tgN i) yesT fe ds acc ρ = some (.ok (.own (.lst (acc ++ ds.map h))) ρ)
  | [], acc, _, _ => by simp
  | d :: r, acc, hd, l => by
    rw [ev_loopC_cons]
    simp only [ev_tgN, ev_yes]
    rw [hd d List.mem_cons_self]
    simp only [List.length_cons] at l
    have l' : acc.length < 10000 := by omega
    simp only [if_pos l', wipeR_cons, wipeR_nil]
    rw [hρ, loopC_map h hρ r (acc ++ [h d]) (fun x hx => hd x (List.mem_cons_of_mem _ hx)) (by rw [List.length_append, List.length_singleton]; omega)]
    simp
/-- .. with a test -/
theorem loopC_filter {i : Nat} {ft : Ef Bool} {fe : DE} (t : D → Bool) (h : D → D) {ρ : Sl} (hρ : ∀ x, (ρ.set i x).set i none = ρ) : ∀ (ds acc : List D), (∀ d ∈ ds, ft (ρ.set i (some (.dat d))) = some (.ok (t d) (ρ.set i (some (.dat d))))) → (∀ d ∈ ds, t d = true → fe (ρ.set i (some (.dat d))) = some (.ok (.dat (h d)) (ρ.set i (some (.dat d))))) → acc.length + ds.length ≤ 10000 →
    loopC [i] (tgN i) ft fe ds acc ρ = some (.ok (.own (.lst (acc ++ (ds.filter t).map h))) ρ)
  | [], acc, _, _, _ => by simp
  | d :: r, acc, ht, hd, l => by
    rw [ev_loopC_cons]
    simp only [ev_tgN]
    rw [ht d List.mem_cons_self]
    simp only [List.length_cons] at l
    have l' : acc.length < 10000 := by omega
    have ht' := fun x hx => ht x (List.mem_cons_of_mem d hx)
    have hd' := fun x hx => hd x (List.mem_cons_of_mem d hx)
    cases c : t d with
    | true =>
      simp only []
      rw [hd d List.mem_cons_self c]
      simp only [if_pos l', wipeR_cons, wipeR_nil]
      rw [hρ, loopC_filter t h hρ r (acc ++ [h d]) ht' hd' (by rw [List.length_append, List.length_singleton]; omega)]
      simp [c]
    | false =>
      simp only [wipeR_cons, wipeR_nil]
      rw [hρ, loopC_filter t h hρ r acc ht' hd' (by omega)]
      simp [c]
theorem rangeL_length (lo : Int) (n : Nat) : (rangeL lo n).length = n := by simp [rangeL]
theorem rangeL_at {lo : Int} {n i : Nat} (h : i < n) : (rangeL lo n)[i]? = some (.int (lo + i)) := by simp [rangeL, h]

/-! ### fractions in lowest terms -/
def red (r : Rat) : D := .tup [.int r.num, .int (r.den : Int)]
theorem gcd_pos_right {t : Int} {b : Int} (h : 0 < b) : 0 < Nat.gcd t.natAbs b.natAbs := Nat.gcd_pos_of_pos_right _ (by omega)
theorem num_div {t b : Int} (h : 0 < b) : (Rat.divInt t b).num = t / ((Nat.gcd t.natAbs b.natAbs : Nat) : Int) := by
  rw [Rat.num_divInt, Int.sign_eq_one_of_pos h, Int.one_mul]
  show t / ((Nat.gcd b.natAbs t.natAbs : Nat) : Int) = _
  rw [Nat.gcd_comm]
theorem den_div {t b : Int} (h : 0 < b) : (((Rat.divInt t b).den : Nat) : Int) = b / ((Nat.gcd t.natAbs b.natAbs : Nat) : Int) := by
  rw [Rat.den_divInt, if_neg (by omega)]
  show ((b.natAbs / Nat.gcd b.natAbs t.natAbs : Nat) : Int) = _
  rw [Nat.gcd_comm, Int.natCast_ediv, Int.natAbs_of_nonneg (by omega)]
theorem red_div {t b : Int} (h : 0 < b) : red (Rat.divInt t b) = .tup [.int (t / ((Nat.gcd t.natAbs b.natAbs : Nat) : Int)), .int (b / ((Nat.gcd t.natAbs b.natAbs : Nat) : Int))] := by
  unfold red
  rw [num_div h, den_div h]
theorem den_le {t b : Int} (h : 0 < b) : (((Rat.divInt t b).den : Nat) : Int) ≤ b := by
  rw [den_div h]
  exact Int.ediv_le_self _ (by omega)
theorem num_le {t b : Int} (h : 0 < b) : (Rat.divInt t b).num.natAbs ≤ t.natAbs := by
  rw [num_div h, Int.natAbs_ediv_of_dvd (Int.ofNat_dvd_left.mpr (Nat.gcd_dvd_left _ _))]
  exact Nat.div_le_self _ _
theorem den_pos (r : Rat) : (0 : Int) < (r.den : Int) := by
  have := r.den_pos
  omega
theorem red_inj {r s : Rat} (h : red r = red s) : r = s := by
  unfold red at h
  injection h with h
  injection h with h1 h2
  injection h2 with h2 _
  injection h1 with h1
  injection h2 with h2
  rw [← Rat.num_divInt_den r, ← Rat.num_divInt_den s, h1, h2]
theorem cDiv_gcd {t b x : Int} (h : 0 < b) (h9 : b < 2 ^ 200) : cDiv x ((Nat.gcd t.natAbs b.natAbs : Nat) : Int) = true := by
  refine cDiv_ok (by have := gcd_pos_right (t := t) h; omega) ?_
  have : Nat.gcd t.natAbs b.natAbs ≤ b.natAbs := Nat.gcd_le_right _ (by omega)
  omega
/-- the sum of two fractions, reckoned as the laws do -/
theorem add_red (x y : Rat) : Rat.divInt (x.num * (y.den : Int) + y.num * (x.den : Int)) ((x.den : Int) * (y.den : Int)) = x + y := by
  have hx := den_pos x
  have hy := den_pos y
  rw [← Rat.divInt_add_divInt _ _ (by omega) (by omega), Rat.num_divInt_den, Rat.num_divInt_den]
theorem neg_red (x : Rat) : Rat.divInt (0 - x.num) (x.den : Int) = -x := by
  rw [Int.zero_sub, ← Rat.neg_divInt, Rat.num_divInt_den]
theorem int_red (z : Int) : Rat.divInt z 1 = (z : Rat) := by
  have := Rat.num_divInt_den (z : Rat)
  simpa using this
end Pl
namespace Pl
open PySem PySem.Spec PyProof.Rows L2 Tk
theorem str_len (s : String) : (s : Str).length = s.length := by
  show (Str.ofString s).length = _
  rw [Str.ofString_eq_toList]
  simp [Str.length, String.length_toList]
theorem shown_nat {n k : Nat} (h : n < 10 ^ k) (h0 : 0 < k) : ((Nat.repr n : String) : Str).length ≤ k := by
  rw [str_len]
  exact (Nat.length_repr_le_iff h0).mpr h
theorem shown_int {i : Int} {k : Nat} (h : i.natAbs < 10 ^ k) (h0 : 0 < k) : ((toString i : String) : Str).length ≤ k + 1 := by
  rw [str_len]
  cases i with
  | ofNat n =>
    show (Nat.repr n).length ≤ _
    exact Nat.le_succ_of_le ((Nat.length_repr_le_iff h0).mpr h)
  | negSucc n =>
    show ("-" ++ Nat.repr (n + 1)).length ≤ _
    rw [String.length_append]
    have : (Nat.repr (n + 1)).length ≤ k := (Nat.length_repr_le_iff h0).mpr h
    have e : "-".length = 1 := rfl
    omega
theorem fine_whole {i : Int} {k : Nat} (h : i.natAbs < 10 ^ k) (h0 : 0 < k) (hk : k ≤ 480) : Fine (k + 1) 0 (.int i) := by
  refine ⟨?_, rfl, Nat.le_refl _, shown_int h h0, rfl⟩
  refine decide_eq_true ?_
  have h1 : i.natAbs < 2 ^ (k * 4) := by
    refine Nat.lt_of_lt_of_le h ?_
    rw [Nat.mul_comm, Nat.pow_mul]
    exact Nat.pow_le_pow_left (by decide) k
  have := small_log h1 (by omega)
  omega
/-- shown within 10000 signs -/
theorem hRepr_ok {d : D} {m k : Nat} (h : d.isPy = true) (f : Fine m k d.py) (hm : m ≤ 10000) (hk : k ≤ 60) : hRepr d = some (.str d.py.shown) := by
  unfold hRepr
  rw [if_pos]
  simp only [Bool.and_eq_true, decide_eq_true_eq, Bool.not_eq_true']
  exact ⟨⟨⟨⟨h, f.shows⟩, f.plain⟩, Nat.le_trans f.dep hk⟩, Nat.le_trans f.len hm⟩
theorem fine_red {r : Rat} {k : Nat} (h : r.num.natAbs < 10 ^ k) (h' : r.den < 10 ^ k) (h0 : 0 < k) (hk : k ≤ 480) : Fine ((k + 1 + 2) * 2 + 2) 1 (red r).py := by
  have f : ∀ d ∈ [PyData.int r.num, PyData.int (r.den : Int)], Fine (k + 1) 0 d := by
    intro d hd
    simp only [List.mem_cons, List.not_mem_nil, or_false] at hd
    rcases hd with rfl | rfl
    · exact fine_whole h h0 hk
    · exact fine_whole (by simpa using h') h0 hk
  exact Fine.tuple f

/-! ### == -/
mutual
/-- no bools within: == is what it seems -/
def D.pure : D → Bool
  | .int _ => true
  | .str _ => true
  | .non => true
  | .lst l => D.pures l
  | .tup l => D.pures l
  | _ => false
def D.pures : List D → Bool
  | [] => true
  | d :: r => d.pure && D.pures r
end
mutual
theorem eqv_pure : ∀ (a b : D), a.pure = true → b.pure = true → (PyData.eqv a.py b.py = true ↔ a = b)
  | .int i, b, _, hb => by cases b <;> simp [D.pure, D.py, PyData.eqv] at hb ⊢
  | .str x, b, _, hb => by cases b <;> simp [D.pure, D.py, PyData.eqv] at hb ⊢
  | .non, b, _, hb => by cases b <;> simp [D.pure, D.py, PyData.eqv] at hb ⊢
  | .lst l, b, ha, hb => by
    cases b with
    | lst l' => simp only [D.py, PyData.eqv, D.lst.injEq]; exact eqvs_pure l l' ha hb
    | _ => simp [D.pure, D.py, PyData.eqv] at hb ⊢
  | .tup l, b, ha, hb => by
    cases b with
    | tup l' => simp only [D.py, PyData.eqv, D.tup.injEq]; exact eqvs_pure l l' ha hb
    | _ => simp [D.pure, D.py, PyData.eqv] at hb ⊢
  | .bl _, _, ha, _ => by cases ha
  | .wri _, _, ha, _ => by cases ha
  | .obj _ _, _, ha, _ => by cases ha
  | .ty _, _, ha, _ => by cases ha
  | .cls _, _, ha, _ => by cases ha
theorem eqvs_pure : ∀ (a b : List D), D.pures a = true → D.pures b = true → (PyData.eqvAll (D.pys a) (D.pys b) = true ↔ a = b)
  | [], [], _, _ => by simp [D.pys, PyData.eqvAll]
  | [], _ :: _, _, _ => by simp [D.pys, PyData.eqvAll]
  | _ :: _, [], _, _ => by simp [D.pys, PyData.eqvAll]
  | x :: xs, y :: ys, ha, hb => by
    rw [D.pures, Bool.and_eq_true] at ha hb
    simp only [D.pys, PyData.eqvAll, Bool.and_eq_true, List.cons.injEq]
    rw [eqv_pure x y ha.1 hb.1, eqvs_pure xs ys ha.2 hb.2]
end
mutual
/-- how deep -/
def D.deep : D → Nat
  | .lst l => D.deeps l + 1
  | .tup l => D.deeps l + 1
  | _ => 0
def D.deeps : List D → Nat
  | [] => 0
  | d :: r => max d.deep (D.deeps r)
end
mutual
/-- data of whole numbers, None, lists and tuples alone (no texts) -/
def D.num : D → Bool
  | .int _ => true
  | .non => true
  | .bl _ => true
  | .lst l => D.nums_ l
  | .tup l => D.nums_ l
  | _ => false
def D.nums_ : List D → Bool
  | [] => true
  | d :: r => d.num && D.nums_ r
end
mutual
theorem num_plain : ∀ d : D, d.num = true → d.isPy = true ∧ d.py.canLay0 = true ∧ d.py.depth = d.deep
  | .int i, _ => ⟨rfl, rfl, rfl⟩
  | .bl i, _ => ⟨rfl, rfl, rfl⟩
  | .non, _ => ⟨rfl, rfl, rfl⟩
  | .lst l, h => by
    obtain ⟨a, b, c⟩ := nums_plain l h
    exact ⟨a, by simpa [D.py, PyData.canLay0] using b, by simp [D.py, PyData.depth, D.deep, c]⟩
  | .tup l, h => by
    obtain ⟨a, b, c⟩ := nums_plain l h
    exact ⟨a, by simpa [D.py, PyData.canLay0] using b, by simp [D.py, PyData.depth, D.deep, c]⟩
  | .str _, h => by cases h
  | .wri _, h => by cases h
  | .obj _ _, h => by cases h
  | .ty _, h => by cases h
  | .cls _, h => by cases h
theorem nums_plain : ∀ l : List D, D.nums_ l = true → D.arePy l = true ∧ PyData.canLayAll0 (D.pys l) = true ∧ PyData.depthAll (D.pys l) = D.deeps l
  | [], _ => ⟨rfl, rfl, rfl⟩
  | d :: r, h => by
    rw [D.nums_, Bool.and_eq_true] at h
    obtain ⟨a, b, c⟩ := num_plain d h.1
    obtain ⟨a', b', c'⟩ := nums_plain r h.2
    exact ⟨by simp [D.arePy, a, a'], by simp [D.pys, PyData.canLayAll0, b, b'], by simp [D.pys, PyData.depthAll, D.deeps, c, c']⟩
end
theorem plain_num {d : D} (h : d.num = true) (hd : d.deep ≤ 64) : d.plain = true := by
  obtain ⟨a, b, c⟩ := num_plain d h
  unfold D.plain SeqAt.shaped
  rw [a, b, c]
  simp [hd]
/-- lists or tuples of whole numbers, None and such: == -/
theorem dEq_num {a b : D} (ha : a.num = true) (hb : b.num = true) (pa : a.pure = true) (pb : b.pure = true) (da : a.deep ≤ 64) (db : b.deep ≤ 64) (n : sEq a b = none) {c : Bool} (h : c = true ↔ a = b) : dEq a b = some c := by
  unfold dEq
  rw [n, plain_num ha da, plain_num hb db]
  show some _ = some c
  congr 1
  rw [Bool.eq_iff_iff, eqv_pure a b pa pb, h]
theorem dEq_same {a : D} (ha : a.num = true) (pa : a.pure = true) (da : a.deep ≤ 64) (n : sEq a a = none) : dEq a a = some true := dEq_num ha ha pa pa da da n (by simp)
end Pl
set_option Elab.async false
set_option linter.all false
set_option maxRecDepth 100000
set_option maxHeartbeats 4000000
/-! zip of two sequences, each a list or a tuple. -/
namespace Pl
open PySem PySem.Spec PyProof.Rows L2 Tk
def SqOf (t : Bool) (h : Heap) (l : Addr) (xs : Array Value) : Prop := if t = true then h.IsTuple l xs else h.IsList l xs
def ItOf (t : Bool) (h : Heap) (it l : Addr) (i : Nat) : Prop := if t = true then h.IsTupleIter it l i else h.IsListIter it l i
theorem ItOf.ext {t : Bool} {h h' : Heap} {a b l : Addr} {i : Nat} (q : ItOf t h a l i) (e : Heap.ExtBut b h h') (n : a ≠ b) : ItOf t h' a l i := by
  cases t with
  | true => exact Heap.IsTupleIter.extBut (show h.IsTupleIter a l i from q) e n
  | false => exact Heap.IsListIter.extBut (show h.IsListIter a l i from q) e n
theorem SqOf.ext {t : Bool} {h h' : Heap} {a b : Addr} {xs : Array Value} (q : SqOf t h a xs) (e : Heap.ExtBut b h h') (n : a ≠ b) : SqOf t h' a xs := by
  cases t with
  | true => exact Heap.IsTuple.extBut (show h.IsTuple a xs from q) e n
  | false => exact Heap.IsList.extBut (show h.IsList a xs from q) e n
section
variable {prog : Program} {w : World} {A : Around} {E : Value → Shared → Prop} {s : Shared} {t t1 t2 : Bool}
theorem next_item {it l : Addr} {i : Nat} {items : Array Value} {x : Value} {Q : Value → Shared → Prop} (h1 : ItOf t s.heap it l i) (h2 : SqOf t s.heap l items) (hx : items[i]? = some x)
    (q : ∀ h' : Heap, ItOf t h' it l (i + 1) → Heap.SameBut it s.heap h' → Q x ⟨h', s.gens, s.drawn, s.toks, s.os⟩) : wpAny (model prog w) A (Builtin.SmallTypes.nextOf (Value.ref it)) Q E s := by
  cases t with
  | true => exact RZ.nextOf_tuple_item (show s.heap.IsTupleIter it l i from h1) (show s.heap.IsTuple l items from h2) hx q
  | false => exact wpAny_nextOf_list_item (show s.heap.IsListIter it l i from h1) (show s.heap.IsList l items from h2) hx q
theorem next_end {it l : Addr} {i : Nat} {items : Array Value} {Q : Value → Shared → Prop} (hA : A.handled = none) (h1 : ItOf t s.heap it l i) (h2 : SqOf t s.heap l items) (hx : items[i]? = none)
    (q : ∀ (h' : Heap) (e : Addr), Heap.ExtBut it s.heap h' → (∃ o, h'.get? e = some o ∧ o.cls = Value.type "StopIteration") → E (Value.ref e) ⟨h', s.gens, s.drawn, s.toks, s.os⟩) : wpAny (model prog w) A (Builtin.SmallTypes.nextOf (Value.ref it)) Q E s := by
  cases t with
  | true => exact RZ.nextOf_tuple_end hA (show s.heap.IsTupleIter it l i from h1) (show s.heap.IsTuple l items from h2) hx q
  | false => exact wpAny_nextOf_list_end hA (show s.heap.IsListIter it l i from h1) (show s.heap.IsList l items from h2) hx q
theorem zip_item {z TI TO i1 i2 l1 l2 : Addr} {k1 k2 : Nat} {xs ys : Array Value} {x y a b : Value} {Q : Value → Shared → Prop} (D : ZipApart z TI TO i1 i2 l1 l2) (hz : IsZip s.heap z TI TO Value.none) (hTI : IsPair s.heap TI (Value.ref i1) (Value.ref i2)) (hTO : IsPair s.heap TO a b)
    (h1 : ItOf t1 s.heap i1 l1 k1) (h2 : ItOf t2 s.heap i2 l2 k2) (hl1 : SqOf t1 s.heap l1 xs) (hl2 : SqOf t2 s.heap l2 ys) (hx : xs[k1]? = some x) (hy : ys[k2]? = some y)
    (hQ : ∀ h' : Heap, IsZip h' z TI TO (rawInt s.heap.objs.size) → IsPair h' TO x y → ItOf t1 h' i1 l1 (k1 + 1) → ItOf t2 h' i2 l2 (k2 + 1) → IsPair h' s.heap.objs.size x y → h'.objs.size = s.heap.objs.size + 1 →
      (∀ (c : Addr) (o : Obj), c ≠ z → c ≠ TO → c ≠ i1 → c ≠ i2 → s.heap.get? c = some o → h'.get? c = some o) → Q (Value.ref s.heap.objs.size) ⟨h', s.gens, s.drawn, s.toks, s.os⟩) :
    wpAny (model prog w) A (Builtin.«zip.__next__» { pos := [Value.ref z] }) (fun fin s' => ∃ v, fin = Fin.done (Flow.ret v) ∧ Q v s') E s := by
  unfold Builtin.«zip.__next__»
  refine wpAny_bind (wpAny_of_eq (a := (Value.ref z, [])) rfl ?_)
  refine wpAny_bind (wpAny_field hz rfl rfl ?_)
  refine wpAny_bind (wpAny_field hz rfl rfl ?_)
  refine wpAny_bind (wpAny_seqItems hTI rfl ?_)
  refine wpAny_bind (wpAny_bind (wpAny_field hz rfl rfl (wpAny_pure ?_)))
  simp only [↓reduceIte]
  refine wpAny_bind (wpAny_rule ?_)
  refine wpAny_bind (wpAny_field hz rfl rfl ?_)
  refine wpAny_bind (wpAny_setField_rec hz (by show 0 < 5; decide) fun h₁ hz₁ hs₁ => ?_)
  simp only [List.zipIdx_cons, List.zipIdx_nil, List.forIn_cons, List.forIn_nil]
  refine wpAny_bind ?_
  refine wpAny_bind ?_
  refine wpAny_bind (wpAny_onRaise (wpAny_bind (next_item (h1.ext hs₁.extBut D.i1z) (hl1.ext hs₁.extBut D.l1z) hx fun h₂ hi1 hs₂ => wpAny_pure ?_)))
  have hTO₂ : IsPair h₂ TO a b := (hs₂.2 TO D.TOi1).trans ((hs₁.2 TO D.TOz).trans hTO)
  dsimp only
  refine wpAny_bind (wpAny_seqItems hTO₂ rfl ?_)
  dsimp only
  refine wpAny_bind (wpAny_updateSeq_pair hTO₂ fun h₃ hTO₃ hs₃ => ?_)
  refine wpAny_bind (wpAny_letGo (wpAny_pure ?_))
  dsimp only
  refine wpAny_bind ?_
  refine wpAny_bind (wpAny_onRaise (wpAny_bind (next_item (((h2.ext hs₁.extBut D.i2z).ext hs₂.extBut D.i12.symm).ext hs₃.extBut D.TOi2.symm) (((hl2.ext hs₁.extBut D.l2z).ext hs₂.extBut D.l2i1).ext hs₃.extBut D.l2TO) hy fun h₄ hi2 hs₄ => wpAny_pure ?_)))
  have hTO₄ : IsPair h₄ TO x b := (hs₄.2 TO D.TOi2).trans hTO₃
  dsimp only
  refine wpAny_bind (wpAny_seqItems hTO₄ rfl ?_)
  dsimp only
  refine wpAny_bind (wpAny_updateSeq_pair hTO₄ fun h₅ hTO₅ hs₅ => ?_)
  refine wpAny_bind (wpAny_letGo (wpAny_pure ?_))
  dsimp only
  have hTO₅' : IsPair h₅ TO x y := hTO₅
  have hz₅ : IsZip h₅ z TI TO Value.ellipsis := (hs₅.2 z D.TOz.symm).trans ((hs₄.2 z D.i2z.symm).trans ((hs₃.2 z D.TOz.symm).trans ((hs₂.2 z D.i1z.symm).trans hz₁)))
  have sz : h₅.objs.size = s.heap.objs.size := hs₅.1.trans (hs₄.1.trans (hs₃.1.trans (hs₂.1.trans hs₁.1)))
  have keep5 : ∀ (c : Addr), c ≠ z → c ≠ TO → c ≠ i1 → c ≠ i2 → h₅.get? c = s.heap.get? c := fun c n1 n2 n3 n4 => (hs₅.2 c n2).trans ((hs₄.2 c n4).trans ((hs₃.2 c n2).trans ((hs₂.2 c n3).trans (hs₁.2 c n1))))
  have i1' : ItOf t1 h₅ i1 l1 (k1 + 1) := ((hi1.ext hs₃.extBut D.TOi1.symm).ext hs₄.extBut D.i12).ext hs₅.extBut D.TOi1.symm
  have i2' : ItOf t2 h₅ i2 l2 (k2 + 1) := hi2.ext hs₅.extBut D.TOi2.symm
  refine wpAny_pure ?_
  dsimp only
  refine wpAny_bind (wpAny_seqItems hTO₅' rfl ?_)
  dsimp only
  refine wpAny_bind (wpAny_newTuple ?_)
  have hz₆ : IsZip (h₅.push { cls := Value.type "tuple", data := Data.seq [x, y].toArray }) z TI TO Value.ellipsis := Heap.get?_push_of_some _ hz₅
  unfold Builtin.SmallTypes.ownedTupleHandOut
  dsimp only
  refine wpAny_bind (wpAny_bind (wpAny_setField_rec hz₆ (by show 0 < 5; decide) fun h₇ hz₇ hs₇ => ?_))
  refine wpAny_setField_rec hz₇ (by show 1 < 5; decide) fun h₈ hz₈ hs₈ => ?_
  refine wpAny_of_eq (a := Fin.done (Flow.ret (Value.ref h₅.objs.size))) rfl ⟨_, rfl, ?_⟩
  have sz6 : (h₅.push { cls := Value.type "tuple", data := Data.seq [x, y].toArray }).objs.size = s.heap.objs.size + 1 := by rw [Heap.size_push, sz]
  have sz8 : h₈.objs.size = s.heap.objs.size + 1 := hs₈.1.trans (hs₇.1.trans sz6)
  have nz : h₅.objs.size ≠ z := fun e => by
    have : h₅.get? h₅.objs.size = none := by unfold Heap.get?; simp
    rw [e, hz₅] at this
    cases this
  have nTO : h₅.objs.size ≠ TO := fun e => by
    have : h₅.get? h₅.objs.size = none := by unfold Heap.get?; simp
    rw [e, hTO₅'] at this
    cases this
  have up : ∀ c o, c ≠ z → h₅.get? c = some o → h₈.get? c = some o := fun c o n e => (hs₈.2 c n).trans ((hs₇.2 c n).trans (Heap.get?_push_of_some _ e))
  have new : IsPair h₈ h₅.objs.size x y := (hs₈.2 _ nz).trans ((hs₇.2 _ nz).trans (Heap.get?_push_size _ rfl))
  rw [sz] at new ⊢
  refine hQ h₈ ?_ (up TO _ D.TOz hTO₅') ?_ ?_ new sz8 fun c o n1 n2 n3 n4 e => up c o n1 ((keep5 c n1 n2 n3 n4).trans e)
  · rw [sz] at hz₈
    exact hz₈
  · exact i1'.ext (b := z) (fun c o n e => up c o n e) D.i1z
  · exact i2'.ext (b := z) (fun c o n e => up c o n e) D.i2z
theorem zip_end {z TI TO i1 i2 l1 l2 : Addr} {k1 k2 : Nat} {xs ys : Array Value} {a b : Value} {Q : PySem.Fin → Shared → Prop} (hA : A.handled = none) (D : ZipApart z TI TO i1 i2 l1 l2) (hz : IsZip s.heap z TI TO Value.none) (hTI : IsPair s.heap TI (Value.ref i1) (Value.ref i2)) (hTO : IsPair s.heap TO a b)
    (h1 : ItOf t1 s.heap i1 l1 k1) (h2 : ItOf t2 s.heap i2 l2 k2) (hl1 : SqOf t1 s.heap l1 xs) (hl2 : SqOf t2 s.heap l2 ys) (he : xs[k1]? = none ∨ ys[k2]? = none)
    (hE : ∀ (h' : Heap) (e : Addr), (∀ (c : Addr) (o : Obj), c ≠ z → c ≠ TO → c ≠ i1 → c ≠ i2 → s.heap.get? c = some o → h'.get? c = some o) → (∃ o, h'.get? e = some o ∧ o.cls = Value.type "StopIteration") → E (Value.ref e) ⟨h', s.gens, s.drawn, s.toks, s.os⟩) :
    wpAny (model prog w) A (Builtin.«zip.__next__» { pos := [Value.ref z] }) Q E s := by
  unfold Builtin.«zip.__next__»
  refine wpAny_bind (wpAny_of_eq (a := (Value.ref z, [])) rfl ?_)
  refine wpAny_bind (wpAny_field hz rfl rfl ?_)
  refine wpAny_bind (wpAny_field hz rfl rfl ?_)
  refine wpAny_bind (wpAny_seqItems hTI rfl ?_)
  refine wpAny_bind (wpAny_bind (wpAny_field hz rfl rfl (wpAny_pure ?_)))
  simp only [↓reduceIte]
  refine wpAny_bind (wpAny_rule ?_)
  refine wpAny_bind (wpAny_field hz rfl rfl ?_)
  refine wpAny_bind (wpAny_setField_rec hz (by show 0 < 5; decide) fun h₁ hz₁ hs₁ => ?_)
  simp only [List.zipIdx_cons, List.zipIdx_nil, List.forIn_cons, List.forIn_nil]
  refine wpAny_bind ?_
  refine wpAny_bind ?_
  have fin : ∀ (h' : Heap) (e it : Addr), it ≠ z → it = i1 ∨ it = i2 → (∀ c o, c ≠ z → c ≠ TO → c ≠ i1 → c ≠ i2 → s.heap.get? c = some o → h'.get? c = some o) → (∃ o, h'.get? e = some o ∧ o.cls = Value.type "StopIteration") → IsZip h' z TI TO Value.ellipsis →
      wpAny (model prog w) A (setField (Value.ref z) 0 Value.none) (fun _ s'' => E (Value.ref e) s'') E ⟨h', s.gens, s.drawn, s.toks, s.os⟩ := by
    intro h' e it n1 n2 k ⟨o, ho, hc⟩ hz'
    refine wpAny_setField_rec hz' (by show 0 < 5; decide) fun h₂ hz₂ hs₂ => ?_
    refine hE h₂ e (fun c o n1 n2 n3 n4 e => (hs₂.2 c n1).trans (k c o n1 n2 n3 n4 e)) ⟨o, (hs₂.2 e fun y => ?_).trans ho, hc⟩
    rw [y, hz'] at ho
    cases ho
    exact absurd hc (by intro y; injection y with y; exact absurd y (by decide))
  cases hx : xs[k1]? with
  | none =>
    refine wpAny_bind (wpAny_onRaise (wpAny_bind (next_end hA (h1.ext hs₁.extBut D.i1z) (hl1.ext hs₁.extBut D.l1z) hx fun h₂ e x₂ he => ?_)))
    exact fin h₂ e i1 D.i1z (.inl rfl) (fun c o n1 n2 n3 n4 q => x₂ c o n3 ((hs₁.2 c n1).trans q)) he (x₂ z _ D.i1z.symm hz₁)
  | some x =>
    have hy : ys[k2]? = none := he.resolve_left (by rw [hx]; exact fun y => by cases y)
    refine wpAny_bind (wpAny_onRaise (wpAny_bind (next_item (h1.ext hs₁.extBut D.i1z) (hl1.ext hs₁.extBut D.l1z) hx fun h₂ hi1 hs₂ => wpAny_pure ?_)))
    have hTO₂ : IsPair h₂ TO a b := (hs₂.2 TO D.TOi1).trans ((hs₁.2 TO D.TOz).trans hTO)
    dsimp only
    refine wpAny_bind (wpAny_seqItems hTO₂ rfl ?_)
    dsimp only
    refine wpAny_bind (wpAny_updateSeq_pair hTO₂ fun h₃ hTO₃ hs₃ => ?_)
    refine wpAny_bind (wpAny_letGo (wpAny_pure ?_))
    dsimp only
    refine wpAny_bind ?_
    refine wpAny_bind (wpAny_onRaise (wpAny_bind (next_end hA (((h2.ext hs₁.extBut D.i2z).ext hs₂.extBut D.i12.symm).ext hs₃.extBut D.TOi2.symm) (((hl2.ext hs₁.extBut D.l2z).ext hs₂.extBut D.l2i1).ext hs₃.extBut D.l2TO) hy fun h₄ e x₄ he => ?_)))
    refine fin h₄ e i2 D.i2z (.inr rfl) (fun c o n1 n2 n3 n4 q => x₄ c o n4 ((hs₃.2 c n2).trans ((hs₂.2 c n3).trans ((hs₁.2 c n1).trans q)))) he (x₄ z _ D.i2z.symm ?_)
    exact (hs₃.2 z D.TOz.symm).trans ((hs₂.2 z D.i1z.symm).trans hz₁)
theorem next_zip_item {z TI TO i1 i2 l1 l2 : Addr} {k1 k2 : Nat} {xs ys : Array Value} {x y a b : Value} {Q : Option Value → Shared → Prop} (D : ZipApart z TI TO i1 i2 l1 l2) (hz : IsZip s.heap z TI TO Value.none) (hTI : IsPair s.heap TI (Value.ref i1) (Value.ref i2)) (hTO : IsPair s.heap TO a b)
    (h1 : ItOf t1 s.heap i1 l1 k1) (h2 : ItOf t2 s.heap i2 l2 k2) (hl1 : SqOf t1 s.heap l1 xs) (hl2 : SqOf t2 s.heap l2 ys) (hx : xs[k1]? = some x) (hy : ys[k2]? = some y)
    (hQ : ∀ h' : Heap, IsZip h' z TI TO (rawInt s.heap.objs.size) → IsPair h' TO x y → ItOf t1 h' i1 l1 (k1 + 1) → ItOf t2 h' i2 l2 (k2 + 1) → IsPair h' s.heap.objs.size x y → h'.objs.size = s.heap.objs.size + 1 →
      (∀ (c : Addr) (o : Obj), c ≠ z → c ≠ TO → c ≠ i1 → c ≠ i2 → s.heap.get? c = some o → h'.get? c = some o) → Q (some (Value.ref s.heap.objs.size)) ⟨h', s.gens, s.drawn, s.toks, s.os⟩) :
    wpAny (model prog w) A (pyNext (Value.ref z)) Q E s := by
  have hT : s.TypeIs (Value.ref z) "zip" := ⟨_, hz, rfl⟩
  unfold pyNext
  exact wpAny_bind (wpAny_attempt (wpAny_callSpecial?_slot hT F.slot_zip_next (wpAny_call_entry F.slot_zip_next hT F.entry_zip_next
    (zip_item D hz hTI hTO h1 h2 hl1 hl2 hx hy fun h' a1 a2 a3 a4 a5 a6 a7 => wpAny_pure (hQ h' a1 a2 a3 a4 a5 a6 a7)) (F.args_zip_next_1 (Value.ref z)))))
theorem next_zip_end {z TI TO i1 i2 l1 l2 : Addr} {k1 k2 : Nat} {xs ys : Array Value} {a b : Value} {Q : Option Value → Shared → Prop} (hA : A.handled = none) (D : ZipApart z TI TO i1 i2 l1 l2) (hz : IsZip s.heap z TI TO Value.none) (hTI : IsPair s.heap TI (Value.ref i1) (Value.ref i2)) (hTO : IsPair s.heap TO a b)
    (h1 : ItOf t1 s.heap i1 l1 k1) (h2 : ItOf t2 s.heap i2 l2 k2) (hl1 : SqOf t1 s.heap l1 xs) (hl2 : SqOf t2 s.heap l2 ys) (he : xs[k1]? = none ∨ ys[k2]? = none)
    (hQ : ∀ h' : Heap, (∀ (c : Addr) (o : Obj), c ≠ z → c ≠ TO → c ≠ i1 → c ≠ i2 → s.heap.get? c = some o → h'.get? c = some o) → Q none ⟨h', s.gens, s.drawn, s.toks, s.os⟩) :
    wpAny (model prog w) A (pyNext (Value.ref z)) Q E s := by
  have hT : s.TypeIs (Value.ref z) "zip" := ⟨_, hz, rfl⟩
  unfold pyNext
  exact wpAny_bind (wpAny_attempt (wpAny_callSpecial?_slot hT F.slot_zip_next (wpAny_call_entry F.slot_zip_next hT F.entry_zip_next
    (zip_end hA D hz hTI hTO h1 h2 hl1 hl2 he fun h' e hk ⟨o, ho, hc⟩ => wpAny_bind (wpAny_isInstance ⟨o, ho, hc⟩ isSubtype_stop (wpAny_pure (hQ h' hk)))) (F.args_zip_next_1 (Value.ref z)))))
def itO (t : Bool) (l : Addr) : Obj := if t = true then { cls := Value.type "tuple_iterator", data := Data.fields #[Value.ref l, Value.int 0 0] } else { cls := Value.type "list_iterator", data := Data.fields #[Value.ref l, Value.int 0 0] }
theorem iter_of {l : Addr} {xs : Array Value} {Q : Value → Shared → Prop} (h : SqOf t s.heap l xs) (q : Q (Value.ref s.heap.objs.size) ⟨s.heap.push (itO t l), s.gens, s.drawn, s.toks, s.os⟩) : wpAny (model prog w) A (pyIter (Value.ref l)) Q E s := by
  cases t with
  | true => exact wpAny_pyIter_tuple (show s.heap.IsTuple l xs from h) q
  | false => exact wpAny_pyIter_list (show s.heap.IsList l xs from h) q
theorem SqOf.push {h : Heap} {l : Addr} {xs : Array Value} (q : SqOf t h l xs) (o : Obj) : SqOf t (h.push o) l xs := by
  cases t with
  | true => exact Heap.IsTuple.extBut (b := l + 1) (show h.IsTuple l xs from q) (fun b o' _ e => Heap.get?_push_of_some _ e) (Nat.ne_of_lt (Nat.lt_succ_self l))
  | false => exact Heap.IsList.extBut (b := l + 1) (show h.IsList l xs from q) (fun b o' _ e => Heap.get?_push_of_some _ e) (Nat.ne_of_lt (Nat.lt_succ_self l))
def zH1 (t1 : Bool) (h : Heap) (l1 : Addr) : Heap := h.push (itO t1 l1)
def zH2 (t1 t2 : Bool) (h : Heap) (l1 l2 : Addr) : Heap := (zH1 t1 h l1).push (itO t2 l2)
def zH3 (t1 t2 : Bool) (h : Heap) (l1 l2 : Addr) : Heap := (zH2 t1 t2 h l1 l2).push { cls := Value.type "tuple", data := Data.seq #[Value.ref h.objs.size, Value.ref (zH1 t1 h l1).objs.size] }
def zH4 (t1 t2 : Bool) (h : Heap) (l1 l2 : Addr) : Heap := (zH3 t1 t2 h l1 l2).push { cls := Value.type "tuple", data := Data.seq #[Value.none, Value.none] }
def zH5 (t1 t2 : Bool) (h : Heap) (l1 l2 : Addr) : Heap := (zH4 t1 t2 h l1 l2).push { cls := Value.type "zip", data := Data.fields #[Value.none, Value.bool false, Value.bool false, Value.ref (zH2 t1 t2 h l1 l2).objs.size, Value.ref (zH3 t1 t2 h l1 l2).objs.size] }
end
theorem meets_zip (t1 t2 : Bool) (l1 l2 : Addr) (xs ys : Array Value) : Meets (Builtin.«zip.__new__» { pos := [Value.type "zip", Value.ref l1, Value.ref l2] }) fun x R s => SqOf t1 s.heap l1 xs ∧ SqOf t2 s.heap l2 ys ∧
    R (Except.ok (Flow.ret (Value.ref (zH4 t1 t2 s.heap l1 l2).objs.size))) ⟨zH5 t1 t2 s.heap l1 l2, s.gens, s.drawn, s.toks, s.os⟩ := by
  refine Meets.of_wp fun prog w A R s h => ?_
  obtain ⟨hp, g, d, tk, os⟩ := s
  obtain ⟨h1, h2, q⟩ := h
  unfold Builtin.«zip.__new__» Builtin.SmallTypes.newClass
  refine wpAny_bind (wpAny_bind (wpAny_pure (wpAny_ite_false rfl (wpAny_bind (wpAny_of_eq sub_zip (wpAny_ite_false rfl (wpAny_pure (wpAny_ite_false rfl ?_))))))))
  refine wpAny_bind ?_
  unfold Builtin.SmallTypes.iterAll
  simp only [List.forIn_cons, List.forIn_nil]
  refine wpAny_bind (wpAny_bind ?_)
  refine wpAny_bind (wpAny_holding (iter_of h1 (wpAny_pure ?_)))
  refine wpAny_bind ?_
  refine wpAny_bind (wpAny_holding (iter_of (h2.push _) (wpAny_pure ?_)))
  refine wpAny_pure (wpAny_pure ?_)
  refine wpAny_bind (wpAny_newTuple ?_ (by show 2 ≤ sizeLine; decide))
  refine wpAny_bind (wpAny_newTuple ?_ (by show 2 ≤ sizeLine; decide))
  unfold Builtin.SmallTypes.newRecord newObj
  dsimp only
  refine wpAny_bind (wpAny_ite_false rfl (wpAny_bind (wpAny_alloc' (wpAny_pure ?_))))
  exact wpAny_pure ⟨_, rfl, q⟩
theorem call_zipX {prog : Program} {w : World} {A : Around} {E : Value → Shared → Prop} {s : Shared} (t1 t2 : Bool) {l1 l2 : Addr} {xs ys : Array Value} {Q : Value → Shared → Prop} (hl1 : SqOf t1 s.heap l1 xs) (hl2 : SqOf t2 s.heap l2 ys)
    (h : ∀ h' : Heap, IsZip h' (s.heap.objs.size + 4) (s.heap.objs.size + 2) (s.heap.objs.size + 3) Value.none → IsPair h' (s.heap.objs.size + 2) (Value.ref s.heap.objs.size) (Value.ref (s.heap.objs.size + 1)) → IsPair h' (s.heap.objs.size + 3) Value.none Value.none →
      ItOf t1 h' s.heap.objs.size l1 0 → ItOf t2 h' (s.heap.objs.size + 1) l2 0 → h'.objs.size = s.heap.objs.size + 5 → (∀ (c : Addr) (o : Obj), s.heap.get? c = some o → h'.get? c = some o) → Q (Value.ref (s.heap.objs.size + 4)) ⟨h', s.gens, s.drawn, s.toks, s.os⟩) :
    wpAny (model prog w) A (call (Value.type "zip") [Value.ref l1, Value.ref l2]) Q E s := by
  refine callType_new F.called_zip (by decide) (F.typeCall_zip_2 _ _) (F.newCall_zip_2 _ _) (fun obj => F.args_object_init_3 obj _ _) F.entry_zip_new (meets_zip t1 t2 l1 l2 xs ys) ⟨hl1, hl2, ?_⟩
  have z1 : (zH1 t1 s.heap l1).objs.size = s.heap.objs.size + 1 := Heap.size_push _ _
  have z2 : (zH2 t1 t2 s.heap l1 l2).objs.size = s.heap.objs.size + 2 := (Heap.size_push _ _).trans (congrArg (· + 1) z1)
  have z3 : (zH3 t1 t2 s.heap l1 l2).objs.size = s.heap.objs.size + 3 := (Heap.size_push _ _).trans (congrArg (· + 1) z2)
  have z4 : (zH4 t1 t2 s.heap l1 l2).objs.size = s.heap.objs.size + 4 := (Heap.size_push _ _).trans (congrArg (· + 1) z3)
  have z5 : (zH5 t1 t2 s.heap l1 l2).objs.size = s.heap.objs.size + 5 := (Heap.size_push _ _).trans (congrArg (· + 1) z4)
  have g5 : (zH5 t1 t2 s.heap l1 l2).get? (s.heap.objs.size + 4) = some { cls := Value.type "zip", data := Data.fields #[Value.none, Value.bool false, Value.bool false, Value.ref (s.heap.objs.size + 2), Value.ref (s.heap.objs.size + 3)] } := by
    have := Heap.get?_push_size (zH4 t1 t2 s.heap l1 l2) (o := { cls := Value.type "zip", data := Data.fields #[Value.none, Value.bool false, Value.bool false, Value.ref (zH2 t1 t2 s.heap l1 l2).objs.size, Value.ref (zH3 t1 t2 s.heap l1 l2).objs.size] }) rfl
    rw [z2, z3, z4] at this
    unfold zH5
    rw [z2, z3]
    exact this
  have g4 : (zH5 t1 t2 s.heap l1 l2).get? (s.heap.objs.size + 3) = some { cls := Value.type "tuple", data := Data.seq #[Value.none, Value.none] } := by
    have := Heap.get?_push_size (zH3 t1 t2 s.heap l1 l2) (o := { cls := Value.type "tuple", data := Data.seq #[Value.none, Value.none] }) rfl
    rw [z3] at this
    exact Heap.get?_push_of_some _ this
  have g3 : (zH5 t1 t2 s.heap l1 l2).get? (s.heap.objs.size + 2) = some { cls := Value.type "tuple", data := Data.seq #[Value.ref s.heap.objs.size, Value.ref (s.heap.objs.size + 1)] } := by
    have := Heap.get?_push_size (zH2 t1 t2 s.heap l1 l2) (o := { cls := Value.type "tuple", data := Data.seq #[Value.ref s.heap.objs.size, Value.ref (zH1 t1 s.heap l1).objs.size] }) rfl
    rw [z2, z1] at this
    have h3 : (zH3 t1 t2 s.heap l1 l2).get? (s.heap.objs.size + 2) = some { cls := Value.type "tuple", data := Data.seq #[Value.ref s.heap.objs.size, Value.ref (s.heap.objs.size + 1)] } := by
      unfold zH3
      rw [z1]
      exact this
    exact Heap.get?_push_of_some _ (Heap.get?_push_of_some _ h3)
  have g2 : (zH5 t1 t2 s.heap l1 l2).get? (s.heap.objs.size + 1) = some (itO t2 l2) := by
    have := Heap.get?_push_size (zH1 t1 s.heap l1) (o := itO t2 l2) (by cases t2 <;> rfl)
    rw [z1] at this
    exact Heap.get?_push_of_some _ (Heap.get?_push_of_some _ (Heap.get?_push_of_some _ this))
  have g1 : (zH5 t1 t2 s.heap l1 l2).get? s.heap.objs.size = some (itO t1 l1) :=
    Heap.get?_push_of_some _ (Heap.get?_push_of_some _ (Heap.get?_push_of_some _ (Heap.get?_push_of_some _ (Heap.get?_push_size s.heap (o := itO t1 l1) (by cases t1 <;> rfl)))))
  have it : ∀ (t : Bool) (h : Heap) (a l : Addr), h.get? a = some (itO t l) → ItOf t h a l 0 := by
    intro t h a l e
    cases t with
    | true => exact ⟨_, e, rfl, rfl⟩
    | false => exact ⟨_, e, rfl, rfl⟩
  show (⟨zH5 t1 t2 s.heap l1 l2, s.gens, s.drawn, s.toks, s.os⟩ : Shared).TypeIs (Value.ref (zH4 t1 t2 s.heap l1 l2).objs.size) "zip" ∧ Q (Value.ref (zH4 t1 t2 s.heap l1 l2).objs.size) ⟨zH5 t1 t2 s.heap l1 l2, s.gens, s.drawn, s.toks, s.os⟩
  rw [z4]
  exact ⟨⟨_, g5, rfl⟩, h _ g5 g3 g4 (it t1 _ _ _ g1) (it t2 _ _ _ g2) z5 fun c o e => Heap.get?_push_of_some _ (Heap.get?_push_of_some _ (Heap.get?_push_of_some _ (Heap.get?_push_of_some _ (Heap.get?_push_of_some _ e))))⟩
def SqB (K : PySem.W.Frag) (t : Bool) (H : Hp) (a : Addr) (xs : List V) : Prop := if t = true then SqT K H a xs else SqL K H a xs
/-- two at a time -/
def ItzX (K : PySem.W.Frag) (t1 t2 : Bool) (a b : Addr) (xs ys : List V) : It where
  go i H := SqB K t1 H a xs ∧ SqB K t2 H b ys ∧ ∃ x y, xs[i]? = some x ∧ ys[i]? = some y
  yld i H v H' := ∃ T x y, v = V.ref T ∧ H T = none ∧ H' = upd H T (.tup [x, y]) ∧ xs[i]? = some x ∧ ys[i]? = some y
  stop i H := SqB K t1 H a xs ∧ SqB K t2 H b ys ∧ (xs.length ≤ i ∨ ys.length ≤ i)
theorem inv_sq {X : Cx} {pins : List (Addr × Obj)} {σ : L2.St} {H : Hp} {s : Shared} (I : L2.Inv X pins σ H s) {t : Bool} {a : Addr} {xs : List V} (h : SqB X.K t H a xs) : ∃ its, Vals xs its ∧ SqOf t s.heap a its.toArray := by
  cases t with
  | true =>
    obtain ⟨its, rv, p, q⟩ := I.tuple (show SqT X.K H a xs from h)
    exact ⟨its, rv, p⟩
  | false =>
    obtain ⟨its, rv, p, q⟩ := I.list (show SqL X.K H a xs from h)
    exact ⟨its, rv, p.isList⟩
theorem SqOf.lt {t : Bool} {h : Heap} {a : Addr} {xs : Array Value} (q : SqOf t h a xs) : a < h.objs.size := by
  cases t with
  | true => obtain ⟨o, e, _⟩ := (show h.IsTuple a xs from q); exact Heap.lt_size e
  | false => obtain ⟨o, e, _⟩ := (show h.IsList a xs from q); exact Heap.lt_size e
theorem ItOf.obj {t : Bool} {h : Heap} {a l : Addr} {i : Nat} (q : ItOf t h a l i) : ∃ o, h.get? a = some o ∧ ∀ v, o.data ≠ Data.cell v := by
  cases t with
  | true => obtain ⟨o, e, _, d⟩ := (show h.IsTupleIter a l i from q); exact ⟨o, e, fun v y => by rw [d] at y; cases y⟩
  | false => obtain ⟨o, e, _, d⟩ := (show h.IsListIter a l i from q); exact ⟨o, e, fun v y => by rw [d] at y; cases y⟩
theorem ItOf.keep {t : Bool} {h h' : Heap} {a l : Addr} {i : Nat} (q : ItOf t h a l i) (k : ∀ o, h.get? a = some o → h'.get? a = some o) : ItOf t h' a l i := by
  cases t with
  | true => exact Heap.IsTupleIter.at (show h.IsTupleIter a l i from q) k
  | false => exact Heap.IsListIter.at (show h.IsListIter a l i from q) k
theorem turn_zipX {P : Program} {w : World} {K : PySem.W.Frag} {elts : List Expr} {kk : Nat} {tpos : Pos} {t1 t2 : Bool} {a b z TI TO i1 i2 : Addr} {xs ys : List V} (D : ZipApart z TI TO i1 i2 a b) :
    Turn P w K (.Tuple elts kk tpos) (ItzX K t1 t2 a b xs ys) [z, TI, TO, i1, i2] z fun i h => IsZip h z TI TO Value.none ∧ IsPair h TI (Value.ref i1) (Value.ref i2) ∧ (∃ x y, IsPair h TO x y) ∧ ItOf t1 h i1 a i ∧ ItOf t2 h i2 b i where
  mem := by simp
  obj := by
    rintro i h ⟨hz, hTI, ⟨x, y, hTO⟩, h1, h2⟩ c hc
    simp only [List.mem_cons, List.not_mem_nil, or_false] at hc
    rcases hc with rfl | rfl | rfl | rfl | rfl
    · exact ⟨_, hz, fun v y => by cases y⟩
    · exact ⟨_, hTI, fun v y => by cases y⟩
    · exact ⟨_, hTO, fun v y => by cases y⟩
    · exact h1.obj
    · exact h2.obj
  keep := by
    rintro i h h' ⟨hz, hTI, ⟨x, y, hTO⟩, h1, h2⟩ k
    exact ⟨k _ (by simp) _ hz, k _ (by simp) _ hTI, ⟨x, y, k _ (by simp) _ hTO⟩, h1.keep (k _ (by simp)), h2.keep (k _ (by simp))⟩
  item := by
    rintro X rfl rfl rfl hc i pins s σ H E I hf ⟨hz, hTI, ⟨x0, y0, hTO⟩, h1, h2⟩ ⟨hx, hy, x, y, ex, ey⟩
    obtain ⟨its, rv, p⟩ := inv_sq I hx
    obtain ⟨its2, rv2, p2⟩ := inv_sq I hy
    obtain ⟨u, hu, ru⟩ := rv.get ex
    obtain ⟨u2, hu2, ru2⟩ := rv2.get ey
    have hzl := Heap.lt_size hz
    refine next_zip_item D hz hTI hTO h1 h2 p p2 (x := u) (y := u2) (by simpa using hu) (by simpa using hu2) fun h' z' TO' h1' h2' hT hsz hk => ⟨_, rfl, wpAny_letOwnedTupleGo_zip z' fun h'' z'' sb => ?_⟩
    have hT2 : IsPair h'' s.heap.objs.size u u2 := (sb.2 s.heap.objs.size (Nat.ne_of_gt hzl)).trans hT
    have I1 : L2.Inv X pins σ (upd H s.heap.objs.size (.tup [x, y])) ⟨h'', s.gens, s.drawn, s.toks, s.os⟩ := I.turnedNew (ch := [z, TI, TO, i1, i2]) (fun c o hb q => by
      simp only [List.mem_cons, List.not_mem_nil, or_false, not_or] at hb
      exact (sb.2 c hb.1).trans (hk c o hb.1 hb.2.2.1 hb.2.2.2.1 hb.2.2.2.2 q)) hf (Nat.le_refl _) ⟨by show 2 ≤ sizeLine; decide, [u, u2], .cons ru (.cons ru2 .nil), _, hT2, rfl, 0, rfl⟩
    have nb : ∀ c ∈ [z, TI, TO, i1, i2], upd H s.heap.objs.size (.tup [x, y]) c = none := fun c hc' => (upd_ne (by
      refine Nat.ne_of_lt ?_
      simp only [List.mem_cons, List.not_mem_nil, or_false] at hc'
      rcases hc' with rfl | rfl | rfl | rfl | rfl
      · exact hzl
      · exact Heap.lt_size hTI
      · exact Heap.lt_size hTO
      · obtain ⟨o, e, _⟩ := h1.obj; exact Heap.lt_size e
      · obtain ⟨o, e, _⟩ := h2.obj; exact Heap.lt_size e)).trans (hf c hc').1
    refine ⟨.ref s.heap.objs.size, _, I1, rfl, ⟨_, x, y, rfl, I.hok.fresh (Nat.le_refl _), rfl, ex, ey⟩, ⟨z'', ?_, ⟨u, u2, ?_⟩, ?_, ?_⟩, nb⟩
    · exact (sb.2 TI D.TIz).trans (hk TI _ D.TIz D.TITO D.TIi1 D.TIi2 hTI)
    · exact (sb.2 TO D.TOz).trans TO'
    · exact h1'.keep fun o q => (sb.2 i1 D.i1z).trans q
    · exact h2'.keep fun o q => (sb.2 i2 D.i2z).trans q
  done := by
    rintro X rfl rfl rfl hc i pins s σ H E I hf ⟨hz, hTI, ⟨x0, y0, hTO⟩, h1, h2⟩ ⟨hx, hy, he⟩
    obtain ⟨its, rv, p⟩ := inv_sq I hx
    obtain ⟨its2, rv2, p2⟩ := inv_sq I hy
    have l1 := rv.length
    have l2 := rv2.length
    refine next_zip_end (I.ok.hd hc) D hz hTI hTO h1 h2 p p2 ?_ fun h' hk => ⟨rfl, I.turnedL (ch := [z, TI, TO, i1, i2]) (fun c o hb q => by
      simp only [List.mem_cons, List.not_mem_nil, or_false, not_or] at hb
      exact hk c o hb.1 hb.2.2.1 hb.2.2.2.1 hb.2.2.2.2 q) hf⟩
    rcases he with he | he
    · exact .inl (by simp; omega)
    · exact .inr (by simp; omega)
  self := fun A i s Q E st h => wpAny_pyIter_zip st.1 h
/-- zip(e, e2), told what is written -/
def iZipX (K : PySem.W.Frag) (ta : TA) : TI := fun σ H R => ta σ H fun vs H1 => ∃ a b xs ys, vs = [.ref a, .ref b] ∧ SqE K H1 a xs ∧ SqE K H1 b ys ∧
  ((∀ o, K.lookup a = some o → H1 a = none) → (∀ o, K.lookup b = some o → H1 b = none) → ∀ J, Walk J (min xs.length ys.length) (fun H' => At H1 a H' ∧ At H1 b H') (YPair (fun i => xs[i]?) (fun i => ys[i]?)) → R J H1)
theorem SqE.b {K : PySem.W.Frag} {H : Hp} {a : Addr} {xs : List V} (h : SqE K H a xs) : ∃ t, SqB K t H a xs := by
  rcases h with h | h
  · exact ⟨false, h⟩
  · exact ⟨true, h⟩
theorem At.sqB {K : PySem.W.Frag} {H H' : Hp} {a : Addr} {xs : List V} {t : Bool} (h : SqB K t H a xs) (k : At H a H') : SqB K t H' a xs := by
  cases t with
  | true => exact At.tup (show SqT K H a xs from h) k
  | false => exact At.list (show SqL K H a xs from h) k
theorem walk_zipX {K : PySem.W.Frag} {H1 : Hp} {t1 t2 : Bool} {a b : Addr} {xs ys : List V} (ha : SqB K t1 H1 a xs) (hb : SqB K t2 H1 b ys) : Walk (ItzX K t1 t2 a b xs ys) (min xs.length ys.length) (fun H' => At H1 a H' ∧ At H1 b H') (YPair (fun i => xs[i]?) (fun i => ys[i]?)) := by
  refine ⟨fun i H' hi ⟨k1, k2⟩ => ⟨At.sqB ha k1, At.sqB hb k2, ?_⟩, fun H' ⟨k1, k2⟩ => ⟨At.sqB ha k1, At.sqB hb k2, by omega⟩, fun i H' v H2 hi _ y => y⟩
  have l1 : i < xs.length := by omega
  have l2 : i < ys.length := by omega
  exact ⟨_, _, List.getElem?_eq_getElem l1, List.getElem?_eq_getElem l2⟩
theorem pi_zipX {X : Cx} {e e2 : Expr} {ta : TA} {p pos tpos : Pos} {elts : List Expr} {kk : Nat} (hg : Gl X "zip") (hm : X.mg "zip" = none) (ha : PA X [e, e2] ta) (hs : starEach [e, e2] X.env = (false, eval e X.env) :: starEach [e2] X.env := by rfl) (hpl : (backTo pos (starEach [e2] X.env)).any (·.1) = false := by rfl) :
    PI X (.Tuple elts kk tpos) (.Call (.Name "zip" p) [e, e2] [] pos) (iZipX X.K ta) := by
  constructor
  intro pins s σ H R I h
  refine Call_ (ld_blt I hg hm boot_zip (PyProof.Rows.callWith_type1 (thn (ha.run pos pins s σ H _ I h) ?_) hs hpl))
  rintro us s1 ⟨vs, H1, I1, r1, a, b, xs, ys, rfl, sa, sb, q⟩
  obtain ⟨u, u2, rfl, ru, ru2⟩ := vals2 r1
  cases ru
  cases ru2
  obtain ⟨t1, sa⟩ := SqE.b sa
  obtain ⟨t2, sb⟩ := SqE.b sb
  obtain ⟨its, rv, p1⟩ := inv_sq I1 sa
  obtain ⟨its2, rv2, p2⟩ := inv_sq I1 sb
  have q := q (fun o h => inv_kfree I1 h) (fun o h => inv_kfree I1 h)
  refine call_zipX t1 t2 p1 p2 fun h' hz hTI hTO h1 h2 sz k => wpAny_pyIter_zip hz ?_
  have D := zipApart_new p1.lt p2.lt
  have free : ∀ b ∈ [s1.heap.objs.size + 4, s1.heap.objs.size + 2, s1.heap.objs.size + 3, s1.heap.objs.size, s1.heap.objs.size + 1], FpOk X pins H1 b := fun b hb => by
    have le : s1.heap.objs.size ≤ b := by
      simp only [List.mem_cons, List.not_mem_nil, or_false] at hb
      omega
    exact I1.fpOk le (I1.hok.fresh le)
  exact ⟨_, _, _, _, H1, rfl, I1.kept (t' := s1.toks) k, turn_zipX (t1 := t1) (t2 := t2) (xs := xs) (ys := ys) D, ⟨hz, hTI, ⟨_, _, hTO⟩, h1, h2⟩, free, q _ (walk_zipX sa sb)⟩
end Pl
set_option Elab.async false
set_option linter.all false
set_option maxRecDepth 100000
set_option maxHeartbeats 4000000
/-! zip walked; in, not in; chains of comparisons; slices. -/
namespace Pl
open PySem PySem.Spec PyProof.Rows L2 Tk
/-! ### zip -/
def dZipX (f f' : DE) : Ef Wk := bindE f fun r => bindE f' fun r' ρ => match walked r ρ, walked r' ρ with
  | some w, some w' => some (.ok (zipL w.1 w'.1, w.2 ++ w'.2) ρ)
  | _, _ => none
theorem locks_append (is js : List Nat) : ∀ ρ : Sl, locks (is ++ js) ρ = locks js (locks is ρ) := by
  induction is with
  | nil => intro ρ; rfl
  | cons i is ih => intro ρ; exact ih (lock1 i ρ)
theorem lock1_own {i j : Nat} {ρ : Sl} {m : MO} (h : (lock1 i ρ)[j]? = some (some (.own m))) : ρ[j]? = some (some (.own m)) ∧ (j = i → ∀ l, m ≠ .lst l) := by
  unfold lock1 at h
  split at h
  · rename_i l e
    rcases set_cases h with ⟨_, y, _⟩ | ⟨n, y⟩
    · cases y
    · exact ⟨y, fun e' => (n e').elim⟩
  · rename_i no
    refine ⟨h, fun e l em => ?_⟩
    subst e
    subst em
    exact no l h
theorem lock1_own' {i j : Nat} {ρ : Sl} {m : MO} (h : ρ[j]? = some (some (.own m))) (n : j = i → ∀ l, m ≠ .lst l) : (lock1 i ρ)[j]? = some (some (.own m)) := by
  unfold lock1
  split
  · rename_i l e
    have ne : i ≠ j := fun y => by
      subst y
      rw [h] at e
      cases e
      exact n rfl l rfl
    rw [List.getElem?_set_ne ne]
    exact h
  · exact h
theorem locks_own {j : Nat} {m : MO} : ∀ {is : List Nat} {ρ : Sl}, (locks is ρ)[j]? = some (some (.own m)) → ρ[j]? = some (some (.own m)) ∧ (j ∈ is → ∀ l, m ≠ .lst l)
  | [], _, h => ⟨h, fun y => by cases y⟩
  | i :: is, ρ, h => by
    obtain ⟨h1, h2⟩ := locks_own (is := is) (ρ := lock1 i ρ) h
    obtain ⟨h3, h4⟩ := lock1_own h1
    refine ⟨h3, fun y => ?_⟩
    rcases List.mem_cons.mp y with y | y
    · exact h4 y
    · exact h2 y
theorem locks_own' {j : Nat} {m : MO} : ∀ {is : List Nat} {ρ : Sl}, ρ[j]? = some (some (.own m)) → (j ∈ is → ∀ l, m ≠ .lst l) → (locks is ρ)[j]? = some (some (.own m))
  | [], _, h, _ => h
  | i :: is, ρ, h, n => locks_own' (is := is) (lock1_own' h fun e => n (by rw [e]; exact List.mem_cons_self)) fun y => n (List.mem_cons_of_mem _ y)
theorem ownA_more {is js : List Nat} {ρ : Sl} {σ : L2.St} {H : Hp} {x : Addr} (s : ∀ j ∈ js, j ∈ is) (h : OwnA (locks is ρ) σ H x) : OwnA (locks js ρ) σ H x := by
  obtain ⟨i, m, a, e, q, f⟩ := h
  obtain ⟨e1, e2⟩ := locks_own e
  exact ⟨i, m, a, locks_own' e1 fun y => e2 (s i y), q, f⟩
section
variable {X : Cx} {C : Cl} {B : Bw} {W : WX} {tg e e' : Expr} {f f' : DE} {p pos tpos : Pos}
theorem zip_walk {K : PySem.W.Frag} {z : At0} {ρ : Sl} {F1 H1 : Hp} {σ : L2.St} {a b : Addr} {xs ys : List V} {w w' : Wk} (na : ∀ o, H1 a = some o → ¬ OwnA (locks w.2 ρ) σ H1 a ∧ ¬ Foreign z a) (nb : ∀ o, H1 b = some o → ¬ OwnA (locks w'.2 ρ) σ H1 b ∧ ¬ Foreign z b)
    (ra : Reps K C F1 xs w.1) (rb : Reps K C F1 ys w'.1) (J : It) (wk : Walk J (min xs.length ys.length) (fun H' => At H1 a H' ∧ At H1 b H') (YPair (fun i => xs[i]?) (fun i => ys[i]?))) : WalkD K C z ρ F1 σ H1 J (zipL w.1 w'.1, w.2 ++ w'.2) := by
  have len : (zipL w.1 w'.1).length = min w.1.length w'.1.length := by unfold zipL; simp
  refine ⟨fun H' => At H1 a H' ∧ At H1 b H', _, by show Walk J (zipL w.1 w'.1).length _ _; rw [len, ← ra.length, ← rb.length]; exact wk, fun Fa Ha s1 s2 kp => ⟨fun u hu => kp a u hu (fun y => (na u hu).1 (ownA_more (fun j hj => List.mem_append_left _ hj) y)) (na u hu).2, fun u hu => kp b u hu (fun y => (nb u hu).1 (ownA_more (fun j hj => List.mem_append_right _ hj) y)) (nb u hu).2⟩, fun i Fa Ha v Hb s1 s2 kp y => ?_⟩
  obtain ⟨T, x, y', rfl, nT, rfl, hx, hy⟩ := y
  obtain ⟨d, hd, rd⟩ := ra.get hx
  obtain ⟨d', hd', rd'⟩ := rb.get hy
  obtain ⟨Fb, rb, g⟩ := Grow.pair s2 nT (rd.to s1) (rd'.to s1)
  refine ⟨Fb, _, ?_, rb, g⟩
  show (zipL w.1 w'.1)[i]? = _
  unfold zipL
  rw [List.getElem?_zipWith, hd, hd']
theorem pdi_zip {elts : List Expr} {kk : Nat} (hg : Gl X "zip") (hm : X.mg "zip" = none) (h : PD X C B W e f) (h' : PD X C B W e' f') (hs : starEach [e, e'] X.env = (false, eval e X.env) :: starEach [e'] X.env := by rfl) (hs' : starEach [e'] X.env = (false, eval e' X.env) :: starEach [] X.env := by rfl) (hpl : (backTo pos (starEach [e'] X.env)).any (·.1) = false := by rfl) :
    PDI X C B W (.Tuple elts kk tpos) (.Call (.Name "zip" p) [e, e'] [] pos) (dZipX f f') :=
  PI.conv (pi_zipX hg hm (pa_cons h (pa_cons h' pa_nil hs') hs) hs hpl) fun σ H R ⟨ρ, F, st, g⟩ => tG_bind (k1 := kR X.K C) (Post.start st) g fun r1 ρ1 v F1 H1 g1 p1 _ q1 => tG_bind (k1 := kR X.K C) p1 g1 fun r2 ρ2 v2 F2 H2 g2 p2 s2 q2 => by
    show ∃ a b xs ys, [v, v2] = [V.ref a, V.ref b] ∧ _
    try dsimp only at g2
    split at g2
    · rename_i w w' ew ew'
      obtain ⟨a, vs, rfl, sq, rs, no⟩ := walked_at p2 (RepRV.carry q1 s2) ew
      obtain ⟨b, vs', rfl, sq', rs', no'⟩ := walked_at p2 q2 ew'
      exact ⟨a, b, vs, vs', rfl, sq, sq', fun k k' J wk => g2 J F2 H2 p2 (zip_walk (no k) (no' k') rs rs' J wk)⟩
    · exact False.elim g2
end

/-! ### in -/
def seqD : D → Option (List D)
  | .lst l => some l
  | .wri l => some l
  | .tup l => some l
  | _ => none
/-- a in b: a sequence of data, or a text in a text -/
def dIn (a b : D) : Option Bool := match a, b with
  | .str x, .str y => some (!(Builtin.Str.occurrences y x 0 y.length 1).isEmpty)
  | a, b => match seqD b with
    | some l => if a.plain && b.plain then some (l.any fun d => PyData.eqv d.py a.py) else none
    | none => none
def hIn (a b : D) : Option D := (dIn a b).map fun c => .bl c
def hNotIn (a b : D) : Option D := (dIn a b).map fun c => .bl !c
abbrev gIn := lift2 hIn
abbrev gNotIn := lift2 hNotIn
def rInA (K : PySem.W.Frag) (neg : Bool) : R2 := fun x y H Q => (∃ i j, x = .str i ∧ y = .str j ∧ Q (.bl (neg != !(Builtin.Str.occurrences j i 0 j.length 1).isEmpty)) H) ∨
  ∃ d ds, Dp K H x d ∧ (Dp K H y (.list ds) ∨ Dp K H y (.tuple ds)) ∧ SeqAt.shaped d = true ∧ SeqAt.shaped (.list ds) = true ∧ Q (.bl (neg != ds.any fun z => PyData.eqv z d)) H
section
variable {K : PySem.W.Frag} {C : Cl} {X : Cx}
theorem shaped_list {ds : List PyData} (h : SeqAt.shaped (.list ds) = true) : PyData.canLayAll0 ds = true ∧ PyData.depthAll ds ≤ 63 := by
  unfold SeqAt.shaped at h
  rw [Bool.and_eq_true] at h
  obtain ⟨h1, h2⟩ := h
  have h2 := of_decide_eq_true h2
  exact ⟨by simpa [PyData.canLay0] using h1, by simp only [PyData.depth] at h2; omega⟩
theorem op_inA (hu : X.A.units + 64 < cLine) : OpR X (compareOp .In) (rInA X.K false) := by
  intro pins s σ H x y v u Q I rx ry h
  rcases h with h | ⟨d, ds, hd, hds, s1, s2, q⟩
  · exact op_in_str pins s σ H x y v u Q I rx ry (by simpa using h)
  · obtain ⟨c1, c2⟩ := shaped_list s2
    obtain ⟨as, ra⟩ := Dp.reads I d x v hd rx
    have q' : EP X pins σ Q (Value.bool (ds.any fun y => y.eqv d)) s := ⟨.bl _, H, I, rfl, by simpa using q⟩
    rcases hds with hds | hds
    · obtain ⟨bs, rb⟩ := Dp.reads I _ y u hds ry
      exact SeqAt.in_list_reads rb ra c1 (SeqAt.canLay_of_shaped s1) (by omega) q'
    · obtain ⟨bs, rb⟩ := Dp.reads I _ y u hds ry
      exact SeqAt.in_tuple_reads rb ra c1 (SeqAt.canLay_of_shaped s1) (by omega) q'
theorem op_notInA (hu : X.A.units + 64 < cLine) : OpR X (compareOp .NotIn) (rInA X.K true) := by
  intro pins s σ H x y v u Q I rx ry h
  rcases h with h | ⟨d, ds, hd, hds, s1, s2, q⟩
  · exact op_notIn_str pins s σ H x y v u Q I rx ry (by simpa using h)
  · obtain ⟨c1, c2⟩ := shaped_list s2
    obtain ⟨as, ra⟩ := Dp.reads I d x v hd rx
    have q' : EP X pins σ Q (Value.bool !(ds.any fun y => y.eqv d)) s := ⟨.bl _, H, I, rfl, by simpa using q⟩
    rcases hds with hds | hds
    · obtain ⟨bs, rb⟩ := Dp.reads I _ y u hds ry
      exact SeqAt.notIn_list_reads rb ra c1 (SeqAt.canLay_of_shaped s1) (by omega) q'
    · obtain ⟨bs, rb⟩ := Dp.reads I _ y u hds ry
      exact SeqAt.notIn_tuple_reads rb ra c1 (SeqAt.canLay_of_shaped s1) (by omega) q'
theorem any_pys (a : PyData) : ∀ l : List D, (D.pys l).any (fun z => PyData.eqv z a) = l.any fun d => PyData.eqv d.py a
  | [] => rfl
  | d :: l => by rw [D.pys, List.any_cons, List.any_cons, any_pys a l]
theorem in_cases {H : Hp} {x y : V} {a b : D} {c : Bool} {Q : VK} (neg : Bool) (ra : Rep K C H x a) (rb : Rep K C H y b) (h : dIn a b = some c) (q : Q (.bl (neg != c)) H) : rInA K neg x y H Q := by
  unfold dIn at h
  split at h
  · cases h
    exact .inl ⟨_, _, ra.str_inv, rb.str_inv, q⟩
  · split at h
    · rename_i l e
      split at h
      · rename_i p
        cases h
        unfold D.plain at p
        simp only [Bool.and_eq_true] at p
        refine .inr ⟨a.py, D.pys l, Rep.dp _ _ ra p.1.1, ?_, p.1.2, ?_, by rw [any_pys]; exact q⟩
        · have := Rep.dp _ _ rb p.2.1
          cases b <;> cases e
          · exact .inl this
          · exact .inr this
          · exact .inl this
        · have := p.2.2
          cases b <;> cases e
          · exact this
          · unfold SeqAt.shaped at this ⊢
            simpa [D.py, PyData.canLay0, PyData.depth] using this
          · exact this
      · cases h
    · cases h
theorem o_in : Op2 K C (rInA K false) gIn := Sc2.op (by
  intro H x y a b d Q ra rb e q
  unfold hIn at e
  cases h : dIn a b with
  | none => rw [h] at e; cases e
  | some c =>
    rw [h] at e
    cases e
    exact in_cases false ra rb h (by simpa using q _ fun F => .bl _))
theorem o_notIn : Op2 K C (rInA K true) gNotIn := Sc2.op (by
  intro H x y a b d Q ra rb e q
  unfold hNotIn at e
  cases h : dIn a b with
  | none => rw [h] at e; cases e
  | some c =>
    rw [h] at e
    cases e
    exact in_cases true ra rb h (by simpa using q _ fun F => .bl _))
end

/-! ### chains of two -/
/-- a op b op' c -/
def dChain (h h' : D → D → Option D) (fa fb fc : DE) : DE := bindE fa fun r1 => bindE fb fun r2 ρ => match r1.see ρ, r2.see ρ with
  | some a, some b => match h a b with
    | some (.bl true) => bindE fc (fun r3 ρ => match r2.see ρ, r3.see ρ with
      | some b', some c => match h' b' c with
        | some d => some (.ok (.dat d) ρ)
        | none => none
      | _, _ => none) ρ
    | some (.bl false) => some (.ok (.dat (.bl false)) ρ)
    | _ => none
  | _, _ => none
abbrev hLt := hI fun i j => some (.bl (decide (i < j)))
abbrev hLe := hI fun i j => some (.bl (decide (i ≤ j)))
section
variable {X : Cx} {C : Cl} {B : Bw} {W : WX} {a b c : Expr} {fa fb fc : DE} {pos : Pos} {r r' : R2} {h h' : D → D → Option D}
theorem sc_lt {K : PySem.W.Frag} : Sc2 K C (rI0 fun i j => .bl (decide (i < j))) hLt := sc_I0 fun _ _ _ => .bl _
theorem sc_le {K : PySem.W.Frag} : Sc2 K C (rI0 fun i j => .bl (decide (i ≤ j))) hLe := sc_I0 fun _ _ _ => .bl _
theorem chain_run (s : Sc2 X.K C r h) (s' : Sc2 X.K C r' h') {σ : L2.St} {H : Hp} {Q : VK} (q : tD X.K C B W (dChain h h' fa fb fc) σ H Q) : tChain r r' (tD X.K C B W fa) (tD X.K C B W fb) (tD X.K C B W fc) σ H Q := by
  obtain ⟨ρ, F, st, g⟩ := q
  refine tG_bind (k1 := kR X.K C) (Post.start st) g fun r1 ρ1 v1 F1 H1 g1 p1 _ q1 => tG_bind (k1 := kR X.K C) p1 g1 fun r2 ρ2 v2 F2 H2 g2 p2 s2 q2 => ?_
  have q1 := RepRV.carry q1 s2
  try dsimp only at g2
  split at g2
  · rename_i x y e1 e2
    split at g2
    · rename_i e
      refine s H2 v1 v2 x y (.bl true) _ (RepRV.see q1 p2.st e1) (RepRV.see q2 p2.st e2) e fun v rv => ⟨true, (rv F2).bl_inv, ?_⟩
      rw [if_pos rfl]
      refine tG_bind (k1 := kR X.K C) p2 g2 fun r3 ρ3 v3 F3 H3 g3 p3 s3 q3 => ?_
      have q2 := RepRV.carry q2 s3
      try dsimp only at g3
      split at g3
      · rename_i y' z e3 e4
        split at g3
        · rename_i d e5
          exact s' H3 v2 v3 y' z d Q (RepRV.see q2 p3.st e3) (RepRV.see q3 p3.st e4) e5 fun v r => g3 v F3 H3 p3 (r F3)
        · exact False.elim g3
      · exact False.elim g3
    · rename_i e
      refine s H2 v1 v2 x y (.bl false) _ (RepRV.see q1 p2.st e1) (RepRV.see q2 p2.st e2) e fun v rv => ⟨false, (rv F2).bl_inv, ?_⟩
      rw [if_neg Bool.false_ne_true]
      exact g2 _ F2 H2 p2 (.bl false)
    · exact False.elim g2
  · exact False.elim g2
theorem pd_chain {op op' : CmpOp} (ho : OpR X (compareOp op) r) (ho' : OpR X (compareOp op') r') (s : Sc2 X.K C r h) (s' : Sc2 X.K C r' h') (ha : PD X C B W a fa) (hb : PD X C B W b fb) (hc : PD X C B W c fc) (hm : lastMarks [op, op'] [b, c] = false := by rfl) :
    PD X C B W (.Compare a [op, op'] [b, c] pos) (dChain h h' fa fb fc) := PE.conv (pe_chain ho ho' ha hb hc hm) fun _ _ _ q => chain_run s s' q
theorem pdt_chain {op op' : CmpOp} (ho : OpR X (compareOp op) r) (ho' : OpR X (compareOp op') r') (s : Sc2 X.K C r h) (s' : Sc2 X.K C r' h') (ha : PD X C B W a fa) (hb : PD X C B W b fb) (hc : PD X C B W c fc) (hm : lastMarks [op, op'] [b, c] = false := by rfl) :
    PDT X C B W (.Compare a [op, op'] [b, c] pos) (asB (dChain h h' fa fb fc)) := PT.conv (pt_chain ho ho' ha hb hc hm) fun σ H Q q => by
  have z := asB_run q
  exact chain_run s s' z
end

/-! ### slices -/
def cutD (l : List D) (lo hi : Option Int) : List D := (l.drop (HT.sIx l.length 0 lo)).take (HT.sIx l.length l.length hi - HT.sIx l.length 0 lo)
def dNoPart : Ef (Option Int) := retE none
def dPart (f : DE) : Ef (Option Int) := bindE f fun r ρ => match r.see ρ with
  | some (.int i) => some (.ok (some i) ρ)
  | _ => none
def dSlc (f : DE) (fl fh : Ef (Option Int)) : DE := bindE f fun r => bindE fl fun lo => bindE fh fun hi ρ => match r.see ρ with
  | some (.lst l) => some (.ok (.own (.lst (cutD l lo hi))) ρ)
  | some (.wri l) => some (.ok (.own (.lst (cutD l lo hi))) ρ)
  | some (.tup l) => some (.ok (.dat (.tup (cutD l lo hi))) ρ)
  | some (.str x) => if x.length ≤ 10000 then some (.ok (.dat (.str (cutS x lo hi))) ρ) else none
  | _ => none
def kO (K : PySem.W.Frag) (C : Cl) : Kd K C (Option Int) (Option Int) := ⟨fun _ _ _ _ _ v a => v = a, fun _ h => h⟩
abbrev PDO (X : Cx) (C : Cl) (B : Bw) (W : WX) (e : Option Expr) (f : Ef (Option Int)) : Prop := PO X e (tG (kO X.K C) B W f)
theorem PO.conv {X : Cx} {e : Option Expr} {t t' : TO} (h : PO X e t) (c : ∀ σ H Q, t' σ H Q → t σ H Q) : PO X e t' := ⟨fun pins s σ H Q I q => h.run pins s σ H Q I (c σ H Q q)⟩
section
variable {X : Cx} {C : Cl} {B : Bw} {W : WX} {e : Expr} {f : DE} {pos p2 : Pos} {lo hi : Option Expr} {fl fh : Ef (Option Int)}
theorem pdo_none : PDO X C B W none dNoPart := PO.conv po_none fun σ H Q ⟨ρ, F, st, g⟩ => g none F H (Post.start st) rfl
theorem pdo_some (h : PD X C B W e f) : PDO X C B W (some e) (dPart f) := PO.conv (po_some h) fun σ H Q ⟨ρ, F, st, g⟩ => tG_bind (k1 := kR X.K C) (Post.start st) g fun r1 ρ1 v F1 H1 g1 p1 _ q1 => by
  try dsimp only at g1
  split at g1
  · rename_i i e
    exact ⟨i, (RepRV.see q1 p1.st e).int_inv, g1 _ F1 H1 p1 rfl⟩
  · exact False.elim g1
theorem Reps.cut {K : PySem.W.Frag} {F : Hp} {vs : List V} {ds : List D} (r : Reps K C F vs ds) (lo hi : Option Int) : Reps K C F (cutV vs lo hi) (cutD ds lo hi) := by
  unfold cutV cutD
  rw [r.length]
  exact (r.drop _).take _
theorem pd_slice (he : PD X C B W e f) (hl : PDO X C B W lo fl) (hh : PDO X C B W hi fh) : PD X C B W (.Subscript e (.Slice lo hi none p2) pos) (dSlc f fl fh) :=
  PE.conv (pe_slice (SlR.or sl_list (SlR.or sl_tupA sl_str)) he hl hh) fun σ H Q ⟨ρ, F, st, g⟩ => tG_bind (k1 := kR X.K C) (Post.start st) g fun r1 ρ1 v F1 H1 g1 p1 _ q1 =>
    tG_bind (k1 := kO X.K C) p1 g1 fun l ρ2 vl F2 H2 g2 p2 s2 ql => tG_bind (k1 := kO X.K C) p2 g2 fun u ρ3 vu F3 H3 g3 p3 s3 qu => by
    have q1 := RepRV.carry (RepRV.carry q1 s2) s3
    obtain rfl : vl = l := ql
    obtain rfl : vu = u := qu
    try dsimp only at g3
    split at g3
    · rename_i xs ex
      obtain ⟨a, vs, rfl, sq, rs⟩ := RepRV.parts q1 p3.st ex
      exact .inl ⟨a, vs, rfl, SqL.of sq, fun p n => Goal.newL g3 p3 n (Reps.cut rs _ _)⟩
    · rename_i xs ex
      obtain ⟨a, vs, rfl, sq, rs⟩ := RepRV.parts q1 p3.st ex
      exact .inl ⟨a, vs, rfl, sq, fun p n => Goal.newL g3 p3 n (Reps.cut rs _ _)⟩
    · rename_i xs ex
      have keep := RepRV.keep q1 p3.st ex fun _ z => by cases z
      obtain ⟨a, vs, rfl, sq, rs⟩ := RepRV.parts q1 p3.st ex
      refine .inr (.inl ⟨a, vs, rfl, sq, fun ⟨h1, h2⟩ => ?_, fun _ p n => Goal.newT g3 p3 n (Reps.cut rs _ _)⟩)
      have e : cutD xs vl vu = xs := by
        unfold cutD
        rw [← rs.length, h1, h2, List.drop_zero, Nat.sub_zero, rs.length, List.take_length]
      rw [e] at g3
      exact g3 _ F3 H3 p3 keep
    · rename_i x ex
      split at g3
      · rename_i hx
        exact .inr (.inr ⟨x, (RepRV.see q1 p3.st ex).str_inv, line10000 hx, g3 _ F3 H3 p3 (.str _)⟩)
      · exact False.elim g3
    · exact False.elim g3
end
end Pl
set_option Elab.async false
set_option linter.all false
set_option maxRecDepth 100000
set_option maxHeartbeats 4000000
/-! Order of data: sorted of lists and tuples, <; list(range(..)). -/
namespace Pl
open PySem PySem.Spec PyProof.Rows L2 Tk

/-! ### an insertion sort that is the library's merge sort -/
def insD {α : Type} (le : α → α → Bool) (x : α) : List α → List α
  | [] => [x]
  | y :: l => if le x y = true then x :: y :: l else y :: insD le x l
def isort {α : Type} (le : α → α → Bool) : List α → List α
  | [] => []
  | x :: l => insD le x (isort le l)
theorem insD_split {α : Type} {le : α → α → Bool} {x : α} : ∀ (l1 l2 : List α), (∀ b ∈ l1, le x b = false) → (∀ b, l2.head? = some b → le x b = true) → insD le x (l1 ++ l2) = l1 ++ x :: l2
  | [], [], _, _ => rfl
  | [], b :: l2, _, h => by
    show (if le x b = true then _ else _) = _
    rw [if_pos (h b rfl)]
    rfl
  | a :: l1, l2, h1, h2 => by
    show (if le x a = true then _ else _) = _
    rw [if_neg (by rw [h1 a List.mem_cons_self]; decide)]
    exact congrArg (a :: ·) (insD_split l1 l2 (fun b hb => h1 b (List.mem_cons_of_mem _ hb)) h2)
theorem isort_eq {α : Type} {le : α → α → Bool} (tr : ∀ a b c, le a b = true → le b c = true → le a c = true) (to : ∀ a b, (le a b || le b a) = true) : ∀ l : List α, isort le l = l.mergeSort le
  | [] => by simp [isort]
  | x :: l => by
    obtain ⟨l1, l2, h1, h2, h3⟩ := List.mergeSort_cons (le := le) (by simpa using tr) (by simpa using to) x l
    rw [isort, isort_eq tr to l, h2, h1]
    refine insD_split l1 l2 (fun b hb => by simpa using h3 b hb) fun b hb => ?_
    have s := List.pairwise_mergeSort (le := le) (by simpa using tr) (by simpa using to) (x :: l)
    rw [h1] at s
    have s2 := (List.pairwise_append.mp s).2.1
    cases l2 with
    | nil => cases hb
    | cons c l2 => cases hb; exact (List.pairwise_cons.mp s2).1 _ List.mem_cons_self
/-! ### the order of data -/
def ltD (a b : D) : Bool := PySem.W.dataLt a.py b.py
abbrev leD (a b : D) : Bool := !ltD b a
def sortD (l : List D) : List D := isort leD l
theorem leD_trans (a b c : D) (h1 : leD a b = true) (h2 : leD b c = true) : leD a c = true := by
  unfold leD ltD PySem.W.dataLt at *
  cases h : PyProof.Rows.lexLt PyProof.Rows.itemOrd (PySem.W.keyToks c.py) (PySem.W.keyToks a.py) with
  | false => rfl
  | true =>
    rcases PyProof.Rows.lex_negTrans (O := PyProof.Rows.itemOrd) _ (PySem.W.keyToks b.py) _ h with q | q
    · rw [q] at h2; cases h2
    · rw [q] at h1; cases h1
theorem leD_total (a b : D) : (leD a b || leD b a) = true := by
  unfold leD ltD PySem.W.dataLt
  cases h1 : PyProof.Rows.lexLt PyProof.Rows.itemOrd (PySem.W.keyToks b.py) (PySem.W.keyToks a.py) with
  | false => rfl
  | true =>
    cases h2 : PyProof.Rows.lexLt PyProof.Rows.itemOrd (PySem.W.keyToks a.py) (PySem.W.keyToks b.py) with
    | false => rfl
    | true =>
      have := PyProof.Rows.lex_trans (O := PyProof.Rows.itemOrd) _ _ _ h1 h2
      rw [PyProof.Rows.lex_irrefl] at this
      cases this
theorem sortD_eq (l : List D) : sortD l = l.mergeSort leD := isort_eq leD_trans leD_total l
theorem sortD_perm (l : List D) : (sortD l).Perm l := by rw [sortD_eq]; exact List.mergeSort_perm l _
theorem sortD_sorted (l : List D) : (sortD l).Pairwise (fun a b => leD a b = true) := by
  rw [sortD_eq]
  exact List.pairwise_mergeSort (by simpa using leD_trans) (by simpa using leD_total) l
/-- all may be compared -/
def cmpAll (l : List D) : Bool := l.all fun a => a.isPy && decide (a.py.depth ≤ 50) && l.all fun b => PySem.W.alike a.py b.py
def tup1 : D → Bool
  | .tup (_ :: _) => true
  | _ => false
def oth1 : D → Bool
  | .tup _ => false
  | .non => false
  | _ => true
def emp1 : List D → Bool
  | .tup [] :: _ => true
  | _ => false
def isTup : D → Bool
  | .tup _ => true
  | _ => false
/-- what sorted takes -/
def sortable (l : List D) : Bool := cmpAll l && (l.all tup1 || l.all oth1 || (emp1 l && l.all isTup))
theorem all_alike {l : List D} (h : cmpAll l = true) : PySem.W.AllAlike (l.map D.py) := by
  intro d hd d' hd'
  obtain ⟨a, ha, rfl⟩ := List.mem_map.mp hd
  obtain ⟨b, hb, rfl⟩ := List.mem_map.mp hd'
  have := List.all_eq_true.mp h a ha
  rw [Bool.and_eq_true] at this
  exact List.all_eq_true.mp this.2 b hb
theorem all_sortable {l : List D} (h : (l.all tup1 || l.all oth1) = true) : PySem.W.Sortable (l.map D.py) := by
  rw [Bool.or_eq_true] at h
  rcases h with h | h
  · refine .inl fun d hd => ?_
    obtain ⟨a, ha, rfl⟩ := List.mem_map.mp hd
    have := List.all_eq_true.mp h a ha
    cases a with
    | tup l => cases l with
      | nil => cases this
      | cons x r => exact ⟨x.py, D.pys r, rfl⟩
    | _ => cases this
  · refine .inr fun d hd => ?_
    obtain ⟨a, ha, rfl⟩ := List.mem_map.mp hd
    have := List.all_eq_true.mp h a ha
    cases a with
    | tup l => cases this
    | non => cases this
    | _ => exact ⟨(by intro z; cases z), fun _ z => (by cases z)⟩

/-! ### tuples, the first one empty -/
namespace SE
open PySem.W
section
variable {prog : Program} {w : World} {A : Around} {E : Value → Shared → Prop} {s : Shared}
theorem call_tuple_lt {Q : Value → Shared → Prop} {l b : Addr} {xs ys : Array Value} {e r : Nat → Bool} (hl : s.heap.IsTuple l xs) (hb : s.heap.IsTuple b ys) (he : ∀ j (h1 : j < xs.size) (h2 : j < ys.size), SeqAt.EqAt A.in1 s xs[j] ys[j] (e j))
    (hr : ∀ j (h1 : j < xs.size) (h2 : j < ys.size), e j = false → SeqAt.RcLt A.in1 s xs[j] ys[j] (r j)) (h : Q (.bool (SeqAt.firstLt e r (decide (xs.size < ys.size)) (List.range (min xs.size ys.size)))) s) : wpAny (model prog w) A (call (.builtin "tuple.__lt__") [.ref l, .ref b]) Q E s := by
  obtain ⟨⟨c1, d1, t1, s1⟩, ho1, hc1, n1, hd1⟩ := id hl
  obtain ⟨⟨c2, d2, t2, s2⟩, ho2, hc2, n2, hd2⟩ := id hb
  simp only at hc1 hd1 hc2 hd2
  subst hc1 hd1 hc2 hd2
  exact call_meets F.slot_tuple_lt ⟨_, ho1, rfl⟩ F.entry_tuple_lt (F.args_tuple_lt_2 _ _) (SeqAt.tuple_ltAt l b xs ys n1 n2 d1 d2 s1 s2 e r) ⟨ho1, ho2, he, hr, h⟩
theorem one_tuple {xs ys : List PyData} {a b : Value} {as bs : List Addr} {Q : Bool → Shared → Prop} (ra : Reads s.heap a (.tuple xs) as) (rb : Reads s.heap b (.tuple ys) bs) (h : alike (.tuple xs) (.tuple ys) = true)
    (hu : A.units + min (PyData.tuple xs).depth (PyData.tuple ys).depth < cLine) (hq : Q (dataLt (.tuple xs) (.tuple ys)) s) : wpAny (model prog w) A (oneLt' true a b) Q E s := by
  have hal : alikeAll xs ys = true := by simpa [alike] using h
  cases ra with
  | @tuple l o vs n _ as₁ h1 h2 h3 h4 =>
    cases rb with
    | @tuple l' o' vs' n' _ bs₁ k1 k2 k3 k4 =>
      have z1 : vs.size = xs.length := by simpa using SeqAt.ReadsAll.length _ _ _ h4
      have z2 : vs'.size = ys.length := by simpa using SeqAt.ReadsAll.length _ _ _ k4
      rw [dataLt_tuple, ← firstLt_toks xs ys hal, ← z1, ← z2] at hq
      rw [oneLt'_eq]
      simp only [if_true]
      refine wpAny_bind (wpAny_cRoomFor (SeqAt.room_here hu) ?_)
      refine wpAny_bind (wpAny_callSpecialIfBound?_slot (T := "tuple") ⟨_, h1, h2⟩ F.slot_tuple_lt (call_tuple_lt (e := SeqAt.pairEq xs ys) (r := fun j => dataLt (xs.getD j .none) (ys.getD j .none)) ⟨_, h1, h2, _, h3⟩ ⟨_, k1, k2, _, k3⟩ (fun j j1 j2 => ?_) (fun j j1 j2 hj => ?_) (wpAny_truthy_bool hq)))
      · have q := eqAt_alikeAll xs ys A.in1 s vs.toList vs'.toList _ _ h4 k4 hal (SeqAt.room_in hu) j (by simpa using j1) (by simpa using j2)
        simpa using q
      · have q := rcLt_alikeAll xs ys A.in1 s vs.toList vs'.toList _ _ h4 k4 hal (SeqAt.room_in hu) j (by simpa using j1) (by simpa using j2) hj
        simpa using q
theorem mapM_some {α β : Type} {f : α → Sem β} {Ok : α → β → Prop} : ∀ (l : List α) {Q : List β → Shared → Prop}, (∀ v ∈ l, ∀ (Q' : β → Shared → Prop), (∀ r, Ok v r → Q' r s) → wpAny (model prog w) A (f v) Q' E s) → (∀ bs, Paired Ok l bs → Q bs s) → wpAny (model prog w) A (l.mapM f) Q E s
  | [], _, _, h => by rw [List.mapM_nil]; exact wpAny_pure (h [] .nil)
  | x :: l, Q, hf, h => by
    rw [List.mapM_cons]
    refine wpAny_bind (hf x List.mem_cons_self _ fun r hr => ?_)
    exact wpAny_bind (mapM_some l (fun v hv => hf v (List.mem_cons_of_mem _ hv)) fun bs hb => wpAny_pure (h (r :: bs) (.cons hr hb)))
theorem kind_run {v0 v1 : Value} {vs : List Value} {as0 : List Addr} {Q : SortKind → Shared → Prop} (r0 : Reads s.heap v0 (.tuple []) as0) (hT : ∀ v ∈ v1 :: vs, ∃ xs as, Reads s.heap v (.tuple xs) as) (h : Q oneType' s) :
    wpAny (model prog w) A (keyKind' (v0 :: v1 :: vs).toArray) Q E s := by
  have all : ∀ v ∈ v0 :: v1 :: vs, ∃ xs as, Reads s.heap v (.tuple xs) as := fun v hv => by
    rcases List.mem_cons.mp hv with e | hv
    · exact ⟨[], as0, e ▸ r0⟩
    · exact hT v hv
  have looks : ∀ v ∈ v0 :: v1 :: vs, Looks (model prog w) s.heap (typeOf v) (.type "tuple") := fun v hv => (all v hv).elim fun xs z => z.elim fun as r => looks_reads r
  rw [keyKind'_eq, List.mapM_toArray, map_eq_pure_bind]
  refine wpAny_bind (wpAny_bind (mapM_some (Ok := fun v r => v = v0 → r = none) _ (fun v hv Q' hq => ?_) fun bs hb => wpAny_pure ?_))
  · obtain ⟨xs, as, r⟩ := all v hv
    rw [kas_first_eq]
    refine wpAny_bind ((looks v hv).here ?_)
    rw [if_neg (by decide)]
    cases r with
    | @tuple a o us n _ _ h1 h2 h3 h4 =>
      refine wpAny_bind (listItems_at h1 h3 (wpAny_pure (hq _ fun e => ?_)))
      subst e
      cases r0 with
      | tuple k1 k2 k3 k4 =>
        rw [h1] at k1
        cases k1
        rw [h3] at k3
        cases k3
        have e : us.toList = [] := (fun l (r : ReadsAll s.heap l [] _) => (by cases r; rfl : l = [])) _ k4
        rw [← Array.getElem?_toList, e]
        rfl
  · cases hb with
    | @cons _ b0 _ bs h0 hb =>
      have e0 : b0 = none := h0 rfl
      subst e0
      rw [if_neg (by simp), if_neg (by simp)]
      rw [oneTypeOnly'_eq, List.mapM_toArray, map_eq_pure_bind]
      refine wpAny_bind (wpAny_bind (wpAny_bind (kas_mapM (r := Value.type "tuple") _ (fun v hv Q' hq => (looks v hv).here hq) (wpAny_pure ?_))))
      have same : ((List.map (fun _ => Value.type "tuple") (v0 :: v1 :: vs)).toArray.all fun x => x == Value.type "tuple") = true := by
        simp only [List.all_toArray, List.all_map, List.all_eq_true]
        intro _ _
        rfl
      have at0 : (List.map (fun _ => Value.type "tuple") (v0 :: v1 :: vs)).toArray[0]? = some (Value.type "tuple") := by simp
      rw [at0]
      simp only [same, if_true]
      exact wpAny_pure (wpAny_pure h)
theorem sortsAt {vs : List Value} {ds : List PyData} (e : EachIs (fun v d => ∃ as, Reads s.heap v d as) vs (.tuple [] :: ds)) (hal : AllAlike (.tuple [] :: ds)) (tu : ∀ d ∈ ds, ∃ xs, d = .tuple xs) (hu : ∀ d, d ∈ PyData.tuple [] :: ds → A.units + d.depth < cLine) :
    SortsAt prog w A s (dataKind s.heap (.tuple [] :: ds)) vs := by
  have tup : ∀ d ∈ PyData.tuple [] :: ds, ∃ xs, d = .tuple xs := fun d hd => by
    rcases List.mem_cons.mp hd with h | h
    · exact ⟨[], h⟩
    · exact tu d h
  refine ⟨fun v hv => ?_, oneType', ?_, fun h2 E Q hq => ?_⟩
  · obtain ⟨d, hd, as, r⟩ := e.left v hv
    exact ⟨_, dataKind_some hal hd r⟩
  · intro E x y a b Q ha hb hq
    obtain ⟨d, as, hd, ra, rfl⟩ := dataKind_inv ha
    obtain ⟨d', as', hd', rb, rfl⟩ := dataKind_inv hb
    obtain ⟨xs, rfl⟩ := tup d hd
    obtain ⟨ys, rfl⟩ := tup d' hd'
    rw [keyLt'_oneType]
    exact one_tuple ra rb (hal _ hd _ hd') (Nat.lt_of_le_of_lt (Nat.add_le_add_left (Nat.min_le_left _ _) _) (hu _ hd)) hq
  · cases e with
    | @cons v0 _ vs _ h0 t =>
      obtain ⟨as0, r0⟩ := h0
      cases vs with
      | nil => exact absurd h2 (by simp)
      | cons v1 vs =>
        refine kind_run r0 (fun v hv => ?_) hq
        obtain ⟨d, hd, as, r⟩ := t.left v hv
        obtain ⟨xs, rfl⟩ := tu d hd
        exact ⟨xs, as, r⟩
end
end SE
/-! ### sorted(x), x a list or a tuple -/
section
variable {prog : Program} {w : World} {A : Around} {E : Value → Shared → Prop} {s : Shared}
theorem each_vals {K : PySem.W.Frag} {C : Cl} {H : Hp} : ∀ {vs : List V} {us : List Value} {ds : List D}, Vals vs us → Reps K C H vs ds → PySem.W.EachIs (fun (u : Value) (b : V × D) => RelV b.1 u) us (vs.zip ds)
  | _, _, _, .nil, .nil => .nil
  | _, _, _, .cons r t, .cons _ t' => .cons r (each_vals t t')
theorem vals_each : ∀ {us : List Value} {bs : List (V × D)}, PySem.W.EachIs (fun (u : Value) (b : V × D) => RelV b.1 u) us bs → Vals (bs.map (·.1)) us
  | _, _, .nil => .nil
  | _, _, .cons r t => .cons r (vals_each t)
theorem reps_zip {K : PySem.W.Frag} {C : Cl} {H : Hp} : ∀ {vs : List V} {ds : List D}, Reps K C H vs ds → ∀ b ∈ vs.zip ds, Rep K C H b.1 b.2
  | _, _, .nil => by simp
  | _, _, .cons x t => by
    intro b hb
    rcases List.mem_cons.mp hb with rfl | hb
    · exact x
    · exact reps_zip t b hb
theorem reps_of {K : PySem.W.Frag} {C : Cl} {H : Hp} : ∀ {bs : List (V × D)}, (∀ b ∈ bs, Rep K C H b.1 b.2) → Reps K C H (bs.map (·.1)) (bs.map (·.2))
  | [], _ => .nil
  | b :: bs, h => .cons (h b List.mem_cons_self) (reps_of fun c hc => h c (List.mem_cons_of_mem _ hc))
theorem zip_snd {α β : Type} : ∀ {vs : List α} {ds : List β}, vs.length = ds.length → (vs.zip ds).map (·.2) = ds
  | [], [], _ => rfl
  | v :: vs, d :: ds, h => congrArg (d :: ·) (zip_snd (Nat.succ.inj h))
  | [], _ :: _, h => by cases h
  | _ :: _, [], h => by cases h
open PySem.W (alike alikeAll) in
mutual
theorem reads_lt {h : Heap} : ∀ (d : PyData) (v : Value) (as : List Addr), alike d d = true → Reads h v d as → ∀ a ∈ as, a < h.objs.size
  | .none, _, _, _, r, a, ha => by cases r; cases ha
  | .bool _, _, _, _, r, a, ha => by cases r; cases ha
  | .int _, _, _, _, r, a, ha => by cases r; cases ha
  | .str _, _, _, _, r, a, ha => by cases r; cases ha
  | .list xs, _, _, hal, r, a, ha => by
    cases r with
    | list h1 h2 h3 h4 =>
      rcases List.mem_cons.mp ha with rfl | ha
      · exact Heap.lt_size h1
      · exact readsAll_lt xs _ _ (by simpa [alike] using hal) h4 a ha
  | .tuple xs, _, _, hal, r, a, ha => by
    cases r with
    | tuple h1 h2 h3 h4 => exact readsAll_lt xs _ _ (by simpa [alike] using hal) h4 a ha
  | .dict _, _, _, hal, _, _, _ => absurd hal (by simp [alike])
theorem readsAll_lt {h : Heap} : ∀ (ds : List PyData) (vs : List Value) (as : List Addr), alikeAll ds ds = true → ReadsAll h vs ds as → ∀ a ∈ as, a < h.objs.size
  | [], _, _, _, r, a, ha => by cases r; cases ha
  | d :: ds, _, _, hal, r, a, ha => by
    cases r with
    | cons h1 h2 =>
      rcases List.mem_append.mp ha with ha | ha
      · exact reads_lt d _ _ (PySem.W.alike_all_cons hal).1 h1 a ha
      · exact readsAll_lt ds _ _ (PySem.W.alike_all_cons hal).2 h2 a ha
end
/-- what collect gives for a list or a tuple, and that the heap only grows -/
theorem collect_grows {Q : List Value → Shared → Prop} {it : Addr} {T : String} {o : Obj} {xs : Array Value} {n : Nat} (hT : T = "list" ∨ T = "tuple") (ho : s.heap.get? it = some o) (hc : o.cls = .type T) (hd : o.data = .seq xs n) (hz : xs.size ≤ sizeLine)
    (q : ∀ h', s.heap.objs.size ≤ h'.objs.size → (∀ b o', s.heap.get? b = some o' → h'.get? b = some o') → Q xs.toList { s with heap := h' }) : wpAny (model prog w) A (collect (.ref it)) Q E s := by
  let hN : Heap := s.heap.push { cls := .type "list", data := .seq ([] : List Value).toArray }
  let hE : Heap := hN.update s.heap.objs.size (Obj.mapSeq (· ++ xs))
  have at0 : hN.get? s.heap.objs.size = some { cls := .type "list", data := .seq #[] 0 } := Heap.get?_push_size _ rfl
  have at1 := Heap.get?_update_self (Obj.mapSeq (· ++ xs)) at0 rfl
  have kept : ∀ b o', s.heap.get? b = some o' → hE.get? b = some o' := fun b o' e => (Heap.get?_update_other _ _ (Nat.ne_of_gt (Heap.lt_size e))).trans (Heap.get?_push_of_some _ e)
  have size : s.heap.objs.size ≤ hE.objs.size := by
    show _ ≤ (hN.update _ _).objs.size
    rw [Heap.size_update]
    show _ ≤ (s.heap.push _).objs.size
    rw [size_push']
    exact Nat.le_succ _
  have last : wpAny (model prog w) A (do match (← load s.heap.objs.size).data with | Data.seq ys _ => pure ys.toList | _ => unsupported "internal:collect") Q E { s with heap := hE } := by
    refine wpAny_bind (wpAny_load at1 (wpAny_pure ?_))
    have e : ((#[] : Array Value) ++ xs).toList = xs.toList := by simp
    show Q ((#[] : Array Value) ++ xs).toList { s with heap := hE }
    exact e ▸ q hE size kept
  unfold collect
  refine wpAny_bind (wpAny_runValue (codeAny_builtin F.entry_proto_collect ?_))
  rw [Around.under_plainId F.plain_proto_collect]
  show wpAny _ A.in1 (newList [] >>= fun l => again (.builtin "list.__iadd__" ⟨[l, .ref it], []⟩)) _ _ s
  refine wpAny_bind (wpAny_newObj_type (wpAny_pure ⟨plainId_quiet F.plain_list_iadd _, codeAny_builtin F.entry_list_iadd ?_⟩))
  rw [Around.under_plainId F.plain_list_iadd]
  refine wpAny_mono (wpAny_extend_seq (hsz := hz) (A := A) (R := fun r s' => r = .ok (.ret (.ref s.heap.objs.size)) ∧ s' = { s with heap := hE }) (s := { s with heap := hN }) _ it _ 0 hT at0 (Heap.get?_push_of_some _ ho) hc hd ⟨rfl, rfl⟩) (fun fin s' g => ?_) fun _ _ g => absurd g.1 (by simp)
  cases fin with
  | done f =>
    obtain ⟨e1, e2⟩ := g
    cases e1
    exact e2 ▸ last
  | again c => exact ⟨g.1, codeAny_mono g.2 fun r s2 hr => by
      obtain ⟨e1, e2⟩ := hr
      subst e1
      subst e2
      exact last⟩
/-- sorted, whatever is walked -/
theorem sorted_from {x : Value} {vs : List Value} {β : Type} {bs : List β} {enc : β → PyData} {R : Value → β → Prop} {Q : Value → Shared → Prop} (hx : argsOk "sorted" ⟨[x], []⟩)
    (col : ∀ (A' : Around) (E' : Value → Shared → Prop) (Q' : List Value → Shared → Prop), (∀ h', s.heap.objs.size ≤ h'.objs.size → (∀ b o, s.heap.get? b = some o → h'.get? b = some o) → Q' vs { s with heap := h' }) → wpAny (model prog w) A' (collect x) Q' E' s)
    (e : PySem.W.EachIs R vs bs) (er : PySem.W.EachIs (fun v b => ∃ as, Reads s.heap v (enc b) as) vs bs) (hal : PySem.W.AllAlike (bs.map enc)) (hS : ∀ (A' : Around) (s' : Shared), A'.units ≤ A.units + 3 → PySem.W.EachIs (fun v d => ∃ as, Reads s'.heap v d as) vs (bs.map enc) → PySem.W.SortsAt prog w A' s' (PySem.W.dataKind s'.heap (bs.map enc)) vs) (hL : bs.length ≤ sizeLine)
    (h : ∀ (a : Addr) (h' : Heap) (out : List Value) (n : Nat), s.heap.objs.size ≤ a → (∀ b o, s.heap.get? b = some o → h'.get? b = some o) → h'.get? a = some (seqObj "list" out.toArray n) → out.length = bs.length → PySem.W.EachIs R out (bs.mergeSort (PySem.W.dataLe false enc)) → Q (.ref a) { s with heap := h' }) :
    wpAny (model prog w) A (call (.builtin "sorted") [x]) Q E s := by
  have lv : vs.length = bs.length := e.length
  refine Calls.call_function_entry kind_sorted plain_sorted entry_sorted hx ?_
  unfold Builtin.«sorted»
  refine wpAny_bind (m := checkCount "sorted" 1 1 _) (wpAny_pure ?_)
  refine wpAny_bind (col _ _ _ fun h1 sz k1 => ?_)
  refine wpAny_bind (wpAny_newList ?_ (by rw [lv]; exact hL))
  have ho : (h1.push { cls := .type "list", data := .seq vs.toArray }).get? h1.objs.size = some (seqObj "list" vs.toArray 0) := Heap.get?_push_size _ rfl
  have k2 : ∀ b o, s.heap.get? b = some o → (h1.push { cls := .type "list", data := .seq vs.toArray }).get? b = some o := fun b o q => Heap.get?_push_of_some _ (k1 b o q)
  have er2 : PySem.W.EachIs (fun v b => ∃ as, Reads (h1.push { cls := .type "list", data := .seq vs.toArray }) v (enc b) as ∧ h1.objs.size ∉ as) vs bs :=
    (PySem.W.each_mem er).mono fun v b ⟨⟨as, r⟩, hb⟩ => ⟨as, PyProof.Rows.Reads.keeps k2 r, fun m => Nat.lt_irrefl _ (Nat.lt_of_lt_of_le (reads_lt _ _ _ (hal _ (List.mem_map.mpr ⟨b, hb, rfl⟩) _ (List.mem_map.mpr ⟨b, hb, rfl⟩)) r _ m) sz)⟩
  have er3 : PySem.W.EachIs (fun v b => ∃ as, Reads (PySem.W.sortingHeap (h1.push { cls := .type "list", data := .seq vs.toArray }) h1.objs.size vs) v (enc b) as) vs bs :=
    PySem.W.each_keepBut (h' := PySem.W.sortingHeap (h1.push { cls := .type "list", data := .seq vs.toArray }) h1.objs.size vs) (fun _ _ hb q => PySem.W.sortingHeap_old hb q) (fun o q => by rw [ho] at q; rw [← Option.some.inj q]) hal er2
  have last : ∀ out : List Value, out.length = bs.length → PySem.W.EachIs R out (bs.mergeSort (PySem.W.dataLe false enc)) → Q (.ref h1.objs.size) { s with heap := sortedHeap (h1.push { cls := .type "list", data := .seq vs.toArray }) h1.objs.size vs out.toArray } := ?_
  · refine wpAny_bind (wpAny_holding (PySem.wpAny_call_entry slot_list_sort ⟨_, ho, rfl⟩ entry_list_sort (PySem.W.list_sort_vals (κ := PySem.W.dataKind (PySem.W.sortingHeap (h1.push { cls := .type "list", data := .seq vs.toArray }) h1.objs.size vs) (bs.map enc)) ho
      (hS _ { s with heap := PySem.W.sortingHeap (h1.push { cls := .type "list", data := .seq vs.toArray }) h1.objs.size vs } (by simp only [Around.in1_units]; omega) (PySem.W.each_map (R := fun v d => ∃ as, Reads (PySem.W.sortingHeap (h1.push { cls := .type "list", data := .seq vs.toArray }) h1.objs.size vs) v d as) enc er3)) (by rw [lv]; exact hL) ⟨.none, rfl, ?_⟩) (args_list_sort _)))
    exact wpAny_pure ⟨_, rfl, last _ (by rw [PySem.W.sortVals_length false rfl]; exact lv) (PySem.W.sortVals_data false e er3 hal)⟩
  intro out lo eo
  obtain ⟨n, hn⟩ := sortedHeap_at (out := out.toArray) ho
  refine h _ _ out n sz (fun b o q => ?_) hn lo eo
  have hb : b < s.heap.objs.size := Heap.lt_size q
  rw [sortedHeap_old (Nat.ne_of_lt (Nat.lt_of_lt_of_le hb sz)) (by rw [size_push']; exact Nat.lt_succ_of_lt (Nat.lt_of_lt_of_le hb sz))]
  exact k2 b o q
end
section
variable {X : Cx} {C : Cl}
def encP (b : V × D) : PyData := b.2.py
abbrev zsort (vs : List V) (ds : List D) : List (V × D) := (vs.zip ds).mergeSort (PySem.W.dataLe false encP)
def rSortD (K : PySem.W.Frag) (C : Cl) : List V → Hp → VK → Prop := fun vs H Q => ∃ p xs ds, vs = [.ref p] ∧ (SqL K H p xs ∨ SqT K H p xs) ∧ Reps K C H xs ds ∧ sortable ds = true ∧
  ∀ a, H a = none → Q (.ref a) (upd H a (.lst ((zsort xs ds).map (·.1))))
theorem each_reads {pins : List (Addr × Obj)} {s : Shared} {σ : L2.St} {H : Hp} (I : L2.Inv X pins σ H s) : ∀ {vs : List V} {us : List Value} {ds : List D}, Vals vs us → Reps X.K C H vs ds → (∀ d ∈ ds, d.isPy = true) → PySem.W.EachIs (fun u b => ∃ as, Reads s.heap u (encP b) as) us (vs.zip ds)
  | _, _, _, .nil, .nil, _ => .nil
  | _, _, _, .cons r t, .cons x t', h => .cons (Dp.reads I _ _ _ (Rep.dp _ _ x (h _ List.mem_cons_self)) r) (each_reads I t t' fun d hd => h d (List.mem_cons_of_mem _ hd))
theorem zip_enc : ∀ {vs : List V} {ds : List D}, vs.length = ds.length → (vs.zip ds).map encP = ds.map D.py := fun {vs ds} h => by
  have : (vs.zip ds).map encP = ((vs.zip ds).map (·.2)).map D.py := by rw [List.map_map]; rfl
  rw [this, zip_snd h]
theorem zsort_snd {vs : List V} {ds : List D} (h : vs.length = ds.length) : (zsort vs ds).map (·.2) = sortD ds := by
  have e := List.map_mergeSort (r := PySem.W.dataLe false encP) (s := leD) (f := fun b : V × D => b.2) (l := vs.zip ds) fun a _ b _ => rfl
  rw [zip_snd h] at e
  rw [sortD_eq]
  exact e
theorem py_depth {ds : List D} (h : cmpAll ds = true) {d : D} (hd : d ∈ ds) : d.isPy = true ∧ d.py.depth ≤ 50 := by
  have := List.all_eq_true.mp h d hd
  rw [Bool.and_eq_true, Bool.and_eq_true] at this
  exact ⟨this.1.1, of_decide_eq_true this.1.2⟩
theorem cr_sortD (hu : X.A.units + 64 < cLine) : CallR X (.builtin "sorted") (rSortD X.K C) := by
  intro pins s σ H vs us Q I r h
  obtain ⟨p, xs, ds, rfl, sq, rs, so, q⟩ := h
  unfold sortable at so
  rw [Bool.and_eq_true] at so
  obtain ⟨cm, so⟩ := so
  rw [Vals.ref1 r]
  have ln := rs.length
  have col : ∃ its : List Value, Vals xs its ∧ xs.length ≤ sizeLine ∧ ∀ (A' : Around) (E' : Value → Shared → Prop) (Q' : List Value → Shared → Prop), (∀ h', s.heap.objs.size ≤ h'.objs.size → (∀ b o, s.heap.get? b = some o → h'.get? b = some o) → Q' its { s with heap := h' }) → wpAny (model X.prog X.w) A' (collect (.ref p)) Q' E' s := by
    rcases sq with sq | sq
    · obtain ⟨its, rv, pl, z⟩ := I.list sq
      obtain ⟨o, ho, hc, n, hd⟩ := pl.isList
      exact ⟨its, rv, z, fun A' E' Q' qq => collect_grows (.inl rfl) ho hc hd (by rw [List.size_toArray, ← rv.length]; exact z) fun h' a b => qq h' a b⟩
    · obtain ⟨its, rv, ⟨o, ho, hc, n, hd⟩, z⟩ := I.tuple sq
      exact ⟨its, rv, z, fun A' E' Q' qq => collect_grows (.inr rfl) ho hc hd (by rw [List.size_toArray, ← rv.length]; exact z) fun h' a b => qq h' a b⟩
  obtain ⟨its, rv, z, col⟩ := col
  have al : PySem.W.AllAlike ((xs.zip ds).map encP) := by rw [zip_enc ln]; exact all_alike cm
  have sb : ∀ (A' : Around) (s' : Shared) (vs : List Value), A'.units ≤ X.A.units + 3 → PySem.W.EachIs (fun v d => ∃ as, Reads s'.heap v d as) vs ((xs.zip ds).map encP) → PySem.W.SortsAt X.prog X.w A' s' (PySem.W.dataKind s'.heap ((xs.zip ds).map encP)) vs := by
    rw [zip_enc ln] at al ⊢
    intro A' s' vs ua ea
    have dep : ∀ d, d ∈ ds.map D.py → A'.units + d.depth < cLine := fun d hd => by
      obtain ⟨b, hb, rfl⟩ := List.mem_map.mp hd
      have := (py_depth cm hb).2
      omega
    rw [Bool.or_eq_true] at so
    rcases so with so | so
    · exact PySem.W.SortsAt.data ea al (all_sortable so) dep
    · rw [Bool.and_eq_true] at so
      cases ds with
      | nil => cases so.1
      | cons d0 ds =>
        have e0 : d0 = .tup [] := by
          have := so.1
          unfold emp1 at this
          split at this
          · rename_i e; cases e; rfl
          · cases this
        subst e0
        refine SE.sortsAt ea al (fun d hd => ?_) dep
        obtain ⟨b, hb, rfl⟩ := List.mem_map.mp hd
        have := List.all_eq_true.mp so.2 b (List.mem_cons_of_mem _ hb)
        cases b with
        | tup l => exact ⟨_, rfl⟩
        | _ => cases this
  have lz : (xs.zip ds).length = xs.length := by rw [List.length_zip, ← ln, Nat.min_self]
  refine sorted_from (args_sorted1 _) col (each_vals rv rs) (each_reads I rv rs fun d hd => (py_depth cm hd).1) al (fun A' s' => sb A' s' _) (by rw [lz]; exact z) fun a h' out n ha k hn lo eo => ?_
  · have vo := vals_each eo
    have lm : ((zsort xs ds).map (·.1)).length ≤ sizeLine := by
      rw [List.length_map, List.length_mergeSort, lz]
      exact z
    exact ⟨.ref a, upd H a (.lst ((zsort xs ds).map (·.1))), I.laid (t' := s.toks) k ha ⟨lm, out, n, vo, hn⟩, rfl, q a (I.hok.fresh ha)⟩
def gSortD : List RV → DE := fun rs ρ => match rs with
  | [r] => match r.items ρ with
    | some l => if sortable l = true then some (.ok (.own (.lst (sortD l))) ρ) else none
    | none => none
  | _ => none
theorem o_sortD {K : PySem.W.Frag} : OpL K C (rSortD K C) gSortD := by
  intro B W z ρ σ F H vs rs Q p q g
  unfold gSortD at g
  split at g
  · cases q with
    | cons q1 qt _ =>
    cases qt
    split at g
    · rename_i l e
      split at g
      · rename_i so
        obtain ⟨a, ws, rfl, s, rz⟩ := q1.items p.st e
        refine ⟨a, ws, l, rfl, s, rz.to p.st.sub, so, fun b n => Goal.newL g p n ?_⟩
        have h := reps_of (K := K) (C := C) (H := F) (bs := zsort ws l) fun b hb => reps_zip rz b (List.mem_mergeSort.mp hb)
        rw [zsort_snd rz.length] at h
        exact h
      · exact False.elim g
    · exact False.elim g
  · exact False.elim g
end
end Pl
set_option Elab.async false
set_option linter.all false
set_option maxRecDepth 100000
set_option maxHeartbeats 4000000
/-! name += e; list(range(n)), tuple(range(n)); < of numbers, texts and tuples of numbers. -/
namespace Pl
open PySem PySem.Spec PyProof.Rows L2 Tk
def sAug (i : Nat) (f : DE) : DS := fun ρ => match ρ[i]? with
  | some (some (.dat (.int n))) => bindS f (fun r ρ' => match r.see ρ' with
    | some (.int m) => some (.nx (ρ'.set i (some (.dat (.int (n + m))))))
    | _ => none) ρ
  | _ => none
def dListRg (f : DE) : DE := bindE f (fun r ρ => match r.see ρ with
  | some (.int n) => if n.natAbs ≤ 1000 then some (.ok (.own (.lst (rangeL 0 n.toNat))) ρ) else none
  | _ => none)
def dTupRg (f : DE) : DE := bindE f (fun r ρ => match r.see ρ with
  | some (.int n) => if n.natAbs ≤ 1000 then some (.ok (.dat (.tup (rangeL 0 n.toNat))) ρ) else none
  | _ => none)
def intsD : List D → Option (List Int)
  | [] => some []
  | .int i :: r => (intsD r).map fun l => i :: l
  | _ => none
def hLtD : D → D → Option D
  | .int i, .int j => some (.bl (decide (i < j)))
  | .str i, .str j => some (.bl (decide (i.cps.toList < j.cps.toList)))
  | .tup xs, .tup ys => match intsD xs, intsD ys with
    | some ns, some ms => some (.bl (HT.lexLt ns ms))
    | _, _ => none
  | _, _ => none
abbrev gLtD := lift2 hLtD
section
variable {X : Cx} {C : Cl} {B : Bw} {W : WX} {e : Expr} {f : DE} {pos pos' p p' : Pos}
theorem pds_aug {i : Nat} {x : Str} (hN : X.N.Nodup) (hi : X.N[i]? = some x) (hx : Loc X.env.scope x) (he : PD X C B W e f) (hf : X.fn x = true ∨ X.env.scope.names.lookup x = some .local := by first | exact .inl rfl | exact .inr rfl | assumption) :
    PDS X C B W (.AugAssign (.Name x pos') .Add e pos) (sAug i f) := PS.conv (ps_aug hN hi hx he ip_add hf) fun E σ H ⟨ρ, F, st, q⟩ => by
  unfold sAug at q
  split at q
  · rename_i n e
    obtain ⟨v, e1, r⟩ := st.dat i _ e
    cases r
    refine ⟨_, e1, tS_bind (k1 := kR X.K C) (Post.start st) q fun r1 ρ1 v F1 H1 q1 p1 rv => ?_⟩
    try dsimp only at q1
    split at q1
    · rename_i m em
      rw [(RepRV.see rv p1.st em).int_inv]
      exact ⟨n, m, rfl, rfl, q1 _ F1 H1 (p1.setD (.int _))⟩
    · exact False.elim q1
  · exact False.elim q
theorem reps_rg {K : PySem.W.Frag} {F : Hp} (n : Int) : Reps K C F (rgV 0 n) (rangeL 0 n.toNat) := by
  unfold rgV rangeL
  rw [Int.sub_zero]
  generalize List.range n.toNat = l
  induction l with
  | nil => exact .nil
  | cons i l ih => exact .cons (.int _) ih
theorem pd_listRg (hc : X.calm = true) (hg : Gl X "list") (hm : X.mg "list" = none) (hg' : Gl X "range") (hm' : X.mg "range" = none) (h : PD X C B W e f) (na' : starEach [e] X.env = (false, eval e X.env) :: starEach [] X.env := by rfl)
    (na : starEach [.Call (.Name "range" p') [e] [] pos'] X.env = (false, eval (.Call (.Name "range" p') [e] [] pos') X.env) :: starEach [] X.env := by rfl) : PD X C B W (.Call (.Name "list" p) [.Call (.Name "range" p') [e] [] pos'] [] pos) (dListRg f) :=
  PE.conv (pe_listRg hc hg hm (prg_1 hg' hm' h na') na) fun σ H Q ⟨ρ, F, st, g⟩ => tG_bind (k1 := kR X.K C) (Post.start st) g fun r1 ρ1 v F1 H1 g1 p1 _ q1 => by
    try dsimp only at g1
    split at g1
    · rename_i n e
      split at g1
      · rename_i c
        exact ⟨n, (RepRV.see q1 p1.st e).int_inv, ⟨by omega, by omega, by omega, by omega, by omega⟩, fun q hq => Goal.newL g1 p1 hq (reps_rg n)⟩
      · exact False.elim g1
    · exact False.elim g1
theorem pd_tupRg (hc : X.calm = true) (hg : Gl X "tuple") (hm : X.mg "tuple" = none) (hg' : Gl X "range") (hm' : X.mg "range" = none) (h : PD X C B W e f) (na' : starEach [e] X.env = (false, eval e X.env) :: starEach [] X.env := by rfl)
    (na : starEach [.Call (.Name "range" p') [e] [] pos'] X.env = (false, eval (.Call (.Name "range" p') [e] [] pos') X.env) :: starEach [] X.env := by rfl) : PD X C B W (.Call (.Name "tuple" p) [.Call (.Name "range" p') [e] [] pos'] [] pos) (dTupRg f) :=
  PE.conv (pe_tupRg hc hg hm (prg_1 hg' hm' h na') na) fun σ H Q ⟨ρ, F, st, g⟩ => tG_bind (k1 := kR X.K C) (Post.start st) g fun r1 ρ1 v F1 H1 g1 p1 _ q1 => by
    try dsimp only at g1
    split at g1
    · rename_i n e
      split at g1
      · rename_i c
        exact ⟨n, (RepRV.see q1 p1.st e).int_inv, ⟨by omega, by omega, by omega, by omega, by omega⟩, fun q hq => Goal.newT g1 p1 hq (reps_rg n)⟩
      · exact False.elim g1
    · exact False.elim g1
/-! ### < -/
theorem ints_reps {K : PySem.W.Frag} {F : Hp} : ∀ {vs : List V} {ds : List D} {ns : List Int}, Reps K C F vs ds → intsD ds = some ns → vs = ns.map V.int
  | _, _, _, .nil, e => by cases e; rfl
  | _, _, _, .cons (ds := ds) (d := d) x r, e => by
    cases x <;> first | (cases e; done) | skip
    unfold intsD at e
    cases h : intsD ds with
    | none => rw [h] at e; cases e
    | some l =>
      rw [h] at e
      cases e
      rw [ints_reps r h]
      rfl
def rLtX (K : PySem.W.Frag) : R2 := fun x y H Q => rI0 (fun i j => .bl (decide (i < j))) x y H Q ∨ (∃ i j, x = .str i ∧ y = .str j ∧ Q (.bl (decide (i.cps.toList < j.cps.toList))) H) ∨ rLtT K x y H Q
theorem op_ltX (hu : X.A.units + 64 < cLine) : OpR X (compareOp .Lt) (rLtX X.K) := op_lt.or (op_lt_str.or (op_ltT (by omega)))
theorem o_ltX {K : PySem.W.Frag} : Op2 K C (rLtX K) gLtD := Sc2.op (by
  intro H x y a b d Q ra rb e q
  unfold hLtD at e
  split at e
  · cases e
    exact .inl ⟨_, _, ra.int_inv, rb.int_inv, q _ (fun _ => .bl _)⟩
  · cases e
    exact .inr (.inl ⟨_, _, ra.str_inv, rb.str_inv, q _ (fun _ => .bl _)⟩)
  · rename_i xs ys
    split at e
    · rename_i ns ms e1 e2
      cases e
      cases ra with
      | tup s1 r1 =>
      cases rb with
      | tup s2 r2 =>
      rw [ints_reps r1 e1] at s1
      rw [ints_reps r2 e2] at s2
      exact .inr (.inr ⟨_, _, ns, ms, rfl, rfl, s1, s2, q _ (fun _ => .bl _)⟩)
    · cases e
  · cases e)
end
end Pl
set_option Elab.async false
set_option linter.all false
set_option maxRecDepth 100000
set_option maxHeartbeats 4000000
/-! Sets whose members are tuples of texts, numbers and such tuples. -/
namespace Ns
open PySem PySem.Spec PyProof.Rows L2
abbrev Mem := Addr × NestedKey
/-- at x stands the tuple k -/
def TK (h : Heap) (k : NestedKey) (x : Addr) : Prop := NestedIs h k (.ref x) ∧ k.depth ≤ 8
section
variable {P : Program} {w : World} {A : Around} {E : Value → Shared → Prop} {s : Shared}
theorem TK.tup {h : Heap} {k : NestedKey} {x : Addr} (q : TK h k x) : ∃ o vs n ks, k = .tup ks ∧ h.get? x = some o ∧ o.cls = .type "tuple" ∧ o.data = .seq vs n ∧ NestedAll h ks vs.toList := by
  obtain ⟨q, _⟩ := q
  cases q with
  | tup h1 h2 h3 h4 => exact ⟨_, _, _, _, rfl, h1, h2, h3, h4⟩
theorem TK.stays {h h' : Heap} {k : NestedKey} {x : Addr} (q : TK h k x) (kp : ∀ b o, h.get? b = some o → h'.get? b = some o) : TK h' k x := ⟨q.1.at fun b o _ _ e _ => kp b o e, q.2⟩
theorem TK.but {h h' : Heap} {k : NestedKey} {x a : Addr} {o : Obj} {es : Array (Int × Value)} {ep : Nat} {t : SetTable} (q : TK h k x) (ho : h.get? a = some o) (hd : o.data = .set es ep t) (sb : Heap.SameBut a h h') : TK h' k x :=
  ⟨q.1.at fun b ob vs n e ed => by
    by_cases eb : b = a
    · subst eb
      rw [ho] at e
      cases e
      rw [hd] at ed
      cases ed
    · exact (sb.2 b eb).trans e, q.2⟩
theorem hash_run {k : NestedKey} {x : Addr} {Q : Int → Shared → Prop} (q : TK s.heap k x) (hu : A.units + 8 < cLine) (z : Q (k.hash w) { s with toks := s.toks + k.draws }) : wpAny (model P w) A (pyHash (.ref x)) Q E s :=
  pyHash_key k _ A s Q q.1 (by have := q.2; omega) z
theorem eq_run {k k' : NestedKey} {x y : Addr} {Q : Bool → Shared → Prop} (q : TK s.heap k x) (q' : TK s.heap k' y) (hu : A.units + 8 < cLine) (z : Q (decide (k = k')) s) : wpAny (model P w) A (eqBool (.ref x) (.ref y)) Q E s :=
  (nestedKind P w).eqBool hu q q' z
theorem quiet_run {k : NestedKey} {x : Addr} {Q : Bool → Shared → Prop} (q : TK s.heap k x) (z : Q true s) : wpAny (model P w) A (eqIsQuiet 8 (.ref x)) Q E s := (nestedKind P w).quiet q z

/-! ### small questions -/
mutual
/-- no class statement within -/
theorem plain_run : ∀ (k : NestedKey) (v : Value) (n : Nat) (s : Shared), NestedIs s.heap k v → k.depth ≤ n → ∀ (A : Around) (E : Value → Shared → Prop) (Q : Bool → Shared → Prop), Q false s → wpAny (model P w) A (ofAClassStatement n v) Q E s
  | .none, _, n, s, q, _, A, E, Q, z => by cases q; cases n <;> exact wpAny_pure z
  | .num _, _, n, s, q, _, A, E, Q, z => by cases q <;> cases n <;> exact wpAny_pure z
  | .text _, _, n, s, q, _, A, E, Q, z => by cases q; cases n <;> exact wpAny_pure z
  | .tup ks, _, n, s, q, hn, A, E, Q, z => by
    cases q with
    | @tup x o vs m _ h1 h2 h3 h4 =>
      cases n with
      | zero => simp only [NestedKey.depth] at hn; omega
      | succ n =>
        simp only [NestedKey.depth] at hn
        unfold ofAClassStatement
        refine wpAny_bind (wpAny_typeOf ⟨o, h1, h2⟩ ?_)
        have et : (("tuple" : String) == "tuple") = true := by decide
        simp only [et, if_true]
        refine wpAny_bind (wpAny_pure ?_)
        simp only [Bool.not_true, Bool.false_eq_true, if_false]
        try refine wpAny_bind (wpAny_pure ?_)
        show wpAny _ _ (seqItems? (.ref x) >>= _) Q E s
        refine wpAny_bind (wpAny_seqItems h1 h3 ?_)
        dsimp only
        refine wpAny_bind ?_
        show wpAny _ _ (forIn vs _ _) _ E s
        rw [← Array.forIn_toList]
        refine wpAny_forIn_list _ (fun rest r s' => r.1 = none ∧ s' = s ∧ ∀ u ∈ rest, ∀ (A' : Around) (E' : Value → Shared → Prop) (Q' : Bool → Shared → Prop), Q' false s → wpAny (model P w) A' (ofAClassStatement n u) Q' E' s) _ ?_ ?_ _ _ ⟨rfl, rfl, plain_all ks vs.toList n s h4 (by omega)⟩
        · intro u rest r s' ⟨h1, e, all⟩
          subst e
          refine wpAny_bind (all u List.mem_cons_self _ _ _ ?_)
          rw [if_neg Bool.false_ne_true]
          exact wpAny_pure ⟨rfl, rfl, fun y hy => all y (List.mem_cons_of_mem _ hy)⟩
        · intro ⟨r1, r2⟩ s' ⟨g1, e, _⟩
          subst e
          have g1 : r1 = none := g1
          subst g1
          exact wpAny_pure z
theorem plain_all : ∀ (ks : List NestedKey) (vs : List Value) (n : Nat) (s : Shared), NestedAll s.heap ks vs → NestedKey.depthAll ks ≤ n → ∀ u ∈ vs, ∀ (A : Around) (E : Value → Shared → Prop) (Q : Bool → Shared → Prop), Q false s → wpAny (model P w) A (ofAClassStatement n u) Q E s
  | [], _, n, s, q, _, u, hu => by cases q; cases hu
  | k :: ks, _, n, s, q, hn, u, hu => by
    cases q with
    | cons q1 q2 =>
      simp only [NestedKey.depthAll] at hn
      rcases List.mem_cons.mp hu with e | hu
      · rw [e]; exact plain_run k _ n s q1 (by omega)
      · exact plain_all ks _ n s q2 (by omega) u hu
end
/-- whether it is hashed by value: some answer, and nothing changes -/
def HashedSo (P : Program) (w : World) (n : Nat) (s : Shared) (v : Value) : Prop := ∀ (A : Around) (E : Value → Shared → Prop) (Q : Bool → Shared → Prop), (∀ b, Q b s) → wpAny (model P w) A (hashByValue n v) Q E s
mutual
theorem byval_run : ∀ (k : NestedKey) (v : Value) (n : Nat) (s : Shared), NestedIs s.heap k v → HashedSo P w n s v
  | .none, _, n, s, q => fun A E Q z => by cases q; cases n <;> exact wpAny_pure (z _)
  | .num _, _, n, s, q => fun A E Q z => by cases q <;> cases n <;> exact wpAny_pure (z _)
  | .text _, _, n, s, q => fun A E Q z => by cases q; cases n <;> exact wpAny_pure (z _)
  | .tup ks, _, n, s, q => fun A E Q z => by
    cases q with
    | @tup x o vs m _ h1 h2 h3 h4 =>
      cases n with
      | zero => exact wpAny_pure (z _)
      | succ n =>
        have hT : s.TypeIs (.ref x) "tuple" := ⟨o, h1, h2⟩
        unfold hashByValue
        refine wpAny_bind (wpAny_specialOf hT F.slot_tuple_hash.lookup ?_)
        show wpAny _ _ (seqItems? (.ref x) >>= _) Q E s
        refine wpAny_bind (wpAny_seqItems h1 h3 ?_)
        refine wpAny_bind ?_
        show wpAny _ _ (forIn vs _ _) _ E s
        rw [← Array.forIn_toList]
        refine wpAny_forIn_list _ (fun rest r s' => s' = s ∧ ∀ u ∈ rest, HashedSo P w n s u) _ ?_ ?_ _ _ ⟨rfl, byval_all ks vs.toList n s h4⟩
        · intro u rest r s' ⟨e, all⟩
          subst e
          refine wpAny_bind (all u List.mem_cons_self _ _ _ fun b => ?_)
          cases b with
          | true =>
            rw [if_neg (by decide)]
            exact wpAny_pure ⟨rfl, fun y hy => all y (List.mem_cons_of_mem _ hy)⟩
          | false =>
            rw [if_pos (by decide)]
            refine wpAny_pure ?_
            exact wpAny_pure (z false)
        · intro ⟨r1, r2⟩ s' ⟨e, _⟩
          subst e
          cases r1 with
          | none => exact wpAny_pure (z true)
          | some b => exact wpAny_pure (z b)
theorem byval_all : ∀ (ks : List NestedKey) (vs : List Value) (n : Nat) (s : Shared), NestedAll s.heap ks vs → ∀ u ∈ vs, HashedSo P w n s u
  | [], _, n, s, q, u, hu => by cases q; cases hu
  | k :: ks, _, n, s, q, u, hu => by
    cases q with
    | cons q1 q2 =>
      rcases List.mem_cons.mp hu with e | hu
      · rw [e]; exact byval_run k _ n s q1
      · exact byval_all ks _ n s q2 u hu
end
/-- a search among tuples shows nothing -/
theorem seen_run {k : NestedKey} {x : Addr} {Q : Bool → Shared → Prop} (q : TK s.heap k x) {ys : List Value} (hy : ∀ y ∈ ys, ∃ k' c, y = Value.ref c ∧ TK s.heap k' c) (z : Q false s) : wpAny (model P w) A (searchCouldBeSeen (.ref x) ys) Q E s := by
  unfold searchCouldBeSeen
  refine wpAny_bind (wpAny_forIn_list _ (fun rest r s' => r.1 = none ∧ s' = s ∧ ∀ y ∈ rest, ∃ k' c, y = Value.ref c ∧ TK s.heap k' c) _ ?_ ?_ _ _ ⟨rfl, rfl, hy⟩)
  · intro y rest r s' ⟨g1, e, all⟩
    subst e
    obtain ⟨k', c, rfl, qc⟩ := all y List.mem_cons_self
    have more : ∀ u ∈ rest, ∃ k' c, u = Value.ref c ∧ TK s'.heap k' c := fun u hu => all u (List.mem_cons_of_mem _ hu)
    dsimp only
    split
    · exact wpAny_pure ⟨rfl, rfl, more⟩
    · refine wpAny_bind (quiet_run q ?_)
      simp only [Bool.not_true, Bool.false_eq_true, if_false]
      refine wpAny_bind (quiet_run qc ?_)
      simp only [Bool.not_true, Bool.false_eq_true, if_false]
      refine wpAny_bind (plain_run _ _ 8 s' q.1 q.2 _ _ _ ?_)
      simp only [Bool.false_eq_true, if_false]
      refine wpAny_bind (plain_run _ _ 8 s' qc.1 qc.2 _ _ _ ?_)
      simp only [Bool.false_eq_true, if_false]
      exact wpAny_pure ⟨rfl, rfl, more⟩
  · intro ⟨r1, r2⟩ s' ⟨g1, e, _⟩
    subst e
    have g1 : r1 = none := g1
    subst g1
    exact wpAny_pure z

/-! ### the set -/
/-- what the table holds of a member -/
def cellOf (w : World) (p : Mem) : Int × Value := (p.2.hash w, Value.ref p.1)
abbrev hsh (w : World) (p : Mem) : Int := p.2.hash w
structure NSet (w : World) (h : Heap) (a : Addr) (L : List Mem) (es : Array (Int × Value)) (ep : Nat) (t : SetTable) : Prop where
  obj : ∃ o, h.get? a = some o ∧ o.ExactSet ∧ o.data = .set es ep t
  cells : es.toList = L.map (cellOf w)
  tab : TabOk t (L.map (hsh w))
  nd : (L.map (·.2)).Nodup
  keys : ∀ p ∈ L, TK h p.2 p.1
  led : w.params.followText "set-order" = true ∨ t.led = true
  room : L.length * 5 < t.mask * 3
  few : L.length < 64
variable {a : Addr} {L : List Mem} {es : Array (Int × Value)} {ep : Nat} {t : SetTable}
theorem cells_len (c : es.toList = L.map (cellOf w)) : es.size = L.length := by
  have e := congrArg List.length c
  simpa using e
theorem cells_at (c : es.toList = L.map (cellOf w)) {i : Nat} {p : Mem} (e : L[i]? = some p) : es[i]? = some (cellOf w p) := by
  rw [← Array.getElem?_toList, c, List.getElem?_map, e]
  rfl
theorem fits_of {n m : Nat} (h1 : t.place.size = n) (h2 : t.dummies = #[]) (h3 : n ≤ t.mask) (e : n = m) : t.fits m = true := by
  subst e
  unfold SetTable.fits SetTable.fill
  rw [h2, Bool.and_eq_true, beq_iff_eq, decide_eq_true_eq]
  exact ⟨h1, by show t.place.size + 0 ≤ t.mask; omega⟩
theorem NSet.fit (R : NSet w s.heap a L es ep t) : t.fits es.size = true :=
  fits_of (n := L.length) (by rw [R.tab.sz, List.length_map]) R.tab.dm (by have := R.room; omega) (cells_len R.cells).symm
theorem NSet.solid (R : NSet w s.heap a L es ep t) : ¬ t.gaveWay = true := by
  unfold SetTable.gaveWay
  rw [mask_odd R.tab.mok]
  decide
/-- the way of a hash in a table -/
abbrev stp (m : Nat) (h : Int) (c : Nat) : SetTable.Probe := nth m (runAt m (SetTable.bits h % (m + 1)) (SetTable.bits h)) c
theorem stp_j (m : Nat) (h : Int) (c : Nat) : (stp m h c).j = way m h c := rfl
theorem stp_clean (m : Nat) (h : Int) (c : Nat) : (stp m h c).dummy = none := by
  have go : ∀ (n : Nat) (p : SetTable.Probe), p.dummy = none → (nth m p n).dummy = none := by
    intro n
    induction n with
    | zero => exact fun p e => e
    | succ n ih => exact fun p e => ih (adv m p) (by unfold adv; split <;> exact e)
  exact go c _ rfl
theorem stp_on (m : Nat) (h : Int) (c q : Nat) : nth m (stp m h c) q = stp m h (c + q) := (nth_add m c _ q).symm
end
end Ns
set_option Elab.async false
set_option linter.all false
set_option maxRecDepth 100000
set_option maxHeartbeats 4000000
/-! Sets of tuples: searched, added to. -/
namespace Ns
open PySem PySem.Spec PyProof.Rows L2
section
variable {P : Program} {w : World} {A : Around} {E : Value → Shared → Prop} {s : Shared} {a : Addr} {L : List Mem} {es : Array (Int × Value)} {ep : Nat} {t : SetTable}
theorem find_from (R : NSet w s.heap a L es ep t) {x : Addr} {k : NestedKey} (hx : TK s.heap k x) (hu : A.units + 8 < cLine) {H : Int} (eH : H = k.hash w) {K : Nat} (bK : K < 10 * SetTable.turns t.mask) (open_ : way t.mask H K ∉ t.place.toList)
    (full : ∀ c, c < K → way t.mask H c ∈ t.place.toList) {Q : SetFound → Shared → Prop} (yes : k ∈ L.map (·.2) → Q (.there none) s) (no : k ∉ L.map (·.2) → Q (.free (way t.mask H K) false) s) :
    ∀ (f c : Nat) (stand : Option SetTable.Probe), stand.getD (t.probeStart H) = stp t.mask H c → c ≤ K → K - c < f → (∀ (i : Nat) p, L[i]? = some p → p.2 = k → ∃ c', c ≤ c' ∧ c' < K ∧ t.place.toList[i]? = some (way t.mask H c')) →
      wpAny (model P w) A (setSearchFrom a (.ref x) H true f stand) Q E s := by
  obtain ⟨o, ho, hex, hd⟩ := R.obj
  have lenL : t.place.toList.length = L.length := by rw [Array.length_toList, R.tab.sz, List.length_map]
  intro f
  induction f with
  | zero => intro c stand _ _ h; omega
  | succ f ih =>
    intro c stand est cK fuel later
    let hashAt : Nat → Int := fun i => (es[i]?.map (·.1)).getD 0
    have hashes : ∀ (i : Nat) p, L[i]? = some p → hashAt i = p.2.hash w := fun i p e => by
      show (es[i]?.map (·.1)).getD 0 = _
      rw [cells_at R.cells e]
      rfl
    have js : ∀ q, (nth t.mask (stp t.mask H c) q).j = way t.mask H (c + q) := fun q => congrArg SetTable.Probe.j (stp_on t.mask H c q)
    have spec := go_spec t R.tab.ris R.tab.dm hashAt H (10 * SetTable.turns t.mask) (K - c) (stp t.mask H c) (stp_clean _ _ _) (by omega) (fun q hq => by rw [js]; exact full _ (by omega)) (by rw [js, Nat.add_sub_cancel' cK]; exact open_)
    rw [setSearchFrom_succ]
    refine wpAny_bind (wpAny_setState_of ho hd R.fit ?_)
    dsimp only
    refine wp_if_neg R.solid ?_
    try refine wpAny_bind (wpAny_pure ?_)
    rcases spec with ⟨q, i, hq, hi, hh, passed, pr⟩ | ⟨passed, pr⟩
    · have pr2 : t.probe hashAt H (stand.getD (t.probeStart H)) = some (.candidate (way t.mask H (c + q)) i (stp t.mask H (c + (q + 1)))) := by
        rw [est, ← js, ← stp_on]
        exact pr
      rw [js] at hi
      have il : i < L.length := by rw [← lenL]; exact (List.getElem?_eq_some_iff.mp hi).1
      obtain ⟨p, ep_⟩ : ∃ p, L[i]? = some p := ⟨_, List.getElem?_eq_getElem il⟩
      have pm : p ∈ L := List.mem_of_getElem? ep_
      have body : wpAny (model P w) A (searchRest a (.ref x) H true f es t (way t.mask H (c + q)) i (stp t.mask H (c + (q + 1)))) Q E s := by
        unfold searchRest
        rw [cells_at R.cells ep_]
        dsimp only [cellOf]
        refine wpAny_bind (wpAny_holding (eq_run (R.keys p pm) hx hu ?_))
        refine wpAny_bind (wpAny_setState_of ho hd R.fit ?_)
        dsimp only
        by_cases ek : p.2 = k
        · refine wp_if_pos (by simp [ek]) ?_
          exact wpAny_pure (yes (List.mem_map.mpr ⟨p, pm, ek⟩))
        · refine wp_if_neg (by simp [ek]) ?_
          try refine wpAny_bind (wpAny_pure ?_)
          rw [sameMem]
          dsimp only
          have live : t.slot (way t.mask H (c + q)) = .live i := slot_live R.tab.ris hi
          simp only [if_true, live, cells_at R.cells ep_, cellOf]
          refine wpAny_bind (wpAny_isSame_ref_self (wpAny_bind (wpAny_pure ?_)))
          simp only [if_true]
          refine wp_if_neg (by simp [ek]) ?_
          refine ih (c + (q + 1)) _ rfl (by omega) (by omega) fun j p' ej ek' => ?_
          obtain ⟨c', l1, l2, l3⟩ := later j p' ej ek'
          refine ⟨c', ?_, l2, l3⟩
          by_cases z : c' < c + q
          · refine absurd ((hashes j p' ej).trans (by rw [ek', eH])) (passed (c' - c) j (by omega) ?_)
            rw [js, Nat.add_sub_cancel' l1]
            exact l3
          · by_cases y : c' = c + q
            · subst y
              have e2 := (slot_live R.tab.ris l3).symm.trans live
              injection e2 with e2
              subst e2
              rw [ep_] at ej
              cases ej
              exact absurd ek' ek
            · omega
      rw [pr2]
      dsimp only
      by_cases ld : t.led = true
      · refine wp_if_neg (by simp [ld]) ?_
        try refine wpAny_bind (wpAny_pure ?_)
        exact body
      · refine wp_if_pos (by simp [ld]) (wpAny_bind (seen_run hx (fun y hy => ?_) ?_))
        · obtain ⟨e, me, ey⟩ := List.mem_map.mp hy
          have me1 : e ∈ es ∧ e.1 = H := by simpa using me
          have me2 : e ∈ es.toList := by simpa using me1.1
          rw [R.cells] at me2
          obtain ⟨p2, mp2, e2⟩ := List.mem_map.mp me2
          exact ⟨p2.2, p2.1, by rw [← ey, ← e2]; rfl, R.keys p2 mp2⟩
        · refine wp_if_neg (by decide) ?_
          try refine wpAny_bind (wpAny_pure ?_)
          exact body
    · have pr2 : t.probe hashAt H (stand.getD (t.probeStart H)) = some (.empty (way t.mask H K) none) := by
        have e2 : way t.mask H K = (nth t.mask (stp t.mask H c) (K - c)).j := by rw [js, Nat.add_sub_cancel' cK]
        rw [est, e2]
        exact pr
      rw [pr2]
      dsimp only
      refine wpAny_pure (no fun m => ?_)
      obtain ⟨p, pm, ek⟩ := List.mem_map.mp m
      obtain ⟨j, ej⟩ := List.mem_iff_getElem?.mp pm
      obtain ⟨c', l1, l2, l3⟩ := later j p ej ek
      refine passed (c' - c) j (by omega) (by rw [js, Nat.add_sub_cancel' l1]; exact l3) ((hashes j p ej).trans (by rw [ek, eH]))
/-- the search as adding asks for it -/
theorem find_at (R : NSet w s.heap a L es ep t) {x : Addr} {k : NestedKey} (hx : TK s.heap k x) (hu : A.units + 8 < cLine) {Q : SetFound → Shared → Prop} (yes : k ∈ L.map (·.2) → Q (.there none) s)
    (no : ∀ K, k ∉ L.map (·.2) → way t.mask (k.hash w) K ∉ t.place.toList → (∀ c, c < K → way t.mask (k.hash w) c ∈ t.place.toList) → Q (.free (way t.mask (k.hash w) K) false) s) :
    wpAny (model P w) A (setSearch a (.ref x) (k.hash w) true) Q E s := by
  obtain ⟨K, k1, k2, k3⟩ := R.tab.first (by rw [List.length_map]; have := R.room; omega) (k.hash w)
  have big : 10 * SetTable.turns t.mask ≤ 1420 := by
    unfold SetTable.turns
    rcases R.tab.mok with e | e | e <;> rw [e] <;> decide
  have lenL : t.place.toList.length = L.length := by rw [Array.length_toList, R.tab.sz, List.length_map]
  unfold setSearch
  refine find_from R hx hu rfl k1 k2 k3 yes (fun n => no K n k2 k3) 100000 0 none rfl (Nat.zero_le _) (by omega) fun i p e ek => ?_
  have e1 : (L.map (hsh w))[i]? = some (k.hash w) := by rw [List.getElem?_map, e, ← ek]; rfl
  have il : i < t.place.toList.length := by rw [lenL]; exact (List.getElem?_eq_some_iff.mp e).1
  obtain ⟨c, hc, ec⟩ := R.tab.before k2 e1 (List.getElem?_eq_getElem il)
  exact ⟨c, Nat.zero_le _, hc, by rw [ec]; exact List.getElem?_eq_getElem il⟩
end
end Ns
set_option Elab.async false
set_option linter.all false
set_option maxRecDepth 100000
set_option maxHeartbeats 4000000
/-! Sets of tuples: a table laid anew, one more member. -/
namespace Ns
open PySem PySem.Spec PyProof.Rows L2
section
variable {P : Program} {w : World} {A : Around} {E : Value → Shared → Prop} {s : Shared} {a : Addr} {L : List Mem} {es : Array (Int × Value)} {ep : Nat} {t : SetTable}
theorem picked (L : List Mem) (es : Array (Int × Value)) (c : es.toList = L.map (cellOf w)) : ∀ l : List Nat, (∀ i ∈ l, i < L.length) →
    l.filterMap (fun i => es[i]?) = (l.filterMap fun i => L[i]?).map (cellOf w) ∧ (l.filterMap fun i => L[i]?).map (hsh w) = l.map fun i => (es.map (·.1)).getD i 0
  | [], _ => ⟨rfl, rfl⟩
  | i :: l, h => by
    have il := h i List.mem_cons_self
    obtain ⟨e1, e2⟩ := picked L es c l fun j hj => h j (List.mem_cons_of_mem _ hj)
    have at1 : L[i]? = some L[i] := List.getElem?_eq_getElem il
    have at2 := cells_at c at1
    have at3 : (es.map (·.1)).getD i 0 = hsh w L[i] := by
      have : (es.map (·.1))[i]? = some (hsh w L[i]) := by rw [Array.getElem?_map, at2]; rfl
      simp [Array.getD_eq_getD_getElem?, this]
    rw [List.filterMap_cons_some at2, List.filterMap_cons_some at1, List.map_cons, List.map_cons, List.map_cons, e1, e2, at3]
    exact ⟨rfl, rfl⟩
theorem picks_all {α : Type} (L : List α) : ∀ n, n ≤ L.length → (List.range n).filterMap (fun i => L[i]?) = L.take n
  | 0, _ => by simp
  | n + 1, h => by
    rw [List.range_succ, List.filterMap_append, picks_all L n (by omega), List.filterMap_cons_some (List.getElem?_eq_getElem h), List.take_add_one, List.getElem?_eq_getElem h]
    rfl
theorem relay_run {o : Obj} (ho : s.heap.get? a = some o) (hex : o.ExactSet) (hd : o.data = .set es ep t) (cl : es.toList = L.map (cellOf w)) (psz : t.place.size = L.length) (dm : t.dummies = #[]) (fl : L.length ≤ t.mask)
    (nd : (L.map (·.2)).Nodup) (ks : ∀ p ∈ L, TK s.heap p.2 p.1) (led : w.params.followText "set-order" = true ∨ t.led = true) (few : L.length < 64) {wanted M : Nat} (hw : SetTable.sizeAbove wanted - 1 = M) (hM : MaskOk M)
    (small : SetTable.sizeAbove wanted ≤ 128) (rm : L.length * 5 < M * 3) {Q : Unit → Shared → Prop}
    (q : ∀ h' L' es' ep' t', Heap.SameBut a s.heap h' → NSet w h' a L' es' ep' t' → L'.Perm L → Q () { s with heap := h' }) : wpAny (model P w) A (setRelay a wanted) Q E s := by
  have sz := cells_len cl
  obtain ⟨t', order, e, pm, tab, em, el, _, _⟩ := relaid_ok t (hs := es.map (·.1)) (wanted := wanted) hw hM (by rw [Array.size_map, sz]; omega)
  rw [Array.size_map, sz] at pm
  obtain ⟨c1, c2⟩ := picked L es cl order.toList fun i hi => List.mem_range.mp (pm.mem_iff.mp hi)
  have pL : (order.toList.filterMap fun i => L[i]?).Perm L := by
    have := pm.filterMap fun i => L[i]?
    rw [picks_all L L.length (Nat.le_refl _), List.take_length] at this
    exact this
  generalize (order.toList.filterMap fun i => L[i]?) = L2 at c1 c2 pL
  have cl2 : (order.filterMap (es[·]?)).toList = L2.map (cellOf w) := by
    rw [Array.toList_filterMap]
    exact c1
  have sz2 := cells_len cl2
  rw [setRelay_eq]
  refine wpAny_bind (wpAny_setState_of ho hd (fits_of psz dm fl sz.symm) ?_)
  dsimp only
  refine wp_if_neg (by rw [sizeLine_eq]; omega) ?_
  try refine wpAny_bind (wpAny_pure ?_)
  rw [e]
  dsimp only
  refine wpAny_bind ?_
  refine wp_if_neg (by rw [sz2, sz, pL.length_eq]; simp) ?_
  try refine wpAny_bind (wpAny_pure ?_)
  refine wpAny_pure ?_
  dsimp only
  refine wpAny_storeSet_of ho hd ?_ (by rw [sz2, pL.length_eq, sizeLine_eq]; omega)
  have sb : Heap.SameBut a s.heap (s.heap.update a (Obj.putSet (order.filterMap (es[·]?)) t')) := Heap.SameBut.update ..
  refine q _ L2 _ (ep + 1) t' sb ⟨⟨_, store_at ho hd, ⟨hex.1, hex.2.1, hex.2.2⟩, rfl⟩, cl2, by rw [c2]; exact tab, (pL.map (·.2)).nodup_iff.mpr nd, fun p hp => (ks p (pL.mem_iff.mp hp)).but ho hd sb, by rw [el]; exact led, ?_, ?_⟩ pL
  · rw [pL.length_eq, em]; exact rm
  · rw [pL.length_eq]; exact few
theorem add_run (R : NSet w s.heap a L es ep t) {x : Addr} {k : NestedKey} (hx : TK s.heap k x) (hu : A.units + 8 < cLine) (few : L.length + 1 < 64) {Q : Bool → Shared → Prop}
    (q : ∀ b h' L' es' ep' t', Heap.SameBut a s.heap h' → NSet w h' a L' es' ep' t' → (k ∈ L.map (·.2) → L' = L) → (k ∉ L.map (·.2) → L'.Perm ((x, k) :: L)) → Q b { s with heap := h' }) :
    wpAny (model P w) A (setAddHashed a (.ref x) (k.hash w)) Q E s := by
  obtain ⟨o, ho, hex, hd⟩ := R.obj
  have sz := cells_len R.cells
  have room := R.room
  unfold setAddHashed
  refine wpAny_holding ?_
  rw [show (100000 : Nat) = 99999 + 1 from rfl, setAddHashedIn_succ]
  refine wpAny_bind (wpAny_setState_of ho hd R.fit ?_)
  dsimp only
  refine wp_if_neg (by simp [byScan, Value.scannable]) ?_
  try refine wpAny_bind (wpAny_pure ?_)
  refine wpAny_bind (find_at R hx hu (fun m => ?_) fun K m hK full => ?_)
  · dsimp only
    exact wpAny_pure (q false s.heap L es ep t (Heap.SameBut.refl a s.heap) R (fun _ => rfl) fun z => absurd m z)
  dsimp only
  refine wpAny_bind (wpAny_setState_of ho hd R.fit ?_)
  dsimp only
  obtain ⟨q1, q2, q3, q4, q5, q6, q7, q8, q9⟩ := R.tab.put hK full
  generalize hJ : way t.mask (k.hash w) K = J at q1 q2 q3 q4 q5 q6 q7 q8 q9 ⊢
  generalize eP : t.put J = pt at q1 q3 q4 q5 q6 q7 q8 q9 ⊢
  obtain ⟨t1, p⟩ := pt
  dsimp only at q1 q3 q4 q5 q6 q7 q8 q9 ⊢
  subst q1
  generalize hp : SetTable.below t.place J = p at q2 q3 ⊢
  -- behind the question whether it is hashed by value, whatever the answer is
  have go : ∀ t2 : SetTable, t2.place = t1.place → t2.dummies = t1.dummies → t2.mask = t1.mask → t2.led = t1.led → t2.fill = t1.fill →
      wpAny (model P w) A (do
        storeSet a (SetTable.insertAt es p (k.hash w, Value.ref x)) t2
        if !false && t2.tooFull then setRelay a (SetTable.grown (es.size + 1))
        return true) Q E s := by
    intro t2 e1 e2 e3 e4 e5
    have pm := put_perm L p (x, k)
    have cl : (SetTable.insertAt es p (k.hash w, Value.ref x)).toList = (L.take p ++ (x, k) :: L.drop p).map (cellOf w) := by
      rw [SetTable.toList_insertAt, R.cells, List.map_append, List.map_cons, List.map_take, List.map_drop]
      rfl
    have tb : TabOk t2 ((L.take p ++ (x, k) :: L.drop p).map (hsh w)) := by
      rw [List.map_append, List.map_cons, List.map_take, List.map_drop]
      exact ⟨by rw [e1]; exact q3.ris, by rw [e2]; exact q3.dm, by rw [e1]; exact q3.sz, by rw [e3]; exact q3.mok, by rw [e1, e3]; exact q3.bd, by rw [e1, e3]; exact q3.reach⟩
    generalize L.take p ++ (x, k) :: L.drop p = L1 at pm cl tb
    generalize SetTable.insertAt es p (k.hash w, Value.ref x) = es1 at cl ⊢
    have l1 : L1.length = L.length + 1 := pm.length_eq
    have sz1 := cells_len cl
    have nd1 : (L1.map (·.2)).Nodup := (pm.map (·.2)).nodup_iff.mpr (by rw [List.map_cons]; exact List.nodup_cons.mpr ⟨m, R.nd⟩)
    refine wpAny_bind (wpAny_storeSet_of ho hd ?_ (by rw [sz1, l1, sizeLine_eq]; omega))
    have sb : Heap.SameBut a s.heap (s.heap.update a (Obj.putSet es1 t2)) := Heap.SameBut.update ..
    have ho1 := store_at (es' := es1) (t' := t2) ho hd
    generalize s.heap.update a (Obj.putSet es1 t2) = h1 at sb ho1 ⊢
    have ks1 : ∀ p ∈ L1, TK h1 p.2 p.1 := fun p hp => by
      rcases List.mem_cons.mp (pm.mem_iff.mp hp) with e | hp
      · rw [e]; exact hx.but ho hd sb
      · exact (R.keys p hp).but ho hd sb
    have ld1 : w.params.followText "set-order" = true ∨ t2.led = true := by rw [e4, q5]; exact R.led
    have fillN : t2.fill = L.length + 1 := by rw [e5, q9, List.length_map]
    have maskN : t2.mask = t.mask := e3.trans q4
    by_cases full : t2.tooFull = true
    · have over : (L.length + 1) * 5 ≥ t.mask * 3 := by
        have h := full
        unfold SetTable.tooFull at h
        rw [decide_eq_true_eq, fillN, maskN] at h
        exact h
      have next : ∀ M, SetTable.sizeAbove (SetTable.grown (L.length + 1)) - 1 = M → MaskOk M → SetTable.sizeAbove (SetTable.grown (L.length + 1)) ≤ 128 → (L.length + 1) * 5 < M * 3 →
          wpAny (model P w) A (setRelay a (SetTable.grown (L.length + 1))) (fun _ s' => wpAny (model P w) A (pure true) Q E s') E { s with heap := h1 } := fun M m1 m2 m3 m4 => by
        refine relay_run (s := { s with heap := h1 }) ho1 ⟨hex.1, hex.2.1, hex.2.2⟩ rfl cl (by rw [tb.sz, List.length_map]) tb.dm (by rw [l1, maskN]; omega) nd1 ks1 ld1 (by rw [l1]; exact few) m1 m2 m3 (by rw [l1]; exact m4) ?_
        intro h2 L2 es2 ep2 t3 sb2 R2 pm2
        exact wpAny_pure (q true h2 L2 es2 ep2 t3 (sb.trans sb2) R2 (fun z => absurd z m) fun _ => pm2.trans pm)
      rw [sz]
      dsimp only
      refine wp_if_pos (by simp [full]) (wpAny_bind ?_)
      rcases R.tab.mok with e | e | e
      · have : L.length = 4 := by rw [e] at over room; omega
        rw [this] at next ⊢
        exact next 31 (by rw [size_20]) (.inr (.inl rfl)) (by rw [size_20]; decide) (by omega)
      · have : L.length = 18 := by rw [e] at over room; omega
        rw [this] at next ⊢
        exact next 127 (by rw [size_76]) (.inr (.inr rfl)) (by rw [size_76]; decide) (by omega)
      · rw [e] at over; omega
    · dsimp only
      refine wp_if_neg (by simp [full]) ?_
      refine wpAny_pure ((q true h1 L1 es1 (ep + 1) t2 sb ⟨⟨_, ho1, ⟨hex.1, hex.2.1, hex.2.2⟩, rfl⟩, cl, tb, nd1, ks1, ld1, ?_, by rw [l1]; exact few⟩ (fun z => absurd z m) fun _ => pm))
      unfold SetTable.tooFull at full
      rw [decide_eq_true_eq, fillN] at full
      rw [l1]
      omega
  by_cases pl : t1.plain = true
  · refine wp_if_pos pl (wpAny_bind ?_)
    refine byval_run _ _ 8 s hx.1 _ _ _ fun b => ?_
    cases b with
    | true => exact go t1 rfl rfl rfl rfl rfl
    | false => exact go { t1 with plain := false } rfl rfl rfl rfl rfl
  · refine wp_if_neg pl (wpAny_bind ?_)
    exact wpAny_pure (go t1 rfl rfl rfl rfl rfl)
end
end Ns
set_option Elab.async false
set_option linter.all false
set_option maxRecDepth 100000
set_option maxHeartbeats 4000000
/-! set(x) of a list or a tuple, whatever the members are. -/
namespace Ns
open PySem PySem.Spec PyProof.Rows L2
section
variable {P : Program} {w : World} {A : Around} {E : Value → Shared → Prop} {s : Shared}
abbrev noSet (w : World) : Obj := { cls := .type "set", dict := none, data := .set #[] 0 (.fresh 0 0 (!w.params.followText "set-order")) }
/-- the loop of set.update: J i holds when i members are in -/
theorem loop_run {I : Addr} {fp wr : List Addr} {G : Array GenState → Array GenState → Prop} {n : Nat} {Pv : Nat → Value → Prop} {St : Nat → Shared → Prop} {R : Result → Shared → Prop} (W : WalksS P w A.in1 I fp wr G n Pv St) (S : Addr) (out : S ∉ fp)
    (J : Nat → Heap → Prop) (keep : ∀ i h h', J i h → (∀ b o, b ∉ wr → h.get? b = some o → h'.get? b = some o) → J i h')
    (add : ∀ (i : Nat) (v : Value) (s : Shared) (E : Value → Shared → Prop) (Q : Bool → Shared → Prop), i < n → Pv i v → J i s.heap → (∀ b h' tk, s.toks ≤ tk → Heap.SameBut S s.heap h' → J (i + 1) h' → Q b { s with heap := h', toks := tk }) → wpAny (model P w) A.in1 (setAdd S v) Q E s) :
    ∀ (k i : Nat) (s : Shared), n - i = k → i ≤ n → St i s → J i s.heap → (∀ s', Moved (S :: wr) G s s' → J n s'.heap → R (.ok (.ret .none)) s') → codeAny (model P w) A (.builtin "set.update.loop" ⟨[.ref S, .ref I], []⟩) R s := by
  have oW : S ∉ wr := fun q => out (W.sub _ q)
  have more : ∀ b ∈ wr, b ∈ S :: wr := fun b q => List.mem_cons_of_mem _ q
  intro k
  induction k with
  | zero =>
    intro i s ek hi st j last
    obtain rfl : i = n := by omega
    refine codeAny_builtin F.entry_set_update_loop ?_
    rw [Around.under_plainId F.plain_set_update_loop]
    show wpAny _ A.in1 (pyNext (.ref I) >>= _) _ _ s
    refine wpAny_bind (W.done s _ _ st fun s' mv => ?_)
    show wpAny _ A.in1 (ret Value.none) _ _ s'
    exact wpAny_pure (last s' (mv.mono more) (keep _ _ _ j mv.heap))
  | succ k ih =>
    intro i s ek hi st j last
    have lt : i < n := by omega
    refine codeAny_builtin F.entry_set_update_loop ?_
    rw [Around.under_plainId F.plain_set_update_loop]
    show wpAny _ A.in1 (pyNext (.ref I) >>= _) _ _ s
    refine wpAny_bind (W.item i s _ _ lt st fun v s' pv st' mv => ?_)
    show wpAny _ A.in1 (holding [v] (setAdd S v) >>= _) _ _ s'
    refine wpAny_bind (wpAny_holding (add i v s' _ _ lt pv (keep _ _ _ j mv.heap) fun b h' tk tle sb j' => ?_))
    refine wpAny_pure ⟨plainId_quiet F.plain_set_update_loop _, ih (i + 1) _ (by omega) lt (W.frame _ s' _ _ st' tle fun b hb o e => ?_) j' fun s2 mv2 j2 => ?_⟩
    · rw [sb.2 b (fun q : b = S => out (by rw [← q]; exact hb))]
      exact e
    · refine last s2 (Moved.trans W.gtrans ((mv.mono more).then_heap tle fun b o hb e => ?_) mv2) j2
      rw [sb.2 b (fun q : b = S => hb (by rw [q]; exact List.mem_cons_self))]
      exact e
set_option maxHeartbeats 8000000 in
/-- set(x) -/
theorem set_run {l : Addr} {items : Array Value} (hh : A.handled = none) (hl : s.heap.IsList l items ∨ s.heap.IsTuple l items) (J : Nat → Heap → Prop)
    (start : ∀ h', (∀ b o, s.heap.get? b = some o → h'.get? b = some o) → h'.get? s.heap.objs.size = some (noSet w) → J 0 h')
    (keep : ∀ i h h' I, s.heap.objs.size < I → J i h → (∀ b o, b ≠ I → h.get? b = some o → h'.get? b = some o) → J i h')
    (add : ∀ (i : Nat) (v : Value) (s' : Shared) (E : Value → Shared → Prop) (Q : Bool → Shared → Prop), items[i]? = some v → J i s'.heap → (∀ b h' tk, s'.toks ≤ tk → Heap.SameBut s.heap.objs.size s'.heap h' → J (i + 1) h' → Q b { s' with heap := h', toks := tk }) → wpAny (model P w) A.in1.in1.in1 (setAdd s.heap.objs.size v) Q E s')
    {Q : Value → Shared → Prop} (last : ∀ h' tk, J items.size h' → (∀ b o, s.heap.get? b = some o → h'.get? b = some o) → Q (.ref s.heap.objs.size) { s with heap := h', toks := tk }) : wpAny (model P w) A (call (.type "set") [.ref l]) Q E s := by
  obtain ⟨mc, mt, mro_⟩ := F.called_set.mro
  have made_ := F.called_set.made
  have sub_ := F.called_set.sub
  refine wpAny_call (codeAny_of_tree ?_)
  show wpAny _ _ (callAny (.type "set") _) _ _ _
  refine wpAny_pure ⟨Code.quiet_builtin _ (by decide +kernel), codeAny_builtin F.entry_type_call ?_⟩
  rw [Around.under_plain (weight_type_call_type "set" [.ref l] [])] <;> try rfl
  have nt_ := F.called_set.notType
  have cc_ := F.called_set.canCreate
  have tc_ := F.typeCall_set_1 (.ref l)
  repeat (any_goals (first | assumption | wp_step))
  let hN : Heap := s.heap.push (noSet w)
  refine codeAny_mono (code_set_led1 (.ref l) (E := E) (Q₁ := fun obj s₁ => obj = .ref s.heap.objs.size ∧ s₁ = { s with heap := hN }) ⟨rfl, rfl⟩) fun r s₁ hr => ?_
  cases r with
  | error e => exact hr
  | ok fl =>
    cases fl with
    | ret obj =>
      obtain ⟨rfl, rfl⟩ := hr
      have atS : hN.get? s.heap.objs.size = some (noSet w) := Heap.get?_push_size _ rfl
      have tyS : Shared.TypeIs { s with heap := hN } (.ref s.heap.objs.size) "set" := ⟨_, atS, rfl⟩
      have look_ := F.called_set.init.lookup
      have bind_ := F.called_set.init.bind (.ref s.heap.objs.size)
      repeat (any_goals (first | assumption | wp_step))
      refine codeAny_mono (codeAny_call_builtin (R := wants (fun r s₂ => r = .none ∧ ∃ h' tk, s₂ = { s with heap := h', toks := tk } ∧ J items.size h' ∧ (∀ b o, s.heap.get? b = some o → h'.get? b = some o)) E) F.called_set.init.plain F.entry_set_init (check_set_init_1 tyS ?_)) fun r₂ s₂ hr₂ => ?_
      · have h3 : A.in1.in1.in1.handled = none := by simp [hh]
        have szN : hN.objs.size = s.heap.objs.size + 1 := Heap.size_push ..
        -- behind the making of the iterator at hN's end
        have rest : ∀ (o : Obj) (St : Nat → Shared → Prop) (G : Array GenState → Array GenState → Prop), (G s.gens s.gens → True) → l < s.heap.objs.size → o.isFreed = false →
            WalksS P w A.in1.in1.in1 hN.objs.size [hN.objs.size, l] [hN.objs.size] (fun g g' => g' = g) items.size (fun i v => items[i]? = some v) St → St 0 { s with heap := hN.push o } →
            ∀ (R : Result → Shared → Prop), (∀ h' tk, J items.size h' → (∀ b o, s.heap.get? b = some o → h'.get? b = some o) → R (.ok (.ret .none)) { s with heap := h', toks := tk }) →
            codeAny (model P w) A.in1.in1 (.builtin "set.update.loop" ⟨[.ref s.heap.objs.size, .ref hN.objs.size], []⟩) R { s with heap := hN.push o } := by
          intro o St G _ ll nf W st R hR
          have kept : ∀ b u, s.heap.get? b = some u → (hN.push o).get? b = some u := fun b u e => Heap.get?_push_of_some _ (Heap.get?_push_of_some _ e)
          have notin : s.heap.objs.size ∉ [hN.objs.size, l] := by
            rw [szN]
            simp only [List.mem_cons, List.not_mem_nil, or_false, not_or]
            exact ⟨Nat.ne_of_lt (Nat.lt_succ_self _), Nat.ne_of_gt ll⟩
          refine loop_run W s.heap.objs.size notin (fun i h => J i h ∧ ∀ b u, s.heap.get? b = some u → h.get? b = some u) (fun i h h' j k => ?_) (fun i v s' E' Q' _ pv j q => ?_) (items.size - 0) 0 _ rfl (Nat.zero_le _) st ⟨start _ kept (Heap.get?_push_of_some _ atS), kept⟩ fun s' mv j => ?_
          · refine ⟨keep i h h' hN.objs.size (by rw [szN]; exact Nat.lt_succ_self _) j.1 fun b u nb e => k b u (by rw [List.mem_singleton]; exact nb) e, fun b u e => k b u ?_ (j.2 b u e)⟩
            rw [List.mem_singleton]
            exact Nat.ne_of_lt (Nat.lt_of_lt_of_le (Heap.lt_size e) (by rw [szN]; exact Nat.le_succ _))
          · refine add i v s' E' Q' pv j.1 fun b h' tk tle sb j' => q b h' tk tle sb ⟨j', fun c u e => ?_⟩
            exact (sb.2 c (Nat.ne_of_lt (Heap.lt_size e))).trans (j.2 c u e)
          · obtain ⟨h', g2, d', tk', os'⟩ := s'
            have e1 : g2 = s.gens := mv.gens
            have e2 : d' = s.drawn := mv.drawn
            have e3 : os' = s.os := mv.os
            subst e1; subst e2; subst e3
            exact hR h' tk' j.1 j.2
        rcases hl with hl | hl
        · obtain ⟨ol, hol, hcl, nl, hdl⟩ := hl
          obtain ⟨ocls, odict, odata, oslots⟩ := ol
          simp only at hcl hdl
          subst hcl; subst hdl
          have ol2 : hN.get? l = some { cls := .type "list", dict := odict, data := .seq items nl, slots := oslots } := Heap.get?_push_of_some _ hol
          have s1_ := F.sub_list_set
          have s2_ := F.sub_list_frozenset
          have ne_ : (Value.type "list" == Value.type "dict") = false := by decide
          have isl : hN.IsList l items := ⟨_, ol2, rfl, nl, rfl⟩
          unfold Builtin.«set.__init__» noKeywords Builtin.Frozenset.updateFrom
          generalize ePI : pyIter = PI
          wp_walk
          subst ePI
          refine wpAny_pyIter_list isl (wpAny_bind (wpAny_runValue ?_))
          have ll : l < s.heap.objs.size := Heap.lt_size hol
          have neI : l ≠ hN.objs.size := Nat.ne_of_lt (by rw [szN]; exact Nat.lt_succ_of_lt ll)
          refine rest _ _ (fun g g' => g' = g) (fun _ => trivial) ll rfl ((Walks.list h3 _ l neI items).toS) ⟨⟨_, Heap.get?_push_size _ rfl, rfl, rfl⟩, isl.push _⟩ _ fun h' tk j k => ?_
          show wpAny _ _ _ _ _ _
          refine wpAny_pure ?_
          show wpAny _ _ (ret Value.none) _ _ _
          exact wpAny_pure ⟨rfl, h', tk, rfl, j, k⟩
        · obtain ⟨ol, hol, hcl, nl, hdl⟩ := hl
          obtain ⟨ocls, odict, odata, oslots⟩ := ol
          simp only at hcl hdl
          subst hcl; subst hdl
          have ol2 : hN.get? l = some { cls := .type "tuple", dict := odict, data := .seq items nl, slots := oslots } := Heap.get?_push_of_some _ hol
          have s1_ := F.sub_tuple_set
          have s2_ := F.sub_tuple_frozenset
          have ne_ : (Value.type "tuple" == Value.type "dict") = false := by decide
          have isl : hN.IsTuple l items := ⟨_, ol2, rfl, nl, rfl⟩
          unfold Builtin.«set.__init__» noKeywords Builtin.Frozenset.updateFrom
          generalize ePI : pyIter = PI
          wp_walk
          subst ePI
          refine wpAny_pyIter_tuple isl (wpAny_bind (wpAny_runValue ?_))
          have ll : l < s.heap.objs.size := Heap.lt_size hol
          have neI : l ≠ hN.objs.size := Nat.ne_of_lt (by rw [szN]; exact Nat.lt_succ_of_lt ll)
          refine rest _ _ (fun g g' => g' = g) (fun _ => trivial) ll rfl ((Walks.tuple h3 _ l neI items).toS) ⟨⟨_, Heap.get?_push_size _ rfl, rfl, rfl⟩, isl.push _⟩ _ fun h' tk j k => ?_
          show wpAny _ _ _ _ _ _
          refine wpAny_pure ?_
          show wpAny _ _ (ret Value.none) _ _ _
          exact wpAny_pure ⟨rfl, h', tk, rfl, j, k⟩
      · cases r₂ with
        | error e => exact hr₂
        | ok fl₂ =>
          cases fl₂ with
          | ret r =>
            obtain ⟨rfl, h', tk, rfl, j, k⟩ := hr₂
            repeat (any_goals (first | assumption | wp_step))
            exact last _ _ j k
          | _ => exact hr₂.elim
    | _ => exact hr.elim
end
end Ns
set_option Elab.async false
set_option linter.all false
set_option maxRecDepth 100000
set_option maxHeartbeats 4000000
/-! len(set(x)): x of numbers, of texts, of tuples of texts and numbers. -/
namespace Ns
open PySem PySem.Spec PyProof.Rows L2 Tk Pl
instance memKey (k : Key) (l : List Key) : Decidable (k ∈ l) := @List.instDecidableMemOfLawfulBEq Key instBEqOfDecidableEq inferInstance k l
/-- one after another, each once -/
def once {α : Type} [DecidableEq α] : List α → List α
  | [] => []
  | x :: l => if x ∈ l then once l else x :: once l
theorem once_mem {α : Type} [DecidableEq α] (y : α) : ∀ l : List α, y ∈ once l ↔ y ∈ l
  | [] => Iff.rfl
  | x :: l => by
    unfold once
    split
    · rename_i h
      rw [once_mem y l, List.mem_cons]
      exact ⟨.inr, fun q => q.elim (fun e => e ▸ h) id⟩
    · rw [List.mem_cons, List.mem_cons, once_mem y l]
theorem once_nodup {α : Type} [DecidableEq α] : ∀ l : List α, (once l).Nodup
  | [] => List.nodup_nil
  | x :: l => by
    unfold once
    split
    · exact once_nodup l
    · rename_i h
      exact List.nodup_cons.mpr ⟨fun q => h ((once_mem x l).mp q), once_nodup l⟩
theorem once_le {α : Type} [DecidableEq α] : ∀ l : List α, (once l).length ≤ l.length
  | [] => Nat.le_refl _
  | x :: l => by
    unfold once
    split
    · exact Nat.le_succ_of_le (once_le l)
    · exact Nat.succ_le_succ (once_le l)
theorem once_eq {α : Type} [DecidableEq α] : ∀ l : List α, (once l).length = l.length ↔ l.Nodup
  | [] => by simp [once]
  | x :: l => by
    have le := once_le l
    unfold once
    split
    · rename_i h
      rw [List.nodup_cons, List.length_cons]
      exact ⟨fun e => by omega, fun q => absurd h q.1⟩
    · rename_i h
      rw [List.nodup_cons, List.length_cons, List.length_cons, ← once_eq l]
      exact ⟨fun e => ⟨h, by omega⟩, fun q => by rw [q.2]⟩
theorem nodup_len {α : Type} [DecidableEq α] : ∀ (l m : List α), l.Nodup → (∀ x ∈ l, x ∈ m) → l.length ≤ m.length
  | [], _, _, _ => Nat.zero_le _
  | x :: l, m, nd, h => by
    obtain ⟨n1, n2⟩ := List.nodup_cons.mp nd
    have hx := h x List.mem_cons_self
    have := nodup_len l (m.erase x) n2 fun y hy => (List.mem_erase_of_ne (fun e => n1 (by rw [← e]; exact hy))).mpr (h y (List.mem_cons_of_mem _ hy))
    rw [List.length_erase_of_mem hx] at this
    have := List.length_pos_of_mem hx
    rw [List.length_cons]
    omega
theorem same_len {α : Type} [DecidableEq α] {l m : List α} (nl : l.Nodup) (nm : m.Nodup) (h : ∀ x, x ∈ l ↔ x ∈ m) : l.length = m.length :=
  Nat.le_antisymm (nodup_len l m nl fun x hx => (h x).mp hx) (nodup_len m l nm fun x hx => (h x).mpr hx)
section
variable {P : Program} {w : World} {A : Around} {E : Value → Shared → Prop} {s : Shared}
/-- set(x), x of tuples -/
theorem set_tuples {l : Addr} {items : Array Value} (ks : List Mem) (hh : A.handled = none) (hl : s.heap.IsList l items ∨ s.heap.IsTuple l items) (it : items.toList = ks.map fun p => Value.ref p.1) (hk : ∀ p ∈ ks, TK s.heap p.2 p.1) (few : ks.length < 64) (hu : A.units + 11 < cLine)
    {Q : Value → Shared → Prop} (last : ∀ h' tk L es ep t, NSet w h' s.heap.objs.size L es ep t → (∀ k, k ∈ L.map (·.2) ↔ k ∈ ks.map (·.2)) → (∀ b o, s.heap.get? b = some o → h'.get? b = some o) → Q (.ref s.heap.objs.size) { s with heap := h', toks := tk }) :
    wpAny (model P w) A (call (.type "set") [.ref l]) Q E s := by
  have isz : items.size = ks.length := by
    have e := congrArg List.length it
    simpa using e
  have at_ : ∀ (i : Nat) (v : Value), items[i]? = some v → ∃ p, ks[i]? = some p ∧ v = .ref p.1 := fun i v e => by
    have q : items.toList[i]? = some v := by rw [Array.getElem?_toList]; exact e
    rw [it, List.getElem?_map] at q
    cases hp : ks[i]? with
    | none => rw [hp] at q; cases q
    | some p => rw [hp] at q; exact ⟨p, rfl, (Option.some.inj q).symm⟩
  refine set_run hh hl (fun i h => (∀ b o, s.heap.get? b = some o → h.get? b = some o) ∧ ∃ (L : List Mem) (es : Array (Int × Value)) (ep : Nat) (t : SetTable), NSet w h s.heap.objs.size L es ep t ∧ (∀ p ∈ L, p ∈ ks) ∧ (∀ k : NestedKey, k ∈ L.map (fun p : Mem => p.2) ↔ k ∈ (ks.take i).map (fun p : Mem => p.2)) ∧ L.length ≤ i)
    (fun h' kp e => ⟨kp, [], #[], 0, _, ⟨⟨_, e, ⟨rfl, rfl, rfl⟩, rfl⟩, rfl, ⟨List.Pairwise.nil, rfl, rfl, .inl rfl, fun x hx => (by simp [SetTable.fresh] at hx), fun i h j hi => (by simp at hi)⟩, List.nodup_nil, fun p hp => (by cases hp), ?_, (by show 0 * 5 < 7 * 3; decide), (by show 0 < 64; decide)⟩, fun p hp => (by cases hp), fun k => (by simp), Nat.le_refl _⟩)
    (fun i h h' I hI ⟨kp, L, es, ep, t, R, m1, m2, m3⟩ k => ⟨fun b o e => k b o (Nat.ne_of_lt (Nat.lt_trans (Heap.lt_size e) hI)) (kp b o e), L, es, ep, t, ?_, m1, m2, m3⟩)
    (fun i v s' E' Q' ev ⟨kp, L, es, ep, t, R, m1, m2, m3⟩ q => ?_) fun h' tk ⟨kp, L, es, ep, t, R, m1, m2, m3⟩ _ => last h' tk L es ep t R (fun k => by rw [m2 k, isz, List.take_length]) kp
  · show _ ∨ (!w.params.followText "set-order") = true
    cases w.params.followText "set-order"
    · exact .inr rfl
    · exact .inl rfl
  · have kp' : ∀ b o, s.heap.get? b = some o → h'.get? b = some o := fun b o e => k b o (Nat.ne_of_lt (Nat.lt_trans (Heap.lt_size e) hI)) (kp b o e)
    obtain ⟨o, ho, r⟩ := R.obj
    exact ⟨⟨o, k _ o (Nat.ne_of_lt hI) ho, r⟩, R.cells, R.tab, R.nd, fun p hp => (hk p (m1 p hp)).stays kp', R.led, R.room, R.few⟩
  · obtain ⟨p, ep_, rfl⟩ := at_ i v ev
    have pm : p ∈ ks := List.mem_of_getElem? ep_
    have hx := (hk p pm).stays kp
    have il : i < ks.length := (List.getElem?_eq_some_iff.mp ep_).1
    have tk1 : ks.take (i + 1) = ks.take i ++ [p] := by rw [List.take_add_one, ep_]; rfl
    unfold setAdd
    refine wpAny_holding (wpAny_bind (hash_run hx (by simp only [Around.in1_units]; omega) ?_))
    refine add_run (s := { s' with toks := s'.toks + p.2.draws }) R hx (by simp only [Around.in1_units]; omega) (by omega) fun b h' L' es' ep' t' sb R' c1 c2 => ?_
    have kp' : ∀ b o, s.heap.get? b = some o → h'.get? b = some o := fun b o e => (sb.2 b (Nat.ne_of_lt (Heap.lt_size e))).trans (kp b o e)
    refine q b h' _ (Nat.le_add_right _ _) sb ⟨kp', L', es', ep', t', R', ?_, ?_, ?_⟩
    · intro p' hp'
      by_cases c : p.2 ∈ L.map (·.2)
      · rw [c1 c] at hp'; exact m1 p' hp'
      · rcases List.mem_cons.mp ((c2 c).mem_iff.mp hp') with e | e
        · rw [e]; exact pm
        · exact m1 p' e
    · intro k
      rw [tk1, List.map_append, List.mem_append, ← m2 k]
      by_cases c : p.2 ∈ L.map (·.2)
      · rw [c1 c]
        exact ⟨.inl, fun z => z.elim id fun z => by rw [List.map_singleton, List.mem_singleton] at z; rw [z]; exact c⟩
      · rw [((c2 c).map (·.2)).mem_iff, List.map_cons, List.mem_cons, List.map_singleton, List.mem_singleton]
        exact Or.comm
    · by_cases c : p.2 ∈ L.map (·.2)
      · rw [c1 c]; omega
      · have := (c2 c).length_eq
        rw [List.length_cons] at this
        omega
/-- set(x), x of numbers and texts -/
theorem set_keys {l : Addr} {items : Array Value} (xs : List Key) (hh : A.handled = none) (hl : s.heap.IsList l items ∨ s.heap.IsTuple l items) (hi : ∀ (i : Nat) (v : Value), items[i]? = some v → ∃ k, xs[i]? = some k ∧ RelV (kV k) v) (isz : items.size = xs.length) (few : xs.length + 1 < scanBound)
    {Q : Value → Shared → Prop} (last : ∀ h' tk (L : List Key), h'.SetOf (mixKind P w) s.heap.objs.size (fun k => decide (k ∈ L)) L.length → L.Nodup → (∀ k, k ∈ L ↔ k ∈ xs) → (∀ b o, s.heap.get? b = some o → h'.get? b = some o) → Q (.ref s.heap.objs.size) { s with heap := h', toks := tk }) :
    wpAny (model P w) A (call (.type "set") [.ref l]) Q E s := by
  refine set_run hh hl (fun i h => ∃ L : List Key, h.SetOf (mixKind P w) s.heap.objs.size (fun k => decide (k ∈ L)) L.length ∧ L.Nodup ∧ (∀ k, k ∈ L ↔ k ∈ xs.take i) ∧ L.length ≤ i)
    (fun h' kp e => ⟨[], ⟨_, #[], 0, _, e, ⟨rfl, rfl, rfl⟩, rfl, (fun e he => (by simp at he)), (fun k => (by simp)), (by decide), rfl, rfl⟩, List.nodup_nil, fun k => (by simp), Nat.le_refl _⟩)
    (fun i h h' I hI ⟨L, ⟨o, es, ep, t, ho, r⟩, m⟩ k => ⟨L, ⟨o, es, ep, t, k _ o (Nat.ne_of_lt hI) ho, r⟩, m⟩)
    (fun i v s' E' Q' ev ⟨L, R, nd, m2, m3⟩ q => ?_) fun h' tk ⟨L, R, nd, m2, m3⟩ kp => last h' tk L R nd (fun k => by rw [m2 k, isz, List.take_length]) kp
  obtain ⟨k, ek, rk⟩ := hi i v ev
  have il : i < xs.length := (List.getElem?_eq_some_iff.mp ek).1
  have tk1 : xs.take (i + 1) = xs.take i ++ [k] := by rw [List.take_add_one, ek]; rfl
  unfold setAdd
  refine wpAny_holding (wpAny_bind ((mixKind P w).pyHash (kV_is rk) ?_))
  refine wpAny_setAddHashed_of (s := { s' with toks := s'.toks + 1 }) (kV_is rk) (key_scan rk) R (by omega) fun h' sb R' => ?_
  by_cases c : k ∈ L
  · refine q _ h' _ (Nat.le_succ _) sb ⟨L, ?_, nd, fun k' => ?_, by omega⟩
    · have e : (fun k' => decide (k' ∈ L) || decide (k' = k)) = fun k' => decide (k' ∈ L) := funext fun k' => by
        by_cases z : k' = k
        · subst z; simp [c]
        · simp [z]
      rw [e] at R'
      simpa [c] using R'
    · rw [tk1, List.mem_append, ← m2 k', List.mem_singleton]
      exact ⟨.inl, fun z => z.elim id fun z => by rw [z]; exact c⟩
  · refine q _ h' _ (Nat.le_succ _) sb ⟨k :: L, ?_, List.nodup_cons.mpr ⟨c, nd⟩, fun k' => ?_, by rw [List.length_cons]; omega⟩
    · have e : (fun k' => decide (k' ∈ L) || decide (k' = k)) = fun k' => decide (k' ∈ k :: L) := funext fun k' => by
        rw [Bool.eq_iff_iff]
        simp [List.mem_cons, Or.comm]
      rw [e] at R'
      simpa [c] using R'
    · rw [tk1, List.mem_append, ← m2 k', List.mem_singleton, List.mem_cons]
      exact Or.comm
end
end Ns
set_option Elab.async false
set_option linter.all false
set_option maxRecDepth 100000
set_option maxHeartbeats 4000000
/-! len(set(e)) as an expression. -/
namespace Ns
open PySem PySem.Spec PyProof.Rows L2 Tk Pl
section
variable {h : Heap}
mutual
theorem nest_reads : ∀ (k : NestedKey) (v : Value) (as : List Addr), Reads h v k.data as → NestedIs h k v
  | .none, _, _, r => by cases r; exact .none
  | .num i, _, _, r => by cases r; exact .int _ _
  | .text x, _, _, r => by cases r; exact .text _ _
  | .tup ks, _, _, r => by
    have r : Reads h _ (.tuple (NestedKey.datas ks)) _ := r
    cases r with
    | tuple h1 h2 h3 h4 => exact .tup h1 h2 h3 (nest_readsAll ks _ _ h4)
theorem nest_readsAll : ∀ (ks : List NestedKey) (vs : List Value) (as : List Addr), ReadsAll h vs (NestedKey.datas ks) as → NestedAll h ks vs
  | [], _, _, r => by cases r; exact .nil
  | k :: ks, _, _, r => by
    have r : ReadsAll h _ (k.data :: NestedKey.datas ks) _ := r
    cases r with
    | cons h1 h2 => exact .cons (nest_reads k _ _ h1) (nest_readsAll ks _ _ h2)
end
end
def tupKey (k : NestedKey) : Bool := match k with | .tup _ => decide (k.depth ≤ 8) | _ => false
def tLenSetX (K : PySem.W.Frag) (ta : TE) : TE := fun σ H Q => ta σ H fun x H1 => ∃ l vs, x = .ref l ∧ (SqL K H1 l vs ∨ SqT K H1 l vs) ∧
  ((∃ xs : List Key, vs = xs.map kV ∧ xs.length ≤ 1000 ∧ Q (.int ((once xs).length : Nat)) H1) ∨ ∃ ks : List NestedKey, DpAll K H1 vs (NestedKey.datas ks) ∧ ks.all tupKey = true ∧ ks.length < 64 ∧ Q (.int ((once ks).length : Nat)) H1)
theorem vals_at {xs : List V} {its : List Value} (r : Vals xs its) {i : Nat} {v : Value} (e : its.toArray[i]? = some v) : ∃ x, xs[i]? = some x ∧ RelV x v := by
  have e : its[i]? = some v := by simpa using e
  have il := (List.getElem?_eq_some_iff.mp e).1
  have hl : i < xs.length := by rw [r.length]; exact il
  obtain ⟨u, e1, e2⟩ := Vals.get r (List.getElem?_eq_getElem hl)
  rw [e] at e1
  cases e1
  exact ⟨_, List.getElem?_eq_getElem hl, e2⟩
theorem datas_eq : ∀ ks : List NestedKey, NestedKey.datas ks = ks.map NestedKey.data
  | [] => rfl
  | k :: ks => by rw [NestedKey.datas, datas_eq ks]; rfl
theorem nest_list {h : Heap} : ∀ {ks : List NestedKey} {us : List Value}, NestedAll h ks us → ks.all tupKey = true → ∃ ms : List Mem, us = ms.map (fun p => Value.ref p.1) ∧ ks = ms.map (·.2) ∧ ∀ p ∈ ms, TK h p.2 p.1
  | [], _, .nil, _ => ⟨[], rfl, rfl, fun p hp => (by cases hp)⟩
  | k :: ks, _, .cons (v := u) q t, hk => by
    rw [List.all_cons, Bool.and_eq_true] at hk
    obtain ⟨ms, e1, e2, e3⟩ := nest_list t hk.2
    cases q with
    | @tup x o vs n js h1 h2 h3 h4 =>
      refine ⟨(x, .tup js) :: ms, by rw [e1]; rfl, by rw [e2]; rfl, fun p hp => ?_⟩
      rcases List.mem_cons.mp hp with e | hp
      · subst e
        exact ⟨.tup h1 h2 h3 h4, of_decide_eq_true hk.1⟩
      · exact e3 p hp
    | _ => cases hk.1
section
variable {X : Cx} {a : Expr} {ta : TE} {p p2 q pos : Pos}
theorem pe_lenSetX (hc : X.calm = true) (hu : X.A.units + 64 < cLine) (hg : Gl X "len") (hm : X.mg "len" = none) (hg2 : Gl X "set") (hm2 : X.mg "set" = none) (ha : PE X a ta) (na : starEach [a] X.env = (false, eval a X.env) :: starEach [] X.env := by rfl) :
    PE X (.Call (.Name "len" p) [.Call (.Name "set" p2) [a] [] q] [] pos) (tLenSetX X.K ta) := by
  refine ⟨fun pins s σ H Q I h => ?_⟩
  refine Call_ (ld_blt I hg hm PySem.boot_len (PyProof.Rows.callWith_builtin1 (PyProof.Rows.args_cons ?_ rfl) rfl rfl))
  refine Call_ (ld_blt I hg2 hm2 boot_set (PyProof.Rows.callWith_type1 (PyProof.Rows.args_cons (thn (ha.run pins s σ H _ I h) fun v s1 ⟨x, H1, I1, r1, q1⟩ => PyProof.Rows.args_nil ?_) na) na rfl))
  obtain ⟨l, vs, rfl, sq, kinds⟩ := q1
  cases r1
  obtain ⟨its, rv, pl⟩ : ∃ its : List Value, Vals vs its ∧ (s1.heap.IsList l its.toArray ∨ s1.heap.IsTuple l its.toArray) := by
    rcases sq with sq | sq
    · obtain ⟨its, rv, pl, _⟩ := I1.list sq
      exact ⟨its, rv, .inl pl.isList⟩
    · obtain ⟨its, rv, pl, _⟩ := I1.tuple sq
      exact ⟨its, rv, .inr pl⟩
  have lv := rv.length
  have fin : ∀ (h' : Heap) (tk n : Nat), (∃ o es ep t, h'.get? s1.heap.objs.size = some o ∧ o.ExactSet ∧ o.data = .set es ep t ∧ t.fits es.size = true ∧ es.size = n) → n ≤ 1000 → (∀ b o, s1.heap.get? b = some o → h'.get? b = some o) → Q (.int (n : Nat)) H1 →
      wpAny (model X.prog X.w) X.A (spliced (backTo pos (starEach [] X.env))) (fun vs s₂ => wpAny (model X.prog X.w) X.A (call (.builtin "len") (Value.ref s1.heap.objs.size :: vs)) (EP X pins σ Q) X.xe s₂) X.xe { s1 with heap := h', toks := tk } := by
    intro h' tk n ⟨o, es, ep, t, ho, hex, hd, hf, hn⟩ small kp qq
    refine PyProof.Rows.args_nil ?_
    have I2 : Inv X pins σ H1 { s1 with heap := h', toks := tk } := I1.kept kp
    exact call_len_set ho hex hd hf (by rw [hn]; omega) ⟨.int n, H1, I2.tok _, ⟨_, by rw [hn]⟩, qq⟩
  rcases kinds with ⟨xs, rfl, few, qq⟩ | ⟨ks, dp, tk, few, qq⟩
  · have lx : its.toArray.size = xs.length := by rw [List.size_toArray, ← lv, List.length_map]
    refine set_keys xs (I1.ok.hd hc) pl (fun i v e => ?_) lx (by show xs.length + 1 < scanBound; unfold scanBound; omega) fun h' tk L R nd mem kp => ?_
    · obtain ⟨x, ex, rx⟩ := vals_at rv e
      rw [List.getElem?_map] at ex
      cases ek : xs[i]? with
      | none => rw [ek] at ex; cases ex
      | some k => rw [ek] at ex; cases ex; exact ⟨k, rfl, rx⟩
    · have e : (once xs).length = L.length := same_len (once_nodup xs) nd fun k => (once_mem k xs).trans (mem k).symm
      have le := once_le xs
      obtain ⟨o, es, ep, t, ho, hex, hd, _, _, _, hf, hn⟩ := R
      exact fin h' tk _ ⟨o, es, ep, t, ho, hex, hd, hf, hn.trans e.symm⟩ (by omega) kp qq
  · obtain ⟨as, ra⟩ := Dp.readsAll I1 _ _ _ dp rv
    obtain ⟨ms, e1, e2, e3⟩ := nest_list (nest_readsAll ks its as ra) tk
    have lk : ks.length = ms.length := by rw [e2, List.length_map]
    refine set_tuples ms (I1.ok.hd hc) pl (by rw [List.toList_toArray]; exact e1) e3 (by omega) (by omega) fun h' tk L es ep t R mem kp => ?_
    have e : (once ks).length = (L.map (·.2)).length := same_len (once_nodup ks) R.nd fun k => (once_mem k ks).trans ((by rw [e2] : k ∈ ks ↔ k ∈ ms.map (·.2)).trans (mem k).symm)
    have le := once_le ks
    rw [List.length_map] at e
    obtain ⟨o, ho, hex, hd⟩ := R.obj
    exact fin h' tk _ ⟨o, es, ep, t, ho, hex, hd, R.fit (s := { s1 with heap := h' }), (cells_len R.cells).trans e.symm⟩ (by omega) kp qq
end
end Ns
namespace Pl
open PySem PySem.Spec PyProof.Rows L2 Tk Ns
def keyD : D → Option Key
  | .int i => some (.inl i)
  | .str x => some (.inr x)
  | _ => none
def keysD : List D → Option (List Key)
  | [] => some []
  | d :: ds => match keyD d, keysD ds with
    | some k, some ks => some (k :: ks)
    | _, _ => none
mutual
def nestD : D → Option NestedKey
  | .int i => some (.num i)
  | .str x => some (.text x)
  | .tup l => (nestsD l).map .tup
  | _ => none
def nestsD : List D → Option (List NestedKey)
  | [] => some []
  | d :: ds => match nestD d, nestsD ds with
    | some k, some ks => some (k :: ks)
    | _, _ => none
end
/-- how many unlike ones -/
def lenSet (ds : List D) : Option Nat := match keysD ds with
  | some ks => if ks.length ≤ 1000 then some (once ks).length else none
  | none => match nestsD ds with
    | some ks => if ks.all tupKey = true ∧ ks.length < 64 then some (once ks).length else none
    | none => none
def dLenSet (f : DE) : DE := bindE f fun r ρ => match r.items ρ with
  | some ds => match lenSet ds with
    | some n => some (.ok (.dat (.int (n : Nat))) ρ)
    | none => none
  | none => none
section
variable {K : PySem.W.Frag} {C : Cl} {F H : Hp}
theorem reps_keys : ∀ {ds : List D} {vs : List V} {ks : List Key}, Reps K C F vs ds → keysD ds = some ks → vs = ks.map kV
  | [], _, _, .nil, e => by cases e; rfl
  | d :: ds, _, _, .cons (v := v) x t, e => by
    unfold keysD at e
    split at e
    · rename_i k ks e1 e2
      cases e
      rw [reps_keys t e2]
      have : v = kV k := by
        cases d <;> first | (cases e1; done) | (cases e1; cases x; rfl)
      rw [this]
      rfl
    · cases e
mutual
theorem nest_py : ∀ (d : D) (k : NestedKey), nestD d = some k → d.isPy = true ∧ d.py = k.data
  | .int i, _, e => by cases e; exact ⟨rfl, rfl⟩
  | .str x, _, e => by cases e; exact ⟨rfl, rfl⟩
  | .tup l, _, e => by
    unfold nestD at e
    cases el : nestsD l with
    | none => rw [el] at e; cases e
    | some ks =>
      rw [el] at e
      cases e
      obtain ⟨h1, h2⟩ := nests_py l ks el
      exact ⟨h1, by rw [D.py, h2]; rfl⟩
  | .non, _, e => by cases e
  | .bl _, _, e => by cases e
  | .lst _, _, e => by cases e
  | .wri _, _, e => by cases e
  | .obj _ _, _, e => by cases e
  | .ty _, _, e => by cases e
  | .cls _, _, e => by cases e
theorem nests_py : ∀ (ds : List D) (ks : List NestedKey), nestsD ds = some ks → D.arePy ds = true ∧ D.pys ds = NestedKey.datas ks
  | [], _, e => by cases e; exact ⟨rfl, rfl⟩
  | d :: ds, _, e => by
    unfold nestsD at e
    cases e1 : nestD d with
    | none => rw [e1] at e; cases e
    | some k =>
      cases e2 : nestsD ds with
      | none => rw [e1, e2] at e; cases e
      | some ks =>
        rw [e1, e2] at e
        cases e
        obtain ⟨a1, a2⟩ := nest_py d k e1
        obtain ⟨b1, b2⟩ := nests_py ds ks e2
        exact ⟨by rw [D.arePy, a1, b1]; rfl, by rw [D.pys, a2, b2]; rfl⟩
end
variable {X : Cx} {B : Bw} {W : WX} {a : Expr} {f : DE} {p p2 q pos : Pos}
theorem pd_lenSet (hc : X.calm = true) (hu : X.A.units + 64 < cLine) (hg : Gl X "len") (hm : X.mg "len" = none) (hg2 : Gl X "set") (hm2 : X.mg "set" = none) (ha : PD X C B W a f) (na : starEach [a] X.env = (false, eval a X.env) :: starEach [] X.env := by rfl) :
    PD X C B W (.Call (.Name "len" p) [.Call (.Name "set" p2) [a] [] q] [] pos) (dLenSet f) :=
  PE.conv (pe_lenSetX hc hu hg hm hg2 hm2 ha na) fun σ H Q ⟨ρ, F, st, g⟩ => tG_bind (k1 := kR X.K C) (Post.start st) g fun r1 ρ1 v F1 H1 g1 p1 _ q1 => by
    try dsimp only at g1
    split at g1
    · rename_i ds e
      split at g1
      · rename_i n en
        obtain ⟨l, vs, rfl, sq, rs⟩ := q1.items p1.st e
        have rs := rs.to p1.st.sub
        refine ⟨l, vs, rfl, sq, ?_⟩
        unfold lenSet at en
        split at en
        · rename_i ks ek
          split at en
          · rename_i few
            cases en
            exact .inl ⟨ks, reps_keys rs ek, few, g1 _ F1 H1 p1 (.int _)⟩
          · cases en
        · split at en
          · rename_i ks ek
            split at en
            · rename_i few
              cases en
              obtain ⟨b1, b2⟩ := nests_py ds ks ek
              have dp := Reps.dp ds vs rs b1
              rw [b2] at dp
              exact .inr ⟨ks, dp, few.1, few.2, g1 _ F1 H1 p1 (.int _)⟩
            · cases en
          · cases en
      · exact False.elim g1
    · exact False.elim g1
end
end Pl
set_option Elab.async false
set_option linter.all false
set_option maxRecDepth 100000
set_option maxHeartbeats 4000000
/-! {elt for target in walked if ..}: what the new set holds is told by a family O of things. -/
namespace Ns
open PySem PySem.Spec PyProof.Rows L2 Tk Pl PpSet
section
variable {X : Cx} {α : Type}
/-- a family of sets: how one more member changes it -/
structure Fam (X : Cx) (α : Type) where
  O : Addr → α → HO
  nil : α
  put : V → α → α → Hp → Prop
  new : ∀ {H : Hp} {h : Heap} {a : Addr}, h.get? a = some (noSet X.w) → ObjOk X.prog X.w H h a (O a nil)
  add : ∀ {Y : Cx}, Y.prog = X.prog → Y.w = X.w → Y.K = X.K → Y.A = X.A → Y.calm = true → ∀ {pins : List (Addr × Obj)} {σ : L2.St} {H : Hp} {s : Shared} {E : Value → Shared → Prop} {D : Addr} {x x' : α} {y : V} {u : Value} {Q : Value → Shared → Prop}, L2.Inv Y pins σ H s → H D = some (O D x) → RelV y u → put y x x' H →
    (∀ s', L2.Inv Y pins σ (upd H D (O D x')) s' → Q .none s') → wpAny (model Y.prog Y.w) Y.A (call (.builtin "set.add") [.ref D, u]) Q E s
def tScF (M : Fam X α) (wi : TI) (g : TG) (tt : TT) (te : TE) (vs : List Nat) : TE := fun σ H Q => wi σ H fun J H1 => ∀ D, H1 D = none → ∃ W : Nat → Nat → Hp → Prop, (∃ m, W 0 m (upd H1 D (M.O D M.nil))) ∧ ∀ i m H, W i m H →
  (J.stop i H ∧ Q (.ref D) H) ∨ (J.go i H ∧ ∃ Nx : Hp → Prop, (∀ H', Nx H' → ∃ m', m' < m ∧ W (i + 1) m' H') ∧ ∀ x H', J.yld i H x H' → g x (wipe σ vs) H' fun σ2 H2 => wipe σ2 vs = wipe σ vs ∧ tt σ2 H2 fun b H3 =>
    if b = true then te σ2 H3 fun y H4 => ∃ c c' : α, H4 D = some (M.O D c) ∧ M.put y c c' H4 ∧ Nx (upd H4 D (M.O D c')) else Nx H3)
theorem pe_scF (M : Fam X α) {elt tg iter : Expr} {ifs : List Expr} {scope : Scope} {own : List (PySem.Str × Nat)} {pos : Pos} {wi : TI} {g : TG} {tt : TT} {te : TE} (calm : X.calm = true) (nd : X.N.Nodup) (wk : PI X tg iter wi) (bl : BlkOk X.N X.env.scope scope own)
    (tgo : ∀ (s : Shared) (H : Hp) (C : Addr) (cl : List (PySem.Str × Addr)) (fp : List Addr), PG (X.blk s H scope (compEnvC scope cl C X.env) fp) tg g) (tto : ∀ (s : Shared) (H : Hp) (C : Addr) (cl : List (PySem.Str × Addr)) (fp : List Addr), PTs (X.blk s H scope (compEnvC scope cl C X.env) fp) ifs tt)
    (eto : ∀ (s : Shared) (H : Hp) (C : Addr) (cl : List (PySem.Str × Addr)) (fp : List Addr), PE (X.blk s H scope (compEnvC scope cl C X.env) fp) elt te) (fold : ∀ x, foldedSetIterable iter X.env x = pure x := by intro _; rfl) :
    PE X (.SetComp elt [⟨tg, iter, ifs, 0⟩] scope pos) (tScF M wi g tt te (own.map (·.2))) := by
  refine ⟨fun pins s σ H Q I ask_ => ?_⟩
  rw [eval_SetComp]
  have cells_ : ∀ y ∈ scope.names, y.2 = .free → ∃ c, X.env.cells.lookup y.1 = some c := fun y hy e => (bl.free y hy e).elim (fun k => I.ok.has _ (.inl k)) fun k => I.ok.has _ (.inr k)
  refine wpAny_comprehension_free (use := none) rfl fold (closure_ok cells_) bl.kind (fun y hy e => by rw [bl.uniq y hy, e]) (thn (wk.run pins s σ H _ I ask_) fun xv s1 gx => thn gx fun itv s2 g2 => ?_)
  obtain ⟨it, fp, tn, J, H2, e, I2, T, st2, f2, turns⟩ := g2
  subst e
  refine newSet_ok (newEnv_comp ?_)
  generalize eD : s2.heap.objs.size = D
  have newD : H2 D = none := I2.hok.fresh (Nat.le_of_eq eD)
  obtain ⟨W, ⟨m0, w0⟩, turn⟩ := turns D newD
  generalize e3 : ({ s2 with heap := s2.heap.push (noSet X.w) } : Shared) = s3
  have heap3 : s3.heap = s2.heap.push (noSet X.w) := by rw [← e3]
  have I3 : L2.Inv X pins σ (upd H2 D (M.O D M.nil)) s3 := by
    subst e3
    refine I2.laid (t' := s2.toks) (fun b o e => Heap.get?_push_of_some _ e) (Nat.le_of_eq eD) (M.new ?_)
    rw [← eD]
    exact Heap.get?_push_size _ rfl
  have low : ∀ b ∈ fp, b < s2.heap.objs.size := fun b hb => (T.obj _ _ st2 b hb).elim fun o z => Heap.lt_size z.1
  have f3 : ∀ b ∈ fp, FpOk X pins (upd H2 D (M.O D M.nil)) b ∧ b < s3.heap.objs.size := fun b hb =>
    ⟨⟨by rw [upd_ne (by rw [← eD]; exact Nat.ne_of_lt (low b hb))]; exact (f2 b hb).1, (f2 b hb).2⟩, by rw [heap3, Heap.size_push]; exact Nat.lt_succ_of_lt (low b hb)⟩
  have st3 : tn 0 s3.heap := T.keep _ _ _ st2 fun b _ o e => heap3 ▸ Heap.get?_push_of_some _ e
  have I4 := block_start I3 bl nd f3
  have free3 : ∀ b ∈ fp, (upd H2 D (M.O D M.nil)) b = none := fun b hb => (f3 b hb).1.1
  generalize eC : cellsFrom (s3.heap.objs.size + 1) scope.names (cloFrom X.env.cells scope.names []) = cl at I4
  have rg := tgo s3 (upd H2 D (M.O D M.nil)) s3.heap.objs.size cl fp
  have rt := tto s3 (upd H2 D (M.O D M.nil)) s3.heap.objs.size cl fp
  have re := eto s3 (upd H2 D (M.O D M.nil)) s3.heap.objs.size cl fp
  show codeAny _ _ (.compStart (.SetComp elt [⟨tg, iter, ifs, 0⟩] scope pos) 0 (.ref it) (.ref D) (compEnvC scope cl s3.heap.objs.size X.env)) (compPost (model X.prog X.w) X.A X.xe none (EP X pins σ Q) (.ref D) s3.heap.objs.size) { s3 with heap := pushCells (s3.heap.push { cls := .type "dict", data := .dict #[] }) scope.names }
  generalize eE : compEnvC scope cl s3.heap.objs.size X.env = ce at I4 rg rt re ⊢
  have locC : ce.locals = s3.heap.objs.size := by subst eE; rfl
  generalize eH : upd H2 D (M.O D M.nil) = H3 at I3 I4 rg rt re w0 free3 f3
  generalize eS : ({ s3 with heap := pushCells (s3.heap.push { cls := .type "dict", data := .dict #[] }) scope.names } : Shared) = s4 at I4 ⊢
  have st4 : tn 0 s4.heap := T.keep _ _ _ st3 fun b _ o e => by rw [← eS]; exact pushCells_keeps _ _ _ _ (Heap.get?_push_of_some _ e)
  have standing : ∀ {σ' : L2.St} {H' : Hp} {s' : Shared}, L2.Inv (X.blk s3 H3 scope ce fp) [] σ' H' s' → (∀ b ∈ fp, H' b = none) → ∀ b ∈ fp, FpOk (X.blk s3 H3 scope ce fp) [] H' b := fun {σ' H' s'} Ib none_ b hb =>
    ⟨none_ b hb, (Ib.ok.exf b hb).1, Ib.ok.exfs b hb, .inl hb, fun x c e => (Ib.ok.exf b hb).2 x c e, fun p hp => absurd (show p ∈ ([] : List (Addr × Obj)) ++ [] from hp) (by simp)⟩
  refine codeAny_compStart_set ?_ (T.self X.A 0 _ _ _ st4 ?_)
  all_goals
    refine compLoopS_any (fun n s' => ∃ i H', L2.Inv (X.blk s3 H3 scope ce fp) [] (wipe σ (own.map (·.2))) H' s' ∧ tn i s'.heap ∧ (∀ b ∈ fp, H' b = none) ∧ W i n H') ?_ m0 ⟨0, H3, I4, st4, free3, w0⟩
    intro n s5 ⟨i, H5, I5, st5, n5, w5⟩
    rcases turn i n H5 w5 with ⟨stop, ends⟩ | ⟨go, Nx, nxt, step⟩
    · refine thnF (T.done (X.blk s3 H3 scope ce fp) rfl rfl rfl calm i [] s5 _ H5 (fun _ _ => False) I5 (standing I5 n5) st5 stop) fun r s6 ⟨er, I6⟩ => ?_
      subst er
      have I7 : L2.Inv X pins σ H5 s6 := I3.call' (ch := fp) I6.os I6.base I6.hok I6.bare fun b hb => ⟨(f3 b hb).1.2.2.2.1, (f3 b hb).1.2.1, (f3 b hb).1.2.2.2.2.1, (f3 b hb).1.2.2.2.2.2⟩
      have noneC : H5 s3.heap.objs.size = none := locC ▸ (show H5 ce.locals = none from I6.free)
      obtain ⟨m, ns, _⟩ := I6.loc
      have ns : s6.heap.Ns s3.heap.objs.size m := locC ▸ (show s6.heap.Ns ce.locals m from ns)
      obtain ⟨q0, q1, q2, q3, q4, q5⟩ := I3.fpOk (Nat.le_refl _) noneC
      exact ⟨m, ns, fun h2 sb => ⟨.ref D, H5, I7.turned (t' := s6.toks) (fun b o nb e => (sb.2 b nb).trans e) q0 q1 q3 q4 q5, rfl, ends⟩⟩
    · refine thnF (T.item (X.blk s3 H3 scope ce fp) rfl rfl rfl calm i [] s5 _ H5 (fun _ _ => False) I5 (standing I5 n5) st5 go) fun r s6 ⟨u, er, h6⟩ => ?_
      subst er
      refine thnF h6 fun _ s7 ⟨x, H7, I7, r7, y7, st7, n7⟩ => ?_
      refine thnF (rg.run _ s7 _ H7 x u _ (I7.pinned (standing I7 n7) (T.obj _ _ st7)) r7 (step x H7 y7)) fun _ s8 ⟨σ8, H8, I8, same8, q8⟩ => ?_
      refine thnF (rt.run _ s8 σ8 H8 _ I8 q8) fun b s9 ⟨H9, I9, q9⟩ => ?_
      have turned : ∀ {s' : Shared} {H' : Hp}, L2.Inv (X.blk s3 H3 scope ce fp) ([] ++ pinsAt fp s7.heap) σ8 H' s' → Nx H' → ∃ m, m < n ∧ ∃ i H', L2.Inv (X.blk s3 H3 scope ce fp) [] (wipe σ (own.map (·.2))) H' s' ∧ tn i s'.heap ∧ (∀ b ∈ fp, H' b = none) ∧ W i m H' := by
        intro s' H' Ie nx
        obtain ⟨m', lt, w'⟩ := nxt H' nx
        have pinned : ∀ b ∈ fp, ∀ o, s7.heap.get? b = some o → s'.heap.get? b = some o ∧ H' b = none := fun b hb o e => ((Ie.pin (b, o) (List.mem_append_right _ (List.mem_append_right _ (mem_pinsAt hb e)))).imp_right fun z => z.1)
        refine ⟨m', lt, i + 1, H', (Ie.unpinned (pins := [])).weak (by rw [← same8, wipe_length]) (fun j v e => ?_), T.keep _ _ _ st7 fun b hb o e => (pinned b hb o e).1, fun b hb => (T.obj _ _ st7 b hb).elim fun o z => (pinned b hb o z.1).2, w'⟩
        rw [← same8] at e
        exact (wipe_some e).1
      cases b with
      | false =>
        simp only [Bool.false_eq_true, if_false] at q9 ⊢
        exact turned I9 q9
      | true =>
        simp only [if_true] at q9 ⊢
        refine thnF (re.run _ s9 σ8 H9 _ I9 q9) fun z s10 ⟨yv, H10, I10, r10, c, c', at10, pt, nx⟩ => ?_
        exact M.add (Y := X.blk s3 H3 scope ce fp) rfl rfl rfl rfl calm I10 at10 r10 pt fun s11 I11 => turned I11 nx
end
end Ns
set_option Elab.async false
set_option linter.all false
set_option maxRecDepth 100000
set_option maxHeartbeats 4000000
/-! len({e for ..}), e a number or a text. -/
namespace Pl
open PySem PySem.Spec PyProof.Rows L2 Tk Ns
/-- sets of numbers and texts -/
def famK (X : Cx) : Fam X (List Key) where
  O := fun a l => SetK X.prog X.w a (fun k => decide (k ∈ l)) l.length
  nil := []
  put := fun y l l' H => ∃ k, y = kV k ∧ l.length + 1 < scanBound ∧ l' = if k ∈ l then l else k :: l
  new := fun {H h a} e => setK_new ⟨_, #[], 0, _, e, ⟨rfl, rfl, rfl⟩, rfl, (fun e he => (by simp at he)), (fun k => (by simp)), (by decide), rfl, rfl⟩
  add := by
    intro Y e1 e2 e3 e4 hc pins σ H s E D x x' y u Q I hD r ⟨k, ey, room, ex⟩ h
    subst ey
    rw [← e1, ← e2] at hD
    refine call_set_add (kV_is r) (key_scan r) (setK_get I hD) room fun h' sb new => ?_
    have he : ∃ u, h'.get? D = some u := new.elim fun o z => z.elim fun _ z => z.elim fun _ z => z.elim fun _ z => ⟨o, z.1⟩
    have I' := I.write (e := D) (t' := s.toks + 1) (by rw [hD]; trivial) (.inl rfl) (fun b u hb hu => (sb.2 b hb).trans hu) he (setK_new new)
    refine h _ ?_
    have eS : (fun j => decide (j ∈ x) || decide (j = k)) = fun j => decide (j ∈ x') := funext fun j => by
      rw [ex, Bool.eq_iff_iff]
      split
      · rename_i c
        simp only [Bool.or_eq_true, decide_eq_true_eq]
        exact ⟨fun z => z.elim id fun z => z ▸ c, .inl⟩
      · simp [List.mem_cons, Or.comm]
    have eN : (if decide (k ∈ x) = true then x.length else x.length + 1) = x'.length := by
      rw [ex]
      by_cases c : k ∈ x
      · rw [if_pos c, if_pos (decide_eq_true c)]
      · rw [if_neg c, if_neg (by simp [c])]; rfl
    rw [eS, eN, e1, e2] at I'
    exact I'
def rLenK (P : Program) (w : World) : List V → Hp → VK → Prop := fun xs H Q => ∃ a S n, xs = [V.ref a] ∧ H a = some (SetK P w a S n) ∧ Q (.int (n : Nat)) H
theorem cr_lenK {X : Cx} : CallR X (.builtin "len") (rLenK X.prog X.w) := by
  intro pins s σ H xs us Q I r ⟨a, S, n, e, ha, q⟩
  subst e
  rw [Vals.ref1 r]
  obtain ⟨o, es, ep, t, ho, hex, hd, _, _, hb, hf, hn⟩ := setK_get I ha
  have hb : es.size < 4096 := hb
  exact call_len_set ho hex hd hf (by omega) ⟨.int n, H, I.tok _, ⟨_, by rw [hn]⟩, q⟩
theorem keysD_append : ∀ {a b : List D} {ks : List Key}, keysD (a ++ b) = some ks → ∃ k1 k2, keysD a = some k1 ∧ keysD b = some k2 ∧ ks = k1 ++ k2
  | [], b, ks, e => ⟨[], ks, rfl, e, rfl⟩
  | d :: a, b, ks, e => by
    have e : (match keyD d, keysD (a ++ b) with | some k, some ks => some (k :: ks) | _, _ => none) = some ks := e
    cases e1 : keyD d with
    | none => rw [e1] at e; cases e
    | some k =>
      cases e2 : keysD (a ++ b) with
      | none => rw [e1, e2] at e; cases e
      | some ks' =>
        rw [e1, e2] at e
        cases e
        obtain ⟨k1, k2, h1, h2, h3⟩ := keysD_append e2
        exact ⟨k :: k1, k2, by unfold keysD; rw [e1, h1], h2, by rw [h3]; rfl⟩
theorem keysD_length : ∀ {a : List D} {ks : List Key}, keysD a = some ks → a.length = ks.length
  | [], _, e => by cases e; rfl
  | d :: a, ks, e => by
    unfold keysD at e
    split at e
    · rename_i k ks' e1 e2
      cases e
      rw [List.length_cons, List.length_cons, keysD_length e2]
    · cases e
theorem loopC_more {vs : List Nat} {tg : D → Sl → Option Sl} {ft : Ef Bool} {fe : DE} : ∀ {ds acc : List D} {ρ : Sl} {o : Res RV}, loopC vs tg ft fe ds acc ρ = some o → ∃ more ρ', o = .ok (.own (.lst (acc ++ more))) ρ'
  | [], acc, ρ, o, e => by
    cases e
    exact ⟨[], ρ, by rw [List.append_nil]⟩
  | d :: r, acc, ρ, o, e => by
    unfold loopC at e
    split at e
    · cases e
    · split at e
      · split at e
        · split at e
          · obtain ⟨more, ρ', h⟩ := loopC_more e
            exact ⟨_ :: more, ρ', by rw [h, List.append_assoc]; rfl⟩
          · cases e
        · cases e
      · exact loopC_more e
      · cases e
def kSet (r : RV) : DE := fun ρ => match r with
  | .own (.lst ds) => match keysD ds with
    | some ks => if ks.length ≤ 1000 then some (.ok (.dat (.int ((once ks).length : Nat))) ρ) else none
    | none => none
  | _ => none
def dLenSc (vs : List Nat) (fi : Ef Wk) (tg : D → Sl → Option Sl) (ft : Ef Bool) (fe : DE) : DE := bindE fi fun w => lockedE w.2 fun ρ => bindE (loopC vs tg ft (froze fe) w.1 []) kSet (wipeR ρ vs)
section
variable {K : PySem.W.Frag} {C : Cl} {B : Bw} {W : WX} {z : At0} {F H : Hp} {ρ : Sl} {σ : L2.St}
/-- a new set L that no slot holds, while it is filled -/
structure InS (X : Cx) (K : PySem.W.Frag) (C : Cl) (B : Bw) (z : At0) (F1 : Hp) (L : Addr) (ρ : Sl) (σ : L2.St) (F H : Hp) (ks : List Key) : Prop where
  post : Post K C B z ρ F σ H
  mono : Same F1 F
  free : F L = none
  no : ¬ Held ρ σ H L
  at_ : ∃ l, H L = some ((famK X).O L l) ∧ l.Nodup ∧ ∀ k, k ∈ l ↔ k ∈ ks
variable {X : Cx} {F1 F2 H2 : Hp} {L : Addr} {ρ2 : Sl} {σ2 : L2.St} {ks : List Key}
theorem InS.thru (c : InS X K C B z F1 L ρ σ F H ks) (q : Post K C B (here ρ F σ H) ρ2 F2 σ2 H2) : InS X K C B z F1 L ρ2 σ2 F2 H2 ks := by
  obtain ⟨l, hL, r⟩ := c.at_
  have st := q.stays c.free hL fun h => c.no h.held
  refine ⟨c.post.trans q, c.mono.trans q.mono, st.2, fun h => ?_, l, st.1.trans hL, r⟩
  rcases q.lowL L h with y | y
  · exact c.no y
  · exact hL.symm.trans y |> fun w => by cases w
theorem InS.grow (c : InS X K C B z F1 L ρ σ F H ks) (g : Grow F H F2 H2) : InS X K C B z F1 L ρ σ F2 H2 ks := by
  obtain ⟨l, hL, r⟩ := c.at_
  have pg := (Post.start c.post.st).grow g
  refine ⟨c.post.grow g, c.mono.trans g.mono, ?_, fun h => ?_, l, g.keep _ _ hL, r⟩
  · cases y : F2 L with
    | none => rfl
    | some u =>
      rcases g.new L u y with w | w
      · rw [c.free] at w; cases w
      · rw [hL] at w; cases w
  · rcases pg.lowL L h with y | y
    · exact c.no y
    · exact hL.symm.trans y |> fun w => by cases w
theorem InS.wiped (c : InS X K C B z F1 L ρ σ F H ks) (vs : List Nat) {σ' : L2.St} (hl : σ'.length = σ.length) (h : ∀ i, i ∉ vs → σ'[i]? = σ[i]?) : InS X K C B z F1 L (wipeR ρ vs) σ' F H ks := by
  have less : ∀ (i : Nat) (x : SV), (wipeR ρ vs)[i]? = some (some x) → ρ[i]? = some (some x) := fun i x e => (wipeR_some e).1
  have p1 := c.post.less (wipeR_length ρ vs) less
  have ag : ∀ (i : Nat) (x : SV), (wipeR ρ vs)[i]? = some (some x) → σ'[i]? = σ[i]? := fun i x e => h i (wipeR_some e).2
  exact ⟨p1.sigs hl ag, c.mono, c.free, fun y => c.no (Held.less less (Held.sigs ag y)), c.at_⟩
theorem InS.push (c : InS X K C B z F1 L ρ σ F H ks) (n0 : z.S L ∨ z.H L = none) {k : Key} {l : List Key} (hL : H L = some ((famK X).O L l)) (nd : l.Nodup) (mem : ∀ k, k ∈ l ↔ k ∈ ks) :
    InS X K C B z F1 L ρ σ F (upd H L ((famK X).O L (if k ∈ l then l else k :: l))) (ks ++ [k]) := by
  refine ⟨c.post.aside n0 c.free c.no, c.mono, c.free, fun h => ?_, _, upd_same, ?_, fun j => ?_⟩
  · obtain ⟨i, s, m, b, e1, t, q2, f⟩ := h
    have ne : b ≠ L := fun w => c.no (Held.of e1 t q2 (w ▸ Foot.root _ _ _))
    exact c.no ⟨i, s, m, b, e1, t, q2, (Foot.same (upd_ne ne)).mp f⟩
  · split
    · exact nd
    · rename_i n; exact List.nodup_cons.mpr ⟨n, nd⟩
  · rw [List.mem_append, List.mem_singleton, ← mem j]
    split
    · rename_i y; exact ⟨.inl, fun w => w.elim id fun w => w ▸ y⟩
    · rw [List.mem_cons]; exact Or.comm
theorem keyD_kV {K : PySem.W.Frag} {F : Hp} {v : V} {d : D} {k : Key} (r : Rep K C F v d) (e : keyD d = some k) : v = kV k := by
  cases d <;> first | (cases e; done) | (cases e; cases r; rfl)
theorem sc_run {fi : Ef Wk} {h : D → Sl → Option Sl} {ft : Ef Bool} {fe : DE} {vs js : List Nat} (hj : ∀ j ∈ js, j ∈ vs) (eK : X.K = K) {σ : L2.St} {H : Hp} {Q : VK} (q : tD K C B W (dLenSc vs fi h ft fe) σ H Q) :
    tScF (famK X) (tG (kI K C) B W fi) (tGt K C B js h) (tT K C B (fun _ _ _ _ => False) ft) (tD K C B (fun _ _ _ _ => False) (froze fe)) vs σ H fun v H' => rLenK X.prog X.w [v] H' Q := by
  obtain ⟨ρ, F, st, q⟩ := q
  refine tG_bind (k1 := kI K C) (Post.start st) q fun w ρ0 J F1 H1 q0 p0 _ wk => fun L nL => ?_
  obtain ⟨st1, q1⟩ := lockedE_run w.2 p0 q0
  obtain ⟨ds, is⟩ := w
  obtain ⟨G, Y, w, hG, hY⟩ := wk
  dsimp only at q1 st1 w hG hY
  generalize locks is ρ0 = ρ1 at q1 st1 hG hY
  have wl : (wipe σ vs).length = σ.length := wipe_length σ vs
  have p1 := Post.start st1
  have n0 : (here ρ1 F1 σ H1).S L ∨ (here ρ1 F1 σ H1).H L = none := .inr nL
  have c0 : InS X K C B (here ρ1 F1 σ H1) F1 L ρ1 σ F1 (upd H1 L ((famK X).O L (famK X).nil)) [] := ⟨p1.newO nL _, Same.refl _, p1.st.sub.free nL, fun h => by
    obtain ⟨i, s, m, b, e1, t, q2, f⟩ := h
    have ne : b ≠ L := fun w => p1.notHeld nL (Held.of e1 t q2 (w ▸ Foot.root _ _ _))
    exact p1.notHeld nL ⟨i, s, m, b, e1, t, q2, (Foot.same (upd_ne ne)).mp f⟩, [], upd_same, List.nodup_nil, fun k => Iff.rfl⟩
  refine ⟨fun i m H' => m = ds.length - i ∧ i ≤ ds.length ∧ ∃ ρ' F' acc ks, keysD acc = some ks ∧ InS X K C B (here ρ1 F1 σ H1) F1 L ρ' (wipe σ vs) F' H' ks ∧ (∀ i ∈ vs, ∀ x, ρ'[i]? ≠ some (some x)) ∧
    Goal K C B W (here ρ1 F1 σ H1) σ Q (bindE (loopC vs h ft (froze fe) (ds.drop i) acc) kSet ρ'), ⟨ds.length, by simp, Nat.zero_le _, wipeR ρ1 vs, F1, [], [], rfl, c0.wiped vs wl fun i n => wipe_out n, fun i hi x e => (wipeR_some e).2 hi, q1⟩, ?_⟩
  rintro i m H' ⟨rfl, hi, ρ', F', acc, ks, ek, c, free, q'⟩
  have kp : Kept (here ρ F σ H) ρ1 σ H1 H' := fun x o e n _ => c.post.frame x o e n
  have gg := hG F' H' c.mono c.post.st.sub kp
  by_cases lt : i < ds.length
  · refine .inr ⟨w.goes i H' lt gg, fun H2 => ∃ ρ2 F2 acc ks, keysD acc = some ks ∧ InS X K C B (here ρ1 F1 σ H1) F1 L ρ2 (wipe σ vs) F2 H2 ks ∧ (∀ i ∈ vs, ∀ x, ρ2[i]? ≠ some (some x)) ∧
      Goal K C B W (here ρ1 F1 σ H1) σ Q (bindE (loopC vs h ft (froze fe) (ds.drop (i + 1)) acc) kSet ρ2), fun H2 y => ⟨ds.length - (i + 1), by omega, rfl, lt, y⟩, fun x Hb y => ?_⟩
    obtain ⟨Fb, d, hd, rd, gr⟩ := hY i F' H' x Hb c.mono c.post.st.sub kp (w.yields i H' x Hb lt gg y)
    have cb := c.grow gr
    rw [drop_cons' lt hd] at q'
    unfold bindE loopC at q'
    cases e : h d ρ' with
    | none => rw [e] at q'; exact False.elim q'
    | some ρ2 =>
      rw [e] at q'
      dsimp only at q'
      refine ⟨ρ', Fb, d, ρ2, cb.post.st, rd, e, fun σ2 wp p2 => ⟨(wp vs hj).trans (wipe_idem _ _ fun i hi v y => (wipe_some y).2 hi), ?_⟩⟩
      have c2 := cb.thru p2
      have len2 : σ2.length = σ.length := by
        have := congrArg List.length (wp vs hj)
        rw [wipe_length, wipe_length, wl] at this
        exact this
      have out2 : ∀ i, i ∉ vs → (wipe σ vs)[i]? = σ2[i]? := fun i n => by
        have := congrArg (fun l : L2.St => l[i]?) (wp vs hj)
        try dsimp only at this
        rw [wipe_out n, wipe_out n] at this
        exact this.symm
      refine ⟨ρ2, Fb, c2.post.st, ?_⟩
      cases et : ft ρ2 with
      | none => rw [et] at q'; exact False.elim q'
      | some o =>
        rw [et] at q'
        cases o with
        | exc c fs ρ3 => exact False.elim q'
        | ok b ρ3 =>
          intro b' F3 H3 p3 eb
          obtain rfl : b' = b := eb
          have c3 := c2.thru p3
          cases b' with
          | false =>
            rw [if_neg Bool.false_ne_true]
            exact ⟨wipeR ρ3 vs, F3, acc, ks, ek, c3.wiped vs (by rw [wl, len2]) out2, fun i hi x e => (wipeR_some e).2 hi, q'⟩
          | true =>
            rw [if_pos rfl]
            dsimp only at q'
            refine ⟨ρ3, F3, c3.post.st, ?_⟩
            cases ee : froze fe ρ3 with
            | none => rw [ee] at q'; exact False.elim q'
            | some o =>
              rw [ee] at q'
              cases o with
              | exc c fs ρ4 => exact False.elim q'
              | ok r ρ4 =>
                cases r with
                | own m => exact False.elim q'
                | bor k => exact False.elim q'
                | shr k => exact False.elim q'
                | dat dz =>
                  dsimp only at q'
                  intro y F4 H4 p4 ry
                  have ry : Rep K C F4 y dz := ry
                  by_cases la : acc.length < 10000
                  · rw [if_pos la] at q'
                    have c4 := c3.thru p4
                    obtain ⟨l, hL4, nd, mem⟩ := c4.at_
                    -- the rest tells that dz is a key
                    have key : ∃ k, keyD dz = some k ∧ acc.length ≤ 999 := by
                      cases el : loopC vs h ft (froze fe) (ds.drop (i + 1)) (acc ++ [dz]) (wipeR ρ4 vs) with
                      | none => rw [el] at q'; exact False.elim q'
                      | some o =>
                        obtain ⟨more, ρ', eo⟩ := loopC_more el
                        rw [el, eo] at q'
                        have q' : Goal K C B W (here ρ1 F1 σ H1) σ Q (kSet (.own (.lst ((acc ++ [dz]) ++ more))) ρ') := q'
                        unfold kSet at q'
                        dsimp only at q'
                        split at q'
                        · rename_i ks2 e2
                          split at q'
                          · rename_i few
                            obtain ⟨k1, k2, h1, h2, h3⟩ := keysD_append e2
                            obtain ⟨k3, k4, h4, h5, h6⟩ := keysD_append h1
                            unfold keysD at h5
                            have l2 := keysD_length e2
                            rw [List.length_append, List.length_append, List.length_singleton] at l2
                            cases e5 : keyD dz with
                            | none => rw [e5] at h5; cases h5
                            | some k => exact ⟨k, rfl, by omega⟩
                          · exact False.elim q'
                        · exact False.elim q'
                    obtain ⟨k, ekd, few⟩ := key
                    have lle : l.length ≤ ks.length := nodup_len l ks nd fun x hx => (mem x).mp hx
                    have la2 := keysD_length ek
                    refine ⟨l, _, hL4, ⟨k, keyD_kV ry ekd, by show l.length + 1 < 4096; omega, rfl⟩, wipeR ρ4 vs, F4, acc ++ [dz], ks ++ [k], ?_, ?_, fun i hi x e => (wipeR_some e).2 hi, q'⟩
                    · have : ∀ {a : List D} {ka : List Key}, keysD a = some ka → keysD (a ++ [dz]) = some (ka ++ [k]) := by
                        intro a
                        induction a with
                        | nil => intro ka e; cases e; show (match keyD dz, keysD [] with | some k, some ks => some (k :: ks) | _, _ => none) = _; rw [ekd]; rfl
                        | cons d a ih =>
                          intro ka e
                          unfold keysD at e
                          split at e
                          · rename_i k' ks' e1 e2
                            cases e
                            show (match keyD d, keysD (a ++ [dz]) with | some k, some ks => some (k :: ks) | _, _ => none) = _
                            rw [e1, ih e2]
                            rfl
                          · cases e
                      exact this ek
                    · exact (c4.push n0 hL4 nd mem).wiped vs (by rw [wl, len2]) out2
                  · rw [if_neg la] at q'
                    exact False.elim q'
  · have e : i = ds.length := by omega
    subst e
    rw [List.drop_length] at q'
    refine .inl ⟨w.stops H' gg, ?_⟩
    have cf := c.wiped vs wl.symm fun i n => (wipe_out n).symm
    rw [wipeR_idem ρ' vs free] at cf
    obtain ⟨l, hL, nd, mem⟩ := cf.at_
    have q' : Goal K C B W (here ρ1 F1 σ H1) σ Q (kSet (.own (.lst acc)) ρ') := q'
    unfold kSet at q'
    dsimp only at q'
    rw [ek] at q'
    dsimp only at q'
    split at q'
    · have el : (once ks).length = l.length := same_len (once_nodup ks) nd fun k => (once_mem k ks).trans (mem k).symm
      rw [el] at q'
      exact ⟨L, _, l.length, rfl, hL, q' _ F' H' cf.post (.int _)⟩
    · exact False.elim q'
end
section
variable {X : Cx} {C : Cl} {B : Bw} {W : WX} {elt tg iter : Expr} {ifs : List Expr} {scope : Scope} {own : List (Str × Nat)} {pos p pos2 : Pos} {fi : Ef Wk} {h : D → Sl → Option Sl} {ft : Ef Bool} {fe : DE} {js : List Nat}
theorem pd_lenSc (hg1 : Gl X "len") (hm1 : X.mg "len" = none) (hc : X.calm = true) (hN : X.N.Nodup) (hi : PDI X C B W tg iter fi) (ok : BlkOk X.N X.env.scope scope own) (hj : ∀ j ∈ js, j ∈ own.map (·.2))
    (hg : ∀ (s : Shared) (H : Hp) (L : Addr) (cl : List (Str × Addr)) (fp : List Addr), PDG (X.blk s H scope (compEnvC scope cl L X.env) fp) C B js tg h) (ht : ∀ (s : Shared) (H : Hp) (L : Addr) (cl : List (Str × Addr)) (fp : List Addr), PTs (X.blk s H scope (compEnvC scope cl L X.env) fp) ifs (tT X.K C B W0 ft))
    (he : ∀ (s : Shared) (H : Hp) (L : Addr) (cl : List (Str × Addr)) (fp : List Addr), PD (X.blk s H scope (compEnvC scope cl L X.env) fp) C B W0 elt fe) (hs : ∀ x, foldedSetIterable iter X.env x = pure x := by intro _; rfl)
    (na : starEach [(.SetComp elt [⟨tg, iter, ifs, 0⟩] scope pos2 : Expr)] X.env = (false, eval (.SetComp elt [⟨tg, iter, ifs, 0⟩] scope pos2) X.env) :: starEach [] X.env := by rfl) :
    PD X C B W (.Call (.Name "len" p) [.SetComp elt [⟨tg, iter, ifs, 0⟩] scope pos2] [] pos) (dLenSc (own.map (·.2)) fi h ft fe) :=
  PE.conv (pe_callB cr_lenK hg1 hm1 PySem.boot_len (pa_cons (pe_scF (famK X) hc hN hi ok hg ht (fun s H L cl fp => pd_frz (he s H L cl fp)) hs) pa_nil na)) fun σ H Q q => sc_run hj rfl q
end
end Pl
set_option Elab.async false
set_option linter.all false
set_option maxRecDepth 100000
set_option maxHeartbeats 4000000
namespace Pl
open PySem PySem.Spec PyProof.Rows L2 Tk
@[simp] theorem clsOf_wri (m : Str) (i : List D) (ρ : Sl) : clsOf m (.dat (.wri i)) ρ = none := rfl
@[simp] theorem isNon_non : Pl.isNon .non = true := rfl
@[simp] theorem isNon_int (i : Int) : Pl.isNon (.int i) = false := rfl
@[simp] theorem isNon_bl (i : Bool) : Pl.isNon (.bl i) = false := rfl
@[simp] theorem isNon_str (i : Str) : Pl.isNon (.str i) = false := rfl
@[simp] theorem isNon_lst (i : List D) : Pl.isNon (.lst i) = false := rfl
@[simp] theorem isNon_tup (i : List D) : Pl.isNon (.tup i) = false := rfl
@[simp] theorem isNon_obj (c : Nat) (i : List D) : Pl.isNon (.obj c i) = false := rfl
@[simp] theorem putD_nil (f : Str) (d : D) : putD f d [] = [(f, d)] := rfl
@[simp] theorem putD_cons (f g : Str) (d w : D) (r : List (Str × D)) : putD f d ((g, w) :: r) = if g = f then (g, d) :: r else (g, w) :: putD f d r := rfl
theorem enumL_at {l : List D} {i : Nat} {d : D} (h : l[i]? = some d) : (enumL l)[i]? = some (.tup [.int (i : Int), d]) := by
  unfold enumL
  rw [List.getElem?_zipWith, h]
  have : i < l.length := (List.getElem?_eq_some_iff.mp h).1
  simp [this]
theorem enumL_length (l : List D) : (enumL l).length = l.length := by simp [enumL]
/-- a loop over the places of a list -/
theorem loopS_at {tg : D → Sl → Option Sl} {body : DS} (ds : List D) (I : Nat → Sl → Prop) (step : ∀ i d ρ, ds[i]? = some d → I i ρ → ∃ ρ1 ρ2, tg d ρ = some ρ1 ∧ (body ρ1 = some (.nx ρ2) ∨ body ρ1 = some (.ct ρ2)) ∧ I (i + 1) ρ2) {ρ : Sl} (h : I 0 ρ) :
    ∃ ρ', I ds.length ρ' ∧ loopS tg body ds ρ = some (.nx ρ') := by
  obtain ⟨ρ', ⟨i, e, hi, h'⟩, q⟩ := loopS_inv (tg := tg) (body := body) (fun l ρ => ∃ i, l = ds.drop i ∧ i ≤ ds.length ∧ I i ρ) (by
    rintro d r ρ ⟨i, e, hi, h⟩
    have lt : i < ds.length := by
      refine Nat.lt_of_le_of_ne hi fun w => ?_
      subst w
      rw [List.drop_length] at e
      cases e
    rw [List.drop_eq_getElem_cons lt] at e
    injection e with e1 e2
    obtain ⟨ρ1, ρ2, h1, h2, h3⟩ := step i d ρ (by rw [List.getElem?_eq_getElem lt, e1]) h
    exact ⟨ρ1, ρ2, h1, h2, i + 1, e2, lt, h3⟩) ds ρ ⟨0, rfl, Nat.zero_le _, h⟩
  have : i = ds.length := by
    have := congrArg List.length e
    simp at this
    omega
  subst this
  exact ⟨ρ', h', q⟩
theorem loopC_list {i : Nat} {fe : DE} {ρ : Sl} (hρ : ∀ x, (ρ.set i x).set i none = ρ) : ∀ (ds es acc : List D), ds.length = es.length → (∀ (k : Nat) (d e : D), ds[k]? = some d → es[k]? = some e → fe (ρ.set i (some (.dat d))) = some (.ok (.dat e) (ρ.set i (some (.dat d))))) → acc.length + ds.length ≤ 10000 →
    loopC [i] (tgN i) yesT fe ds acc ρ = some (.ok (.own (.lst (acc ++ es))) ρ)
  | [], [], acc, _, _, _ => by simp
  | [], _ :: _, _, h, _, _ => by cases h
  | _ :: _, [], _, h, _, _ => by cases h
  | d :: r, e :: es, acc, hl, hd, l => by
    rw [ev_loopC_cons]
    simp only [ev_tgN, ev_yes]
    rw [hd 0 d e rfl rfl]
    simp only [List.length_cons] at l
    have l' : acc.length < 10000 := by omega
    simp only [if_pos l', wipeR_cons, wipeR_nil]
    rw [hρ, loopC_list hρ r es (acc ++ [e]) (by simpa using hl) (fun k d' e' h1 h2 => hd (k + 1) d' e' (by simpa using h1) (by simpa using h2)) (by rw [List.length_append, List.length_singleton]; omega)]
    simp
end Pl
namespace Pl
open PySem PySem.Spec PyProof.Rows L2 Tk
@[simp] theorem ev_in (r1 r2 : RV) (ρ : Sl) : gIn r1 r2 ρ = lift2 hIn r1 r2 ρ := rfl
@[simp] theorem hIn_ap (a b : D) : hIn a b = (dIn a b).map fun c => .bl c := rfl
@[simp] theorem hNotIn_ap (a b : D) : hNotIn a b = (dIn a b).map fun c => .bl !c := rfl
@[simp] theorem ev_chain (h h' : D → D → Option D) (fa fb fc : DE) (ρ : Sl) : dChain h h' fa fb fc ρ = bindE fa (fun r1 => bindE fb fun r2 ρ => match r1.see ρ, r2.see ρ with
  | some a, some b => match h a b with
    | some (.bl true) => bindE fc (fun r3 ρ => match r2.see ρ, r3.see ρ with
      | some b', some c => match h' b' c with
        | some d => some (.ok (.dat d) ρ)
        | none => none
      | _, _ => none) ρ
    | some (.bl false) => some (.ok (.dat (.bl false)) ρ)
    | _ => none
  | _, _ => none) ρ := rfl
@[simp] theorem ev_noPart (ρ : Sl) : dNoPart ρ = some (.ok none ρ) := rfl
@[simp] theorem ev_part (f : DE) (ρ : Sl) : dPart f ρ = bindE f (fun r ρ => match r.see ρ with
  | some (.int i) => some (.ok (some i) ρ)
  | _ => none) ρ := rfl
@[simp] theorem ev_slc (f : DE) (fl fh : Ef (Option Int)) (ρ : Sl) : dSlc f fl fh ρ = bindE f (fun r => bindE fl fun lo => bindE fh fun hi ρ => match r.see ρ with
  | some (.lst l) => some (.ok (.own (.lst (cutD l lo hi))) ρ)
  | some (.wri l) => some (.ok (.own (.lst (cutD l lo hi))) ρ)
  | some (.tup l) => some (.ok (.dat (.tup (cutD l lo hi))) ρ)
  | some (.str x) => if x.length ≤ 10000 then some (.ok (.dat (.str (cutS x lo hi))) ρ) else none
  | _ => none) ρ := rfl
@[simp] theorem ev_zipX (f f' : DE) (ρ : Sl) : dZipX f f' ρ = bindE f (fun r => bindE f' fun r' ρ => match walked r ρ, walked r' ρ with
  | some w, some w' => some (.ok (zipL w.1 w'.1, w.2 ++ w'.2) ρ)
  | _, _ => none) ρ := rfl
@[simp] theorem ev_aug (i : Nat) (f : DE) (ρ : Sl) : sAug i f ρ = (match ρ[i]? with
  | some (some (.dat (.int n))) => bindS f (fun r ρ' => match r.see ρ' with
    | some (.int m) => some (.nx (ρ'.set i (some (.dat (.int (n + m))))))
    | _ => none) ρ
  | _ => none) := rfl
@[simp] theorem ev_listRg (f : DE) (ρ : Sl) : dListRg f ρ = bindE f (fun r ρ => match r.see ρ with
  | some (.int n) => if n.natAbs ≤ 1000 then some (.ok (.own (.lst (rangeL 0 n.toNat))) ρ) else none
  | _ => none) ρ := rfl
@[simp] theorem ev_tupRg (f : DE) (ρ : Sl) : dTupRg f ρ = bindE f (fun r ρ => match r.see ρ with
  | some (.int n) => if n.natAbs ≤ 1000 then some (.ok (.dat (.tup (rangeL 0 n.toNat))) ρ) else none
  | _ => none) ρ := rfl
@[simp] theorem ev_lenSet (f : DE) (ρ : Sl) : dLenSet f ρ = bindE f (fun r ρ => match r.items ρ with
  | some ds => match lenSet ds with
    | some n => some (.ok (.dat (.int (n : Nat))) ρ)
    | none => none
  | none => none) ρ := rfl
@[simp] theorem ev_lenSc (vs : List Nat) (fi : Ef Wk) (tg : D → Sl → Option Sl) (ft : Ef Bool) (fe : DE) (ρ : Sl) : dLenSc vs fi tg ft fe ρ = bindE fi (fun w => lockedE w.2 fun ρ => bindE (loopC vs tg ft (froze fe) w.1 []) kSet (wipeR ρ vs)) ρ := rfl
@[simp] theorem ev_kSet (ds : List D) (ρ : Sl) : kSet (.own (.lst ds)) ρ = (match keysD ds with
  | some ks => if ks.length ≤ 1000 then some (.ok (.dat (.int ((Ns.once ks).length : Nat))) ρ) else none
  | none => none) := rfl
@[simp] theorem ev_sortD (r : RV) (ρ : Sl) : gSortD [r] ρ = (match r.items ρ with
  | some l => if sortable l = true then some (.ok (.own (.lst (sortD l))) ρ) else none
  | none => none) := rfl
@[simp] theorem hLtD_int (i j : Int) : hLtD (.int i) (.int j) = some (.bl (decide (i < j))) := rfl
end Pl
namespace Pl
open PySem PySem.Spec PyProof.Rows L2 Tk
/-! ### is True -/
def hIsB (a b : D) : Option D := match a, b with
  | .bl x, .bl y => some (.bl (decide (x = y)))
  | _, _ => none
def hNotB (a b : D) : Option D := match a, b with
  | .bl x, .bl y => some (.bl (!decide (x = y)))
  | _, _ => none
abbrev gIsB := lift2 hIsB
abbrev gNotB := lift2 hNotB
@[simp] theorem hIsB_bl (x y : Bool) : hIsB (.bl x) (.bl y) = some (.bl (decide (x = y))) := rfl
@[simp] theorem hNotB_bl (x y : Bool) : hNotB (.bl x) (.bl y) = some (.bl (!decide (x = y))) := rfl
section
variable {K : PySem.W.Frag} {C : Cl}
theorem o_isB : Op2 K C (fun x y H Q => ∃ a b, x = .bl a ∧ y = .bl b ∧ Q (.bl (decide (a = b))) H) gIsB := Sc2.op (by
  intro H x y a b d Q ra rb e q
  unfold hIsB at e
  split at e
  · cases e; exact ⟨_, _, ra.bl_inv, rb.bl_inv, q _ fun F => .bl _⟩
  · cases e)
theorem o_notB : Op2 K C (fun x y H Q => ∃ a b, x = .bl a ∧ y = .bl b ∧ Q (.bl (!decide (a = b))) H) gNotB := Sc2.op (by
  intro H x y a b d Q ra rb e q
  unfold hNotB at e
  split at e
  · cases e; exact ⟨_, _, ra.bl_inv, rb.bl_inv, q _ fun F => .bl _⟩
  · cases e)
end
end Pl
set_option Elab.async false
set_option linter.all false
set_option maxRecDepth 100000
set_option maxHeartbeats 4000000
/-! Defs with defaults, all parameters given. -/
namespace Pl
open PySem PySem.Spec PyProof.Rows L2 Tk
structure FunT (K : PySem.W.Frag) (x qual : Str) (st : Stmt) (nd : Nat) (f : Addr) (fd : FuncData) : Prop where
  ex : ∃ (oc : Value) (od : Option Addr) (T : Addr) (o : Obj) (its : List Value) (n : Nat) (kV doc pm : Value) (an : Option Addr) (cdv ct : Value) (osl : Array (Option Value)),
    fd = PySem.W.fnOf x qual (defArgs st) (defBody st) (defScope st) (.ref T) kV doc pm an cdv ct ∧ K.lookup f = some ⟨oc, od, .func fd, osl⟩ ∧ PySem.W.codeIn K cdv qual = true ∧ K.lookup T = some o ∧ o.data = .seq its.toArray n ∧ its.length = nd
  kp : PySem.W.keepIn K (.ref f) = true
theorem funT_mk {K : PySem.W.Frag} {x qual : Str} {st : Stmt} {nd : Nat} {f T : Addr} {oc : Value} {od an od2 : Option Addr} {osl sl2 : Array (Option Value)} {its : Array Value} {n : Nat} {kV doc pm cdv ct oc2 : Value} (l : K.lookup f = some ⟨oc, od, .func (PySem.W.fnOf x qual (defArgs st) (defBody st) (defScope st) (.ref T) kV doc pm an cdv ct), osl⟩)
    (t : K.lookup T = some ⟨oc2, od2, .seq its n, sl2⟩) (e : its.size = nd)
    (c : PySem.W.codeIn K cdv qual = true) (k : PySem.W.keepIn K (.ref f) = true) : FunT K x qual st nd f (PySem.W.fnOf x qual (defArgs st) (defBody st) (defScope st) (.ref T) kV doc pm an cdv ct) :=
  ⟨⟨oc, od, T, _, its.toList, n, kV, doc, pm, an, cdv, ct, osl, rfl, l, c, t, by simp, by simpa using e⟩, k⟩
section
variable {P : Program} {w : World} {K : PySem.W.Frag} {mg : Str → Option Value} {base : Heap} {C : Cl}
theorem FunT.okX {nd : Nat} {x qual : Str} {st : Stmt} {f : Addr} {fd : FuncData} {N ps : List Str} {k : Nat} {sp : Sp} (F : FunT K x qual st nd f fd) (S : FnScope N ps (defScope st)) (len : ∀ vs H Q E, sp vs H Q E → vs.length = ps.length)
    (hbody : ∀ (cdv : Value) (A : Around) (outer : List Env) (s : Shared) (H : Hp) (vs : List V) (Q : VK) (E : XK), Room k (A.deeper (envOfC qual (defScope st) s.heap.objs.size f cdv)) → sp vs H Q E →
      ∃ t, PSs (cxOf (L2.CX P w) P w K mg base N qual (defScope st) f cdv A outer s H E) (defBody st) t ∧ t { nx := fun _ H' => Q .non H', rt := Q } (start N vs) H) : FnOk P w K mg base (L2.CX P w) (k + 1) f fd ps sp := by
  obtain ⟨oc, od, T, o, its, n, kV, doc, pm, an, cdv, ct, osl, rfl, lk, hcd, _⟩ := F.ex
  exact fn_of lk hcd S len fun A outer s H vs Q E hr hsp => hbody cdv A outer s H vs Q E hr hsp
theorem FunT.binds {nd : Nat} {x qual : Str} {st : Stmt} {f : Addr} {fd : FuncData} {ps : List Str} (F : FunT K x qual st nd f fd)
    (h : ∀ (T : Addr) (kV doc pm : Value) (an : Option Addr) (cdv ct : Value) (us its : List Value), us.length = ps.length → its.length = nd →
      ∃ k, bindArgs (PySem.W.fnOf x qual (defArgs st) (defBody st) (defScope st) (.ref T) kV doc pm an cdv ct) ⟨us, []⟩ = seqItems? (.ref T) >>= k ∧ k (some its.toArray) = pure (ps.zip us)) : Binds K fd ps [] := by
  obtain ⟨oc, od, T, o, its, n, kV, doc, pm, an, cdv, ct, osl, rfl, lk, hcd, lT, oT, hl⟩ := F.ex
  intro s us X hlen
  rw [List.append_nil] at hlen ⊢
  obtain ⟨k, e1, e2⟩ := h T kV doc pm an cdv ct us its hlen hl
  refine BindsTo.of_looks fun M => ?_
  rw [e1]
  exact looks_items X lT oT (.of_pure e2)
theorem def_okT {nd : Nat} {x qual : Str} {st : Stmt} {f : Addr} {fd : FuncData} {N ps : List Str} {k n : Nat} {g : DS} (F : FunT K x qual st nd f fd) (S : FnScope N ps (defScope st)) (hn : ps.length = n)
    (body : ∀ (cdv : Value) (A : Around) (outer : List Env) (s : Shared) (H : Hp) (E : XK) (B : Bw), Room k (A.deeper (envOfC qual (defScope st) s.heap.objs.size f cdv)) → B.np = n →
      PDSs (cxOf (L2.CX P w) P w K mg base N qual (defScope st) f cdv A outer s H E) C B (fun cls d _ H => E cls d H) (defBody st) g) :
    FnOk P w K mg base (L2.CX P w) (k + 1) f fd ps (spF K C (callF N.length n g)) := by
  have arity : ∀ (vs : List V) (H : Hp) (Q : VK) (E : XK), spF K C (callF N.length n g) vs H Q E → vs.length = n := by
    rintro vs H Q E ⟨as, F0, st0, q⟩
    have l := st0.len
    rw [List.length_map] at l
    by_cases h : as.length = n
    · rw [l, h]
    · have e : callF N.length n g as = none := if_neg h
      rw [e] at q
      exact False.elim q
  refine F.okX S (fun vs H Q E h => by rw [hn]; exact arity vs H Q E h) fun cdv A outer s H vs Q E hr h => ?_
  have lv := arity vs H Q E h
  obtain ⟨as, F0, st0, q⟩ := h
  have la : as.length = n := by
    have l := st0.len
    rw [List.length_map] at l
    rw [← l, lv]
  refine ⟨_, body cdv A outer s H E (bwOf as vs) hr la, ?_⟩
  have he := here_enter (as := as) (vs := vs) (N := N) (F := F0) (H := H)
  have hen := enter (N := N) st0
  rw [la] at he hen
  refine ⟨as ++ List.replicate (N.length - n) none, F0, hen, ?_⟩
  rw [he]
  have ec : callF N.length n g as = (match g (as ++ List.replicate (N.length - n) none) with
    | some (.nx ρ) => some (.ok (.dat .non) (finOf n ρ))
    | some (.rt (.dat d) ρ) => some (.ok (.dat d) (finOf n ρ))
    | some (.rt (.own m) ρ) => some (.ok (.own m) (finOf n ρ))
    | some (.rt (.bor i) ρ) => match ρ[i]? with
      | some (some (.dat d)) => some (.ok (.dat d) (finOf n ρ))
      | some (some (.own m)) => if n ≤ i then some (.ok (.own m) (finOf n ρ)) else none
      | _ => none
    | some (.exc c fs ρ) => some (.exc c fs (finOf n ρ))
    | _ => none) := if_pos la
  rw [ec] at q
  have lv' : ∀ {ρ' : Sl} {σ' : L2.St} {F' H' : Hp}, Post K C (bwOf as vs) (here as F0 (vs.map some) H) ρ' F' σ' H' → Post K C noB (here as F0 (vs.map some) H) (finOf n ρ') F' (vs.map some) H' ∧
      ∀ x, Held (finOf n ρ') (vs.map some) H' x → ∃ (i : Nat) (m : MO) (a : Addr), i < n ∧ ρ'[i]? = some (some (.own m)) ∧ σ'[i]? = some (some (.ref a)) ∧ Foot H' a m x := by
    intro ρ' σ' F' H' p
    have := leave st0 p
    rw [la] at this
    exact this
  cases eg : g (as ++ List.replicate (N.length - n) none) with
  | none => rw [eg] at q; exact False.elim q
  | some o =>
    rw [eg] at q
    cases o with
    | bk ρ' => exact False.elim q
    | ct ρ' => exact False.elim q
    | nx ρ' => exact fun σ' F' H' p => q .non F' H' (lv' p).1 .non
    | exc c fs ρ' => exact fun dd σ' F' H' p ex => q dd F' H' (lv' p).1 ex
    | rt r ρ' =>
      cases r with
      | dat d => exact fun v σ' F' H' p rv => q v F' H' (lv' p).1 rv
      | shr i => exact False.elim q
      | own m =>
        rintro v σ' F' H' p ⟨a, rfl, rm, no⟩
        obtain ⟨p1, c1⟩ := lv' p
        refine q _ F' H' p1 ⟨a, rfl, rm, fun x f => ⟨fun y => ?_, (no x f).2⟩⟩
        obtain ⟨i, m', b, _, e1, e2, f2⟩ := c1 x y
        exact (no x f).1 ⟨i, _, m', b, e1, rfl, e2, f2⟩
      | bor i =>
        intro v σ' F' H' p rv
        have rv : σ'[i]? = some (some v) := rv
        obtain ⟨p1, c1⟩ := lv' p
        dsimp only at q
        split at q
        · rename_i d e
          obtain ⟨v', e1, r⟩ := p.st.dat i d e
          rw [rv] at e1
          cases e1
          exact q _ F' H' p1 r
        · rename_i m e
          split at q
          · rename_i hi
            obtain ⟨a, e1, r⟩ := p.st.own e
            rw [rv] at e1
            cases e1
            refine q _ F' H' p1 ⟨a, rfl, r, fun x f => ⟨fun y => ?_, p.low x ⟨i, m, a, e, rv, f⟩⟩⟩
            obtain ⟨j, m', b, hj, g1, g2, f2⟩ := c1 x y
            exact p.st.sep j i b a x m' m _ (by omega) g1 e rfl g2 rv f2 f
          · exact False.elim q
        · exact False.elim q
end
end Pl
set_option Elab.async false
set_option linter.all false
set_option maxRecDepth 100000
set_option maxHeartbeats 8000000
namespace Sh
open PySem PySem.Spec PyProof.Rows L2 Tk Pl
def att : Nat → List Str
  | 10 => ["rows"]
  | 11 => ["talks", "steps"]
  | 12 => ["numbers", "book", "row", "past"]
  | 13 => ["book", "live"]
  | _ => []
@[simp] theorem att_T : att 10 = (["rows"] : List Str) := rfl
@[simp] theorem att_B : att 11 = (["talks", "steps"] : List Str) := rfl
@[simp] theorem att_L : att 12 = (["numbers", "book", "row", "past"] : List Str) := rfl
@[simp] theorem att_D : att 13 = (["book", "live"] : List Str) := rfl
def g_Talk___len__ : DS :=
  sRet (dCall (on1 hLen) (dCons (dFld att "rows" (dVar 0)) (dNil)))
def F_Talk___len__ : DE := callF 1 1 g_Talk___len__
def mt_len_T : Nat → Option DE
  | 10 => some F_Talk___len__
  | _ => none
def g__law_box : DS :=
  seqS (sSet 2 2 (dBin gAdd (dBin gMul (retE (.dat (.int 6451))) (dVar 1)) (retE (.dat (.int 107))))) <|
  seqS (sIf (asB (dBin gLt (dVar 1) (dCall (on1 hLen) (dCons (dVar 0) (dNil))))) (sSet 2 2 (dCall (on1 hAbs) (dCons (dCall (on1 hInt) (dCons (dBin gIx (dVar 0) (dVar 1)) (dNil))) (dNil)))) (sIf (asB (dBin gGt (dCall (on1 hLen) (dCons (dVar 0) (dNil))) (retE (.dat (.int 0))))) (sSet 2 2 (dBin gAdd (dVar 2) (dBin gMul (dBin gMod (dCall (on1 hInt) (dCons (dBin gIx (dVar 0) (dBin gMod (dCall (on1 hInt) (dCons (dVar 1) (dNil))) (dCall (on1 hLen) (dCons (dVar 0) (dNil))))) (dNil))) (retE (.dat (.int 2147483629)))) (retE (.dat (.int 94811)))))) (nxS))) <|
  seqS (sSet 3 2 (dBin gAdd (dBin gMod (dCall (on1 hInt) (dCons (dBin gAdd (dBin gAdd (dBin gMul (dBin gMod (dCall (on1 hInt) (dCons (dVar 2) (dNil))) (retE (.dat (.int 2147483629)))) (retE (.dat (.int 63463)))) (dBin gMul (retE (.dat (.int 34703))) (dVar 1))) (retE (.dat (.int 7)))) (dNil))) (retE (.dat (.int 2147483629)))) (retE (.dat (.int 1))))) <|
  seqS (sSet 4 2 (dIfE (asB (dBin gGe (dVar 2) (dBin gPow (retE (.dat (.int 10))) (retE (.dat (.int 18)))))) (dVar 2) (retE (.dat (.int 0))))) <|
  sRet (dLst (dCons (froze (dVar 4)) (dCons (froze (dVar 3)) (dCons (retE (.dat (.int 0))) (dNil)))))
def F__law_box : DE := callF 5 2 g__law_box
def g__law_take : DS :=
  seqS (sIf (asB (dBin gGt (dBin gIx (dVar 0) (retE (.dat (.int 0)))) (retE (.dat (.int 0))))) (seqS (sSet 2 2 (dBin gMod (dCall (on1 hInt) (dCons (dBin gIx (dVar 0) (retE (.dat (.int 0)))) (dNil))) (dVar 1))) <|
  seqS (sStore (dBin gFdiv (dBin gIx (dVar 0) (retE (.dat (.int 0)))) (dVar 1)) (dVar 0) (retE (.dat (.int 0)))) <|
  sRet (dVar 2)) (nxS)) <|
  seqS (sStore (dBin gAdd (dBin gIx (dVar 0) (retE (.dat (.int 2)))) (retE (.dat (.int 1)))) (dVar 0) (retE (.dat (.int 2)))) <|
  seqS (sSet 3 2 (dBin gMod (dCall (on1 hInt) (dCons (dBin gMul (dBin gAdd (dBin gIx (dVar 0) (retE (.dat (.int 1)))) (dBin gMul (retE (.dat (.int 96137))) (dBin gIx (dVar 0) (retE (.dat (.int 2)))))) (retE (.dat (.int 41399)))) (dNil))) (retE (.dat (.int 2147483647))))) <|
  seqS (sStore (dBin gAdd (dBin gMod (dCall (on1 hInt) (dCons (dBin gAdd (dBin gMul (dVar 3) (retE (.dat (.int 60493)))) (retE (.dat (.int 25903)))) (dNil))) (retE (.dat (.int 2147483629)))) (retE (.dat (.int 1)))) (dVar 0) (retE (.dat (.int 1)))) <|
  sRet (dBin gMod (dCall (on1 hInt) (dCons (dBin gFdiv (dBin gAdd (dBin gMul (dVar 3) (retE (.dat (.int 2147483647)))) (dBin gIx (dVar 0) (retE (.dat (.int 1))))) (retE (.dat (.int 8191)))) (dNil))) (dVar 1))
def F__law_take : DE := callF 4 2 g__law_take
def g__law_pick : DS :=
  sRet (dBin gIx (dVar 1) (dFn F__law_take (dCons (dVar 0) (dCons (dCall (on1 hLen) (dCons (dVar 1) (dNil))) (dNil)))))
def F__law_pick : DE := callF 2 2 g__law_pick
def e__law_rows_1 : DE :=
  dFn F__law_pick (dCons (dVar 0) (dCons (dLend (dLst (dCons (retE (.dat (.int 0))) (dCons (retE (.dat (.int 0))) (dCons (retE (.dat (.int 1))) (dCons (froze (dFn F__law_take (dCons (dVar 0) (dCons (dLend (dBin gAdd (dVar 2) (retE (.dat (.int 1))))) (dNil))))) (dNil))))))) (dNil)))
def b__law_rows_2 : DS :=
  seqS (sSet 5 3 (dLc [6] (dRange1 (dVar 1)) (tgN 6) (yesT) (e__law_rows_1))) <|
  seqS (sStore (dBin gAdd (retE (.dat (.int 1))) (dFn F__law_take (dCons (dVar 0) (dCons (dLend (dVar 2)) (dNil))))) (dVar 5) (dVar 4)) <|
  sExpr (dMeth "list" gAppend (dVar 3) (dCons (froze (dVar 5)) (dNil)))
def g__law_rows : DS :=
  seqS (sSet 3 3 (dLst (dNil))) <|
  seqS (sFor (dRange1 (dVar 1)) (tgN 4) (b__law_rows_2)) <|
  sRet (dVar 3)
def F__law_rows : DE := callF 7 3 g__law_rows
def g_Talk___eq__ : DS :=
  sRet (dAndV (dCall (on2 (hIsiX [10])) (dCons (dVar 1) (dCons (retE (.dat (.cls 10))) (dNil)))) (dBin gEq (dFld att "rows" (dVar 0)) (dFld att "rows" (dVar 1))))
def F_Talk___eq__ : DE := callF 2 2 g_Talk___eq__
def g_is_sequence : DS :=
  sRet (dIsi2 "list" "tuple" (dVar 0))
def F_is_sequence : DE := callF 1 1 g_is_sequence
def g_is_int : DS :=
  sRet (dAndV (dCall (on2 hIsi) (dCons (dVar 0) (dCons (retE (.dat (.ty "int"))) (dNil)))) (dNotV (dCall (on2 hIsi) (dCons (dVar 0) (dCons (retE (.dat (.ty "bool"))) (dNil))))))
def F_is_int : DE := callF 1 1 g_is_int
def g_is_number : DS :=
  sRet (dAndV (dFn F_is_int (dCons (dLend (dVar 0)) (dNil))) (dBin gGe (dVar 0) (retE (.dat (.int 0)))))
def F_is_number : DE := callF 1 1 g_is_number
def g_is_row_of : DS :=
  seqS (sIf (dOrT (dNotT (asB (dFn F_is_sequence (dCons (dLend (dVar 0)) (dNil))))) (asB (dBin gNe (dCall (on1 hLen) (dCons (dVar 0) (dNil))) (dVar 2)))) (sRet (retE (.dat (.bl false)))) (nxS)) <|
  sRet (dAndV (dCall (on1 hAll) (dCons (dLc [3] (dItems (dVar 0)) (tgN 3) (yesT) (dFn F_is_number (dCons (dLend (dVar 3)) (dNil)))) (dNil))) (dBin gGt (dBin gIx (dVar 0) (dVar 1)) (retE (.dat (.int 0)))))
def F_is_row_of : DE := callF 4 3 g_is_row_of
def b_first_wrong_row_1 : DS :=
  sIf (dNotT (asB (dFn F_is_row_of (dCons (dLend (dVar 2)) (dCons (dLend (dVar 1)) (dCons (dCall (on1 hLen) (dCons (dVar 0) (dNil))) (dNil))))))) (sRet (dVar 1)) (nxS)
def g_first_wrong_row : DS :=
  seqS (sIf (dOrT (dNotT (asB (dFn F_is_sequence (dCons (dLend (dVar 0)) (dNil))))) (asB (dBin gEq (dCall (on1 hLen) (dCons (dVar 0) (dNil))) (retE (.dat (.int 0)))))) (sRet (retE (.dat (.int 0)))) (nxS)) <|
  seqS (sFor (dEnum (dVar 0)) (tgT [1, 2]) (b_first_wrong_row_1)) <|
  sRet (retE (.dat .non))
def F_first_wrong_row : DE := callF 3 1 g_first_wrong_row
def b_common_divisor_1 : DS :=
  sSet 1 1 (dCall (on2 hGcd) (dCons (dVar 1) (dCons (dVar 2) (dNil))))
def g_common_divisor : DS :=
  seqS (sSet 1 1 (retE (.dat (.int 0)))) <|
  seqS (sFor (dItems (dVar 0)) (tgN 2) (b_common_divisor_1)) <|
  sRet (dVar 1)
def F_common_divisor : DE := callF 3 1 g_common_divisor
def g_normal_row : DS :=
  seqS (sSet 1 1 (dFn F_common_divisor (dCons (dLend (dVar 0)) (dNil)))) <|
  sRet (dCall (gTupOf) (dCons (dLc [2] (dItems (dVar 0)) (tgN 2) (yesT) (dBin gFdiv (dVar 2) (dVar 1))) (dNil)))
def F_normal_row : DE := callF 3 1 g_normal_row
def g_Talk___init__ : DS :=
  seqS (sSet 2 2 (dFn F_first_wrong_row (dCons (dLend (dVar 1)) (dNil)))) <|
  seqS (sIf (asB (dBin gNotN (dVar 2) (retE (.dat .non)))) (sRaise1 1 "at" (dVar 2)) (nxS)) <|
  sFldSet att "rows" (dVar 0) (dCall (gTupOf) (dCons (dLc [3] (dItems (dVar 1)) (tgN 3) (yesT) (dFn F_normal_row (dCons (dLend (dVar 3)) (dNil)))) (dNil)))
def F_Talk___init__ : DE := callF 4 2 g_Talk___init__
def b__law_part_1 : DS :=
  sPar2 0 1 2 (dCons (froze (dVar 1)) (dCons (dBin gMod (dCall (on1 hInt) (dCons (dVar 0) (dNil))) (dVar 1)) (dNil)))
def g__law_part : DS :=
  seqS (sWhile (natAt 1) (asB (dBin gGt (dVar 1) (retE (.dat (.int 0))))) (b__law_part_1)) <|
  sRet (dVar 0)
def F__law_part : DE := callF 2 2 g__law_part
def b__law_normal_1 : DS :=
  sSet 1 1 (dIfE (asB (dBin gGt (dVar 1) (retE (.dat (.int 0))))) (dFn F__law_part (dCons (dLend (dVar 1)) (dCons (dLend (dVar 2)) (dNil)))) (dVar 2))
def g__law_normal : DS :=
  seqS (sSet 1 1 (retE (.dat (.int 0)))) <|
  seqS (sFor (dItems (dVar 0)) (tgN 2) (b__law_normal_1)) <|
  sRet (dCall (gTupOf) (dCons (dLc [2] (dItems (dVar 0)) (tgN 2) (yesT) (dBin gFdiv (dVar 2) (dVar 1))) (dNil)))
def F__law_normal : DE := callF 3 1 g__law_normal
def g__law_normals : DS :=
  sRet (dCall (gTupOf) (dCons (dLc [1] (dItems (dVar 0)) (tgN 1) (yesT) (dFn F__law_normal (dCons (dLend (dVar 1)) (dNil)))) (dNil)))
def F__law_normals : DE := callF 2 1 g__law_normals
def g_Talk___str__ : DS :=
  sRet (dTx1 hJoin (retE (.dat (.str ", "))) (dLc [1] (dItems (dFld att "rows" (dVar 0))) (tgN 1) (yesT) (dTx1 hJoin (retE (.dat (.str " "))) (dLc [2] (dItems (dVar 1)) (tgN 2) (yesT) (dCall (on1 hStr) (dCons (dVar 2) (dNil)))))))
def F_Talk___str__ : DE := callF 3 1 g_Talk___str__
def g__law_text : DS :=
  sRet (dTx1 hJoin (retE (.dat (.str ", "))) (dLc [1] (dItems (dFn F__law_normals (dCons (dLend (dVar 0)) (dNil)))) (tgN 1) (yesT) (dTx1 hJoin (retE (.dat (.str " "))) (dLc [2] (dItems (dVar 1)) (tgN 2) (yesT) (dCall (on1 hStr) (dCons (dVar 2) (dNil)))))))
def F__law_text : DE := callF 3 1 g__law_text
def g_Talk_heeds : DS :=
  sRet (dCall (gTupOf) (dCons (dLc [2, 3] (dEnum (dBin gIx (dFld att "rows" (dVar 0)) (dVar 1))) (tgT [2, 3]) (asB (dBin gGt (dVar 3) (retE (.dat (.int 0))))) (dVar 2)) (dNil)))
def F_Talk_heeds : DE := callF 4 2 g_Talk_heeds
def g__law_heard : DS :=
  sRet (dCall (gTupOf) (dCons (dLc [2] (dRange1 (dCall (on1 hLen) (dCons (dVar 0) (dNil)))) (tgN 2) (asB (dBin gGt (dBin gIx (dBin gIx (dVar 0) (dVar 1)) (dVar 2)) (retE (.dat (.int 0))))) (dVar 2)) (dNil)))
def F__law_heard : DE := callF 3 2 g__law_heard
def g__law_box_v2 : DS :=
  seqS (sSet 3 3 (dBin gAdd (dBin gAdd (dBin gMul (retE (.dat (.int 9001))) (dVar 1)) (dBin gMul (retE (.dat (.int 104827))) (dVar 2))) (retE (.dat (.int 89))))) <|
  seqS (sIf (asB (dBin gLt (dVar 1) (dCall (on1 hLen) (dCons (dVar 0) (dNil))))) (sSet 3 3 (dCall (on1 hAbs) (dCons (dBin gIx (dVar 0) (dVar 1)) (dNil)))) (sIf (asB (dBin gGt (dCall (on1 hLen) (dCons (dVar 0) (dNil))) (retE (.dat (.int 0))))) (sSet 3 3 (dBin gAdd (dVar 3) (dBin gMul (dBin gMod (dCall (on1 hInt) (dCons (dCall (on1 hAbs) (dCons (dBin gIx (dVar 0) (dBin gMod (dCall (on1 hInt) (dCons (dVar 1) (dNil))) (dCall (on1 hLen) (dCons (dVar 0) (dNil))))) (dNil))) (dNil))) (retE (.dat (.int 2147483629)))) (retE (.dat (.int 69827)))))) (nxS))) <|
  seqS (sSet 4 3 (dBin gAdd (dBin gMod (dCall (on1 hInt) (dCons (dBin gAdd (dBin gMul (dBin gMod (dCall (on1 hInt) (dCons (dVar 3) (dNil))) (retE (.dat (.int 2147483629)))) (retE (.dat (.int 48271)))) (dBin gMul (retE (.dat (.int 40692))) (dBin gAdd (dVar 1) (dBin gMul (retE (.dat (.int 11))) (dVar 2))))) (dNil))) (retE (.dat (.int 2147483629)))) (retE (.dat (.int 1))))) <|
  sRet (dLst (dCons (dBin gIx (dLst (dCons (retE (.dat (.int 0))) (dCons (froze (dVar 3)) (dNil)))) (dCall (on1 hInt) (dCons (dBin gGe (dVar 3) (dBin gPow (retE (.dat (.int 10))) (retE (.dat (.int 18))))) (dNil)))) (dCons (froze (dVar 4)) (dCons (retE (.dat (.int 0))) (dNil)))))
def F__law_box_v2 : DE := callF 5 3 g__law_box_v2
def g__law_take_v2 : DS :=
  seqS (sIf (asB (dBin gGt (dBin gIx (dVar 0) (retE (.dat (.int 0)))) (retE (.dat (.int 0))))) (seqS (sSet 2 2 (dBin gMod (dCall (on1 hInt) (dCons (dBin gIx (dVar 0) (retE (.dat (.int 0)))) (dNil))) (dVar 1))) <|
  seqS (sStore (dBin gFdiv (dBin gIx (dVar 0) (retE (.dat (.int 0)))) (dVar 1)) (dVar 0) (retE (.dat (.int 0)))) <|
  sRet (dVar 2)) (nxS)) <|
  seqS (sStore (dBin gAdd (dBin gIx (dVar 0) (retE (.dat (.int 2)))) (retE (.dat (.int 1)))) (dVar 0) (retE (.dat (.int 2)))) <|
  seqS (sSet 3 2 (dBin gMod (dCall (on1 hInt) (dCons (dBin gMul (dBin gAdd (dBin gIx (dVar 0) (retE (.dat (.int 1)))) (dBin gMul (retE (.dat (.int 104729))) (dBin gIx (dVar 0) (retE (.dat (.int 2)))))) (retE (.dat (.int 69827)))) (dNil))) (retE (.dat (.int 2147483647))))) <|
  seqS (sStore (dBin gAdd (dBin gMod (dCall (on1 hInt) (dCons (dBin gAdd (dBin gMul (dVar 3) (retE (.dat (.int 48271)))) (retE (.dat (.int 30103)))) (dNil))) (retE (.dat (.int 2147483629)))) (retE (.dat (.int 1)))) (dVar 0) (retE (.dat (.int 1)))) <|
  seqS (sIf (asB (dBin gLt (dVar 1) (dBin gPow (retE (.dat (.int 2))) (retE (.dat (.int 40)))))) (sRet (dBin gMod (dCall (on1 hInt) (dCons (dBin gFdiv (dBin gAdd (dBin gMul (dVar 3) (retE (.dat (.int 2147483647)))) (dBin gIx (dVar 0) (retE (.dat (.int 1))))) (retE (.dat (.int 8191)))) (dNil))) (dVar 1))) (nxS)) <|
  seqS (sSet 4 2 (dBin gMul (dBin gAdd (dBin gMul (dVar 3) (retE (.dat (.int 2147483647)))) (dBin gIx (dVar 0) (retE (.dat (.int 1))))) (dBin gPow (retE (.dat (.int 2147483629))) (retE (.dat (.int 3)))))) <|
  sRet (dBin gMod (dCall (on1 hInt) (dCons (dBin gAdd (dBin gAdd (dVar 4) (dBin gMul (dBin gPow (dBin gIx (dVar 0) (retE (.dat (.int 1)))) (retE (.dat (.int 3)))) (retE (.dat (.int 8191))))) (dVar 3)) (dNil))) (dVar 1))
def F__law_take_v2 : DE := callF 5 2 g__law_take_v2
def b__law_mixed_1 : DS :=
  sExpr (dMeth "list" gAppend (dVar 3) (dCons (dMeth "list" gPopAt (dVar 2) (dCons (dFn F__law_take_v2 (dCons (dVar 0) (dCons (dCall (on1 hLen) (dCons (dVar 2) (dNil))) (dNil)))) (dNil))) (dNil)))
def g__law_mixed : DS :=
  seqS (sPar2 2 3 2 (dCons (dCall (gListOf) (dCons (dVar 1) (dNil))) (dCons (dLst (dNil)) (dNil)))) <|
  seqS (sFor (dRange1 (dCall (on1 hLen) (dCons (dVar 2) (dNil)))) (tgN 4) (b__law_mixed_1)) <|
  sRet (dVar 3)
def F__law_mixed : DE := callF 5 2 g__law_mixed
def g__law_pick_v2 : DS :=
  sRet (dBin gIx (dVar 1) (dFn F__law_take_v2 (dCons (dVar 0) (dCons (dCall (on1 hLen) (dCons (dVar 1) (dNil))) (dNil)))))
def F__law_pick_v2 : DE := callF 2 2 g__law_pick_v2
def e__law_weights_1 : DE :=
  dFn F__law_pick_v2 (dCons (dVar 0) (dCons (dLend (dLst (dCons (retE (.dat (.int 0))) (dCons (retE (.dat (.int 0))) (dCons (retE (.dat (.int 1))) (dCons (retE (.dat (.int 1))) (dCons (retE (.dat (.int 2))) (dCons (retE (.dat (.int 3))) (dNil))))))))) (dNil)))
def b__law_weights_2 : DS :=
  seqS (sSet 4 2 (dLc [5] (dRange1 (dVar 1)) (tgN 5) (yesT) (e__law_weights_1))) <|
  seqS (sStore (dBin gAdd (retE (.dat (.int 1))) (dFn F__law_take_v2 (dCons (dVar 0) (dCons (retE (.dat (.int 3))) (dNil))))) (dVar 4) (dVar 3)) <|
  sExpr (dMeth "list" gAppend (dVar 2) (dCons (froze (dVar 4)) (dNil)))
def g__law_weights : DS :=
  seqS (sSet 2 2 (dLst (dNil))) <|
  seqS (sFor (dRange1 (dVar 1)) (tgN 3) (b__law_weights_2)) <|
  sRet (dVar 2)
def F__law_weights : DE := callF 6 2 g__law_weights
def b__law_book_1 : DS :=
  sExpr (dMeth "list" gAppend (dVar 3) (dCons (dTup (dCons (froze (dVar 4)) (dCons (froze (dFn F__law_weights (dCons (dVar 0) (dCons (dLend (dVar 1)) (dNil))))) (dNil)))) (dNil)))
def b__law_book_2 : DS :=
  sExpr (dMeth "list" gExtend (dVar 5) (dCons (dLc [8, 9] (dItems (dVar 3)) (tgT [8, 9]) (asB (dBin gGt (dFn F__law_take_v2 (dCons (dVar 0) (dCons (retE (.dat (.int 3))) (dNil)))) (retE (.dat (.int 0))))) (dTup (dCons (froze (dVar 6)) (dCons (froze (dVar 8)) (dNil))))) (dNil)))
def g__law_book : DS :=
  seqS (sSet 3 3 (dLst (dNil))) <|
  seqS (sFor (dItems (dSlc (dFn F__law_mixed (dCons (dVar 0) (dCons (dLend (dLst (dCons (retE (.dat (.str "left"))) (dCons (retE (.dat (.str "right"))) (dCons (retE (.dat (.str "a"))) (dCons (retE (.dat (.str "up"))) (dCons (retE (.dat (.str "talks"))) (dNil)))))))) (dNil)))) (dNoPart) (dPart (dBin gAdd (retE (.dat (.int 1))) (dFn F__law_take_v2 (dCons (dVar 0) (dCons (dLend (dVar 2)) (dNil)))))))) (tgN 4) (b__law_book_1)) <|
  seqS (sSet 5 3 (dLst (dNil))) <|
  seqS (sFor (dItems (dVar 3)) (tgT [6, 7]) (b__law_book_2)) <|
  sRet (dTup (dCons (froze (dVar 3)) (dCons (froze (dFn F__law_mixed (dCons (dVar 0) (dCons (dLend (dVar 5)) (dNil))))) (dNil))))
def F__law_book : DE := callF 10 3 g__law_book
def g_is_pair : DS :=
  sRet (dAndV (dCall (on2 hIsi) (dCons (dVar 0) (dCons (retE (.dat (.ty "tuple"))) (dNil)))) (dBin gEq (dCall (on1 hLen) (dCons (dVar 0) (dNil))) (retE (.dat (.int 2)))))
def F_is_pair : DE := callF 1 1 g_is_pair
def e_are_steps_1 : DE :=
  dAndV (dFn F_is_pair (dCons (dLend (dVar 2)) (dNil))) (dAndV (dBin gIn (dBin gIx (dVar 2) (retE (.dat (.int 0)))) (dVar 1)) (dBin gIn (dBin gIx (dVar 2) (retE (.dat (.int 1)))) (dVar 1)))
def g_are_steps : DS :=
  seqS (sIf (dNotT (asB (dFn F_is_sequence (dCons (dLend (dVar 0)) (dNil))))) (sRet (retE (.dat (.bl false)))) (nxS)) <|
  seqS (sIf (dNotT (asB (dCall (on1 hAll) (dCons (dLc [2] (dItems (dVar 0)) (tgN 2) (yesT) (e_are_steps_1)) (dNil))))) (sRet (retE (.dat (.bl false)))) (nxS)) <|
  sRet (dBin gEq (dLenSet (dVar 0)) (dCall (on1 hLen) (dCons (dVar 0) (dNil))))
def F_are_steps : DE := callF 3 2 g_are_steps
def b__law_row_1 : DS :=
  seqS (sSet 5 3 (dLc [6, 7] (dItems (dBin gIx (dVar 1) (retE (.dat (.int 0))))) (tgT [6, 7]) (dOrT (asB (dBin gEq (dVar 3) (dLst (dNil)))) (asB (dBin gIn (dTup (dCons (dBin gIx (dVar 3) (dUn hNeg (retE (.dat (.int 1))))) (dCons (froze (dVar 6)) (dNil)))) (dBin gIx (dVar 1) (retE (.dat (.int 1))))))) (dVar 6))) <|
  sIf (asB (dBin gNe (dVar 5) (dLst (dNil)))) (sExpr (dMeth "list" gAppend (dVar 3) (dCons (froze (dFn F__law_pick_v2 (dCons (dVar 0) (dCons (dLend (dVar 5)) (dNil))))) (dNil)))) (nxS)
def g__law_row : DS :=
  seqS (sSet 3 3 (dLst (dNil))) <|
  seqS (sFor (dRange1 (dFn F__law_take_v2 (dCons (dVar 0) (dCons (dLend (dBin gAdd (dVar 2) (retE (.dat (.int 1))))) (dNil))))) (tgN 4) (b__law_row_1)) <|
  sRet (dVar 3)
def F__law_row : DE := callF 8 3 g__law_row
def b__law_misfit_1 : DS :=
  sIf (dOrT (asB (dBin gNotIn (dVar 2) (dVar 3))) (dAndT (asB (dBin gGt (dVar 4) (retE (.dat (.int 0))))) (asB (dBin gNotIn (dTup (dCons (dBin gIx (dVar 1) (dBin gSub (dVar 4) (retE (.dat (.int 1))))) (dCons (froze (dVar 2)) (dNil)))) (dBin gIx (dVar 0) (retE (.dat (.int 1)))))))) (sRet (dVar 4)) (nxS)
def g__law_misfit : DS :=
  seqS (sSet 3 2 (dLc [2, 5] (dItems (dBin gIx (dVar 0) (retE (.dat (.int 0))))) (tgT [2, 5]) (yesT) (dVar 2))) <|
  seqS (sFor (dEnum (dVar 1)) (tgT [4, 2]) (b__law_misfit_1)) <|
  sRet (retE (.dat .non))
def F__law_misfit : DE := callF 6 2 g__law_misfit
def g_Book_names : DS :=
  sRet (dCall (gTupOf) (dCons (dLc [1] (dItems (dFld att "talks" (dVar 0))) (tgN 1) (yesT) (dBin gIx (dVar 1) (retE (.dat (.int 0))))) (dNil)))
def F_Book_names : DE := callF 2 1 g_Book_names
def mt_names_B : Nat → Option DE
  | 11 => some F_Book_names
  | _ => none
def g_check_name : DS :=
  sIf (asB (dBin gNotIn (dVar 1) (dPrp "names" mt_names_B (dVar 0)))) (failS) (nxS)
def F_check_name : DE := callF 2 2 g_check_name
def g_Book_behind : DS :=
  seqS (sExpr (dFn F_check_name (dCons (dLend (dVar 0)) (dCons (dLend (dVar 1)) (dNil))))) <|
  sRet (dCall (gTupOf) (dCons (dLc [2, 3] (dItems (dFld att "steps" (dVar 0))) (tgT [2, 3]) (asB (dBin gEq (dVar 2) (dVar 1))) (dVar 3)) (dNil)))
def F_Book_behind : DE := callF 4 2 g_Book_behind
def mt_behind_B : Nat → Option DE
  | 11 => some F_Book_behind
  | _ => none
def b_first_wrong_name_1 : DS :=
  seqS (sIf (asB (dBin gNotIn (dVar 3) (dPrp "names" mt_names_B (dVar 0)))) (sRet (dVar 2)) (nxS)) <|
  sIf (dAndT (asB (dBin gGt (dVar 2) (retE (.dat (.int 0))))) (asB (dBin gNotIn (dVar 3) (dMth "behind" mt_behind_B (dVar 0) (dCons (dBin gIx (dVar 1) (dBin gSub (dVar 2) (retE (.dat (.int 1))))) (dNil)))))) (sRet (dVar 2)) (nxS)
def g_first_wrong_name : DS :=
  seqS (sIf (dNotT (asB (dFn F_is_sequence (dCons (dLend (dVar 1)) (dNil))))) (sRet (retE (.dat (.int 0)))) (nxS)) <|
  seqS (sFor (dEnum (dVar 1)) (tgT [2, 3]) (b_first_wrong_name_1)) <|
  sRet (retE (.dat .non))
def F_first_wrong_name : DE := callF 4 2 g_first_wrong_name
def g_is_row : DS :=
  sRet (dBin gIsN (dFn F_first_wrong_name (dCons (dLend (dVar 0)) (dCons (dLend (dVar 1)) (dNil)))) (retE (.dat .non)))
def F_is_row : DE := callF 2 2 g_is_row
def g_is_ring : DS :=
  sRet (dAndV (dFn F_is_row (dCons (dLend (dVar 0)) (dCons (dLend (dVar 1)) (dNil)))) (dAndV (dBin gGt (dCall (on1 hLen) (dCons (dVar 1) (dNil))) (retE (.dat (.int 0)))) (dBin gIn (dBin gIx (dVar 1) (retE (.dat (.int 0)))) (dMth "behind" mt_behind_B (dVar 0) (dCons (dBin gIx (dVar 1) (dUn hNeg (retE (.dat (.int 1))))) (dNil))))))
def F_is_ring : DE := callF 2 2 g_is_ring
def g_is_name : DS :=
  seqS (sIf (dOrT (dNotT (asB (dCall (on2 hIsi) (dCons (dVar 0) (dCons (retE (.dat (.ty "str"))) (dNil)))))) (dNotT (asB (dChain hLe hLe (retE (.dat (.int 1))) (dCall (on1 hLen) (dCons (dVar 0) (dNil))) (retE (.dat (.int 6))))))) (sRet (retE (.dat (.bl false)))) (nxS)) <|
  sRet (dCall (on1 hAll) (dCons (dLc [1] (dSigns (dVar 0)) (tgN 1) (yesT) (dBin gIn (dVar 1) (retE (.dat (.str "abcdefghijklmnopqrstuvwxyz"))))) (dNil)))
def F_is_name : DE := callF 2 1 g_is_name
def g_is_named_talk : DS :=
  sRet (dAndV (dFn F_is_pair (dCons (dLend (dVar 0)) (dNil))) (dAndV (dFn F_is_name (dCons (dBin gIx (dVar 0) (retE (.dat (.int 0)))) (dNil))) (dCall (on2 (hIsiX [10])) (dCons (dBin gIx (dVar 0) (retE (.dat (.int 1)))) (dCons (retE (.dat (.cls 10))) (dNil))))))
def F_is_named_talk : DE := callF 1 1 g_is_named_talk
def e_are_talks_1 : DE :=
  dBin gEq (dCall (gLenX mt_len_T) (dCons (dBin gIx (dVar 1) (retE (.dat (.int 1)))) (dNil))) (dCall (gLenX mt_len_T) (dCons (dBin gIx (dBin gIx (dVar 0) (retE (.dat (.int 0)))) (retE (.dat (.int 1)))) (dNil)))
def g_are_talks : DS :=
  seqS (sIf (dOrT (dNotT (asB (dFn F_is_sequence (dCons (dLend (dVar 0)) (dNil))))) (asB (dBin gEq (dCall (gLenX mt_len_T) (dCons (dVar 0) (dNil))) (retE (.dat (.int 0)))))) (sRet (retE (.dat (.bl false)))) (nxS)) <|
  seqS (sIf (dNotT (asB (dCall (on1 hAll) (dCons (dLc [1] (dItems (dVar 0)) (tgN 1) (yesT) (dFn F_is_named_talk (dCons (dLend (dVar 1)) (dNil)))) (dNil))))) (sRet (retE (.dat (.bl false)))) (nxS)) <|
  seqS (sIf (dNotT (asB (dCall (on1 hAll) (dCons (dLc [1] (dItems (dVar 0)) (tgN 1) (yesT) (e_are_talks_1)) (dNil))))) (sRet (retE (.dat (.bl false)))) (nxS)) <|
  sRet (dBin gEq (dLenSc [1] (dItems (dVar 0)) (tgN 1) (yesT) (dBin gIx (dVar 1) (retE (.dat (.int 0))))) (dCall (gLenX mt_len_T) (dCons (dVar 0) (dNil))))
def F_are_talks : DE := callF 2 1 g_are_talks
def g_Book___init__ : DS :=
  seqS (sIf (dNotT (asB (dFn F_are_talks (dCons (dLend (dVar 1)) (dNil))))) (sRaise1 2 "word" (retE (.dat (.str "talks")))) (nxS)) <|
  seqS (sIf (dNotT (asB (dFn F_are_steps (dCons (dLend (dVar 2)) (dCons (dLend (dLc [3] (dItems (dVar 1)) (tgN 3) (yesT) (dBin gIx (dVar 3) (retE (.dat (.int 0)))))) (dNil)))))) (sRaise1 2 "word" (retE (.dat (.str "steps")))) (nxS)) <|
  seqS (sFldSet att "talks" (dVar 0) (dCall (gTupOf) (dCons (dVar 1) (dNil)))) <|
  sFldSet att "steps" (dVar 0) (dCall (gTupOf) (dCons (dCall (gSortD) (dCons (dVar 2) (dNil))) (dNil)))
def F_Book___init__ : DE := callF 4 3 g_Book___init__
def g__law_book_of : DS :=
  sRet (bindE (dCons (dLend (dLc [1, 2] (dItems (dBin gIx (dVar 0) (retE (.dat (.int 0))))) (tgT [1, 2]) (yesT) (dTup (dCons (froze (dVar 1)) (dCons (bindE (dCons (dLend (dVar 2)) (dNil)) (gMake att 10 F_Talk___init__ [])) (dNil)))))) (dCons (dBin gIx (dVar 0) (retE (.dat (.int 1)))) (dNil))) (gMake att 11 F_Book___init__ []))
def F__law_book_of : DE := callF 3 1 g__law_book_of
def b_law_k13_1 : DS :=
  seqS (sSet 8 1 (dBin gIsN (dFn F__law_misfit (dCons (dLend (dVar 4)) (dCons (dLend (dVar 6)) (dNil)))) (retE (.dat .non)))) <|
  seqS (sSet 9 1 (dAndV (dVar 8) (dAndV (dBin gNe (dVar 6) (dLst (dNil))) (dBin gIn (dTup (dCons (dBin gIx (dVar 6) (dUn hNeg (retE (.dat (.int 1))))) (dCons (dBin gIx (dVar 6) (retE (.dat (.int 0)))) (dNil)))) (dBin gIx (dVar 4) (retE (.dat (.int 1)))))))) <|
  seqS (sSet 10 1 (dCall (gListOf) (dCons (dVar 6) (dNil)))) <|
  seqS (sIf (dOrT (asB (dBin gNe (dFn F_is_row (dCons (dLend (dVar 5)) (dCons (dLend (dVar 10)) (dNil)))) (dVar 8))) (dOrT (asB (dBin gNe (dFn F_is_ring (dCons (dLend (dVar 5)) (dCons (dCall (gTupOf) (dCons (dVar 6) (dNil))) (dNil)))) (dVar 9))) (asB (dBin gNe (dVar 10) (dVar 6))))) (sRet (retE (.dat (.bl false)))) (nxS)) <|
  seqS (sIf (dOrT (dNotT (asB (dCall (on2 hIsi) (dCons (dFn F_is_row (dCons (dLend (dVar 5)) (dCons (dLend (dVar 10)) (dNil)))) (dCons (retE (.dat (.ty "bool"))) (dNil)))))) (dNotT (asB (dCall (on2 hIsi) (dCons (dFn F_is_ring (dCons (dLend (dVar 5)) (dCons (dLend (dVar 6)) (dNil)))) (dCons (retE (.dat (.ty "bool"))) (dNil))))))) (sRet (retE (.dat (.bl false)))) (nxS)) <|
  seqS (sSet 11 1 (dFn F__law_take_v2 (dCons (dVar 2) (dCons (dLend (dBin gAdd (dCall (on1 hLen) (dCons (dVar 6) (dNil))) (retE (.dat (.int 1))))) (dNil))))) <|
  seqS (sSet 12 1 (dFn F__law_pick_v2 (dCons (dVar 2) (dCons (dLend (dBin gAdd (dLc [17, 16] (dItems (dBin gIx (dVar 4) (retE (.dat (.int 0))))) (tgT [17, 16]) (yesT) (dVar 17)) (dLst (dCons (retE (.dat (.str "none"))) (dNil))))) (dNil))))) <|
  seqS (sSet 13 1 (dSlc (dVar 6) (dPart (dBin gAdd (dVar 11) (dFn F__law_take_v2 (dCons (dVar 2) (dCons (retE (.dat (.int 2))) (dNil)))))) (dNoPart))) <|
  sSet 6 1 (dBin gAdd (dBin gAdd (dSlc (dVar 6) (dNoPart) (dPart (dVar 11))) (dLst (dCons (froze (dVar 12)) (dNil)))) (dVar 13))
def b_law_k13_2 : DS :=
  seqS (sSet 4 1 (dFn F__law_book (dCons (dVar 2) (dCons (dLend (dBin gAdd (retE (.dat (.int 1))) (dFn F__law_take_v2 (dCons (dVar 2) (dCons (retE (.dat (.int 3))) (dNil)))))) (dCons (retE (.dat (.int 5))) (dNil)))))) <|
  seqS (sAsg (tgT [5, 6]) (dTup (dCons (froze (dFn F__law_book_of (dCons (dLend (dVar 4)) (dNil)))) (dCons (froze (dFn F__law_row (dCons (dVar 2) (dCons (dLend (dVar 4)) (dCons (retE (.dat (.int 8))) (dNil)))))) (dNil))))) <|
  seqS (sFor (dRange1 (retE (.dat (.int 3)))) (tgN 7) (b_law_k13_1)) <|
  seqS (sSet 14 1 (dFn F__law_row (dCons (dVar 2) (dCons (dLend (dVar 4)) (dCons (retE (.dat (.int 39))) (dNil)))))) <|
  seqS (sIf (dOrT (asB (dBin gNotB (dFn F_is_row (dCons (dLend (dVar 5)) (dCons (dLend (dVar 14)) (dNil)))) (retE (.dat (.bl true))))) (asB (dBin gNotB (dFn F_is_row (dCons (dLend (dVar 5)) (dCons (dLend (dBin gAdd (dVar 14) (dLst (dCons (retE (.dat (.str "none"))) (dNil))))) (dNil)))) (retE (.dat (.bl false)))))) (sRet (retE (.dat (.bl false)))) (nxS)) <|
  seqS (sSet 15 1 (dLc [12, 16] (dItems (dBin gIx (dVar 4) (retE (.dat (.int 0))))) (tgT [12, 16]) (dAndT (asB (dBin gNe (dVar 14) (dLst (dNil)))) (asB (dBin gNotIn (dTup (dCons (dBin gIx (dVar 14) (dUn hNeg (retE (.dat (.int 1))))) (dCons (froze (dVar 12)) (dNil)))) (dBin gIx (dVar 4) (retE (.dat (.int 1))))))) (dVar 12))) <|
  seqS (sIf (asB (dBin gNe (dLc [12] (dItems (dVar 15)) (tgN 12) (asB (dFn F_is_row (dCons (dLend (dVar 5)) (dCons (dLend (dBin gAdd (dVar 14) (dLst (dCons (froze (dVar 12)) (dNil))))) (dNil))))) (dVar 12)) (dLst (dNil)))) (sRet (retE (.dat (.bl false)))) (nxS)) <|
  sIf (dOrT (asB (dBin gNotB (dFn F_is_row (dCons (dLend (dVar 5)) (dCons (dLend (dLst (dNil))) (dNil)))) (retE (.dat (.bl true))))) (asB (dBin gNotB (dFn F_is_ring (dCons (dLend (dVar 5)) (dCons (dTup (dNil)) (dNil)))) (retE (.dat (.bl false)))))) (sRet (retE (.dat (.bl false)))) (nxS)
def b_law_k13_3 : DS :=
  seqS (sSet 2 1 (dFn F__law_box_v2 (dCons (dLend (dVar 0)) (dCons (dLend (dVar 1)) (dCons (retE (.dat (.int 13))) (dNil)))))) <|
  sFor (dRange1 (retE (.dat (.int 4)))) (tgN 3) (b_law_k13_2)
def g_law_k13 : DS :=
  seqS (sFor (dRange1 (dCall (on2 hMax2) (dCons (retE (.dat (.int 1))) (dCons (dCall (on2 hMin2) (dCons (retE (.dat (.int 4))) (dCons (dCall (on1 hLen) (dCons (dVar 0) (dNil))) (dNil)))) (dNil))))) (tgN 1) (b_law_k13_3)) <|
  sRet (retE (.dat (.bl true)))
end Sh
set_option Elab.async false
set_option linter.all false
set_option maxRecDepth 100000
set_option maxHeartbeats 8000000
namespace K13
open PySem PySem.Spec PyProof.Rows L2 Tk Pl Sh
abbrev s__law_box : Stmt := topOf PySem.Challenge.pw_talkmeans_k13_rows_and_rings 41
abbrev N__law_box : List Str := ["_law_script", "_law_k", "_law_own", "_law_cell", "_law_seed"]
abbrev P__law_box : List Str := ["_law_script", "_law_k", "_law_own"]
theorem ok__law_box {P : Program} {w : World} {K : PySem.W.Frag} {mg : Str → Option Value} {base : Heap} {C : Cl} {f : Addr} {fd : FuncData} (F0 : Fun K "_law_box" "_law_box" s__law_box f fd) (mf : mg "_law_box" = some (.ref f))
    (m_len : mg "len" = none)
    (m_abs : mg "abs" = none)
    (m_int : mg "int" = none) : DefOk P w K mg base C 1 "_law_box" P__law_box F__law_box_v2 := by
  have sc : FnScope N__law_box P__law_box (defScope s__law_box) := ⟨rfl, rfl, rfl, by decide +kernel, rfl, by decide +kernel, by decide +kernel⟩
  refine ⟨⟨f, fd, def_ok (N := N__law_box) (ps := P__law_box) (g := g__law_box_v2) F0 sc rfl fun cdv A outer s H E B hr hn => ?_, F0.binds fun _ _ _ _ _ _ us hl => match us, hl with | [_, _, _], _ => rfl, F0.kp, mf⟩⟩
  have tk := takes_of (X := (cxOf (L2.CX P w) P w K mg base N__law_box "_law_box" (defScope s__law_box) f cdv A outer s H E)) rfl rfl rfl rfl
  have hp := passes_of (X := (cxOf (L2.CX P w) P w K mg base N__law_box "_law_box" (defScope s__law_box) f cdv A outer s H E)) rfl
  have hu := hr.units
  exact pds_cons (pds_set (i := 3) (np := 3) hn sc.nd rfl (.inl rfl) (pd_bin op_addA o_add (pd_bin op_addA o_add (pd_bin op_mulA o_mul (pd_int) (pd_var (pv 1))) (pd_bin op_mulA o_mul (pd_int) (pd_var (pv 2)))) (pd_int)))
    (pds_cons (pds_if (pdt_cmp op_lt o_lt (pd_var (pv 1)) (pd_callB call_len o_len (by rfl) m_len (by decide +kernel) (pda_cons (pd_var (pv 0)) (pda_nil))) (nomark _))
      (pds_one (pds_set (i := 3) (np := 3) hn sc.nd rfl (.inl rfl) (pd_callB call_abs o_abs (by rfl) m_abs (by decide +kernel) (pda_cons (pd_ixR ix_seq o_ix (pd_var (pv 0)) (pd_var (pv 1)) (fun _ _ => rfl)) (pda_nil)))))
      (pds_one (pds_if (pdt_cmp op_gt o_gt (pd_callB call_len o_len (by rfl) m_len (by decide +kernel) (pda_cons (pd_var (pv 0)) (pda_nil))) (pd_int) (nomark _))
      (pds_one (pds_set (i := 3) (np := 3) hn sc.nd rfl (.inl rfl) (pd_bin op_addA o_add (pd_var (pv 3)) (pd_bin op_mulA o_mul (pd_bin op_mod o_mod (pd_callTy call_int1 o_int (by rfl) m_int (by decide +kernel) (pda_cons (pd_callB call_abs o_abs (by rfl) m_abs (by decide +kernel) (pda_cons (pd_ixR ix_seq o_ix (pd_var (pv 0)) (pd_bin op_mod o_mod (pd_callTy call_int1 o_int (by rfl) m_int (by decide +kernel) (pda_cons (pd_var (pv 1)) (pda_nil))) (pd_callB call_len o_len (by rfl) m_len (by decide +kernel) (pda_cons (pd_var (pv 0)) (pda_nil)))) (fun _ _ => rfl)) (pda_nil))) (pda_nil))) (pd_int)) (pd_int)))))
      (pds_nil))))
    (pds_cons (pds_set (i := 4) (np := 3) hn sc.nd rfl (.inl rfl) (pd_bin op_addA o_add (pd_bin op_mod o_mod (pd_callTy call_int1 o_int (by rfl) m_int (by decide +kernel) (pda_cons (pd_bin op_addA o_add (pd_bin op_mulA o_mul (pd_bin op_mod o_mod (pd_callTy call_int1 o_int (by rfl) m_int (by decide +kernel) (pda_cons (pd_var (pv 3)) (pda_nil))) (pd_int)) (pd_int)) (pd_bin op_mulA o_mul (pd_int) (pd_bin op_addA o_add (pd_var (pv 1)) (pd_bin op_mulA o_mul (pd_int) (pd_var (pv 2)))))) (pda_nil))) (pd_int)) (pd_int)))
    (pds_one (pds_ret (pd_lst (pda_cons (pd_ixR ix_seq o_ix (pd_lst (pda_cons (pd_int) (pda_cons (pd_frz (pd_var (pv 3))) (pda_nil)))) (pd_callTy call_int1 o_int (by rfl) m_int (by decide +kernel) (pda_cons (pd_cmp op_ge o_ge (pd_var (pv 3)) (pd_bin op_pow o_pow (pd_int) (pd_int)) (nomark _)) (pda_nil))) (fun _ _ => rfl)) (pda_cons (pd_frz (pd_var (pv 4))) (pda_cons (pd_int) (pda_nil)))))))))
abbrev s__law_take : Stmt := topOf PySem.Challenge.pw_talkmeans_k13_rows_and_rings 42
abbrev N__law_take : List Str := ["_law_box_here", "_law_many", "_law_digit", "_law_raw", "_law_wide"]
abbrev P__law_take : List Str := ["_law_box_here", "_law_many"]
theorem ok__law_take {P : Program} {w : World} {K : PySem.W.Frag} {mg : Str → Option Value} {base : Heap} {C : Cl} {f : Addr} {fd : FuncData} (F0 : Fun K "_law_take" "_law_take" s__law_take f fd) (mf : mg "_law_take" = some (.ref f))
    (m_int : mg "int" = none) : DefOk P w K mg base C 1 "_law_take" P__law_take F__law_take_v2 := by
  have sc : FnScope N__law_take P__law_take (defScope s__law_take) := ⟨rfl, rfl, rfl, by decide +kernel, rfl, by decide +kernel, by decide +kernel⟩
  refine ⟨⟨f, fd, def_ok (N := N__law_take) (ps := P__law_take) (g := g__law_take_v2) F0 sc rfl fun cdv A outer s H E B hr hn => ?_, F0.binds fun _ _ _ _ _ _ us hl => match us, hl with | [_, _], _ => rfl, F0.kp, mf⟩⟩
  have tk := takes_of (X := (cxOf (L2.CX P w) P w K mg base N__law_take "_law_take" (defScope s__law_take) f cdv A outer s H E)) rfl rfl rfl rfl
  have hp := passes_of (X := (cxOf (L2.CX P w) P w K mg base N__law_take "_law_take" (defScope s__law_take) f cdv A outer s H E)) rfl
  have hu := hr.units
  exact pds_cons (pds_if (pdt_cmp op_gt o_gt (pd_ixR ix_seq o_ix (pd_var (pv 0)) (pd_int) (fun _ _ => rfl)) (pd_int) (nomark _))
      (pds_cons (pds_set (i := 2) (np := 2) hn sc.nd rfl (.inl rfl) (pd_bin op_mod o_mod (pd_callTy call_int1 o_int (by rfl) m_int (by decide +kernel) (pda_cons (pd_ixR ix_seq o_ix (pd_var (pv 0)) (pd_int) (fun _ _ => rfl)) (pda_nil))) (pd_var (pv 1))))
    (pds_cons (pds_store (pd_bin op_fdivW o_fdiv (pd_ixR ix_seq o_ix (pd_var (pv 0)) (pd_int) (fun _ _ => rfl)) (pd_var (pv 1))) (pd_var (pv 0)) (pd_int))
    (pds_one (pds_ret (pd_var (pv 2))))))
      (pds_nil))
    (pds_cons (pds_store (pd_bin op_addA o_add (pd_ixR ix_seq o_ix (pd_var (pv 0)) (pd_int) (fun _ _ => rfl)) (pd_int)) (pd_var (pv 0)) (pd_int))
    (pds_cons (pds_set (i := 3) (np := 2) hn sc.nd rfl (.inl rfl) (pd_bin op_mod o_mod (pd_callTy call_int1 o_int (by rfl) m_int (by decide +kernel) (pda_cons (pd_bin op_mulA o_mul (pd_bin op_addA o_add (pd_ixR ix_seq o_ix (pd_var (pv 0)) (pd_int) (fun _ _ => rfl)) (pd_bin op_mulA o_mul (pd_int) (pd_ixR ix_seq o_ix (pd_var (pv 0)) (pd_int) (fun _ _ => rfl)))) (pd_int)) (pda_nil))) (pd_int)))
    (pds_cons (pds_store (pd_bin op_addA o_add (pd_bin op_mod o_mod (pd_callTy call_int1 o_int (by rfl) m_int (by decide +kernel) (pda_cons (pd_bin op_addA o_add (pd_bin op_mulA o_mul (pd_var (pv 3)) (pd_int)) (pd_int)) (pda_nil))) (pd_int)) (pd_int)) (pd_var (pv 0)) (pd_int))
    (pds_cons (pds_if (pdt_cmp op_lt o_lt (pd_var (pv 1)) (pd_bin op_pow o_pow (pd_int) (pd_int)) (nomark _))
      (pds_one (pds_ret (pd_bin op_mod o_mod (pd_callTy call_int1 o_int (by rfl) m_int (by decide +kernel) (pda_cons (pd_bin op_fdivW o_fdiv (pd_bin op_addA o_add (pd_bin op_mulA o_mul (pd_var (pv 3)) (pd_int)) (pd_ixR ix_seq o_ix (pd_var (pv 0)) (pd_int) (fun _ _ => rfl))) (pd_int)) (pda_nil))) (pd_var (pv 1)))))
      (pds_nil))
    (pds_cons (pds_set (i := 4) (np := 2) hn sc.nd rfl (.inl rfl) (pd_bin op_mulA o_mul (pd_bin op_addA o_add (pd_bin op_mulA o_mul (pd_var (pv 3)) (pd_int)) (pd_ixR ix_seq o_ix (pd_var (pv 0)) (pd_int) (fun _ _ => rfl))) (pd_bin op_pow o_pow (pd_int) (pd_int))))
    (pds_one (pds_ret (pd_bin op_mod o_mod (pd_callTy call_int1 o_int (by rfl) m_int (by decide +kernel) (pda_cons (pd_bin op_addA o_add (pd_bin op_addA o_add (pd_var (pv 4)) (pd_bin op_mulA o_mul (pd_bin op_pow o_pow (pd_ixR ix_seq o_ix (pd_var (pv 0)) (pd_int) (fun _ _ => rfl)) (pd_int)) (pd_int))) (pd_var (pv 3))) (pda_nil))) (pd_var (pv 1))))))))))
abbrev s__law_mixed : Stmt := topOf PySem.Challenge.pw_talkmeans_k13_rows_and_rings 44
abbrev N__law_mixed : List Str := ["_law_box_here", "_law_items", "_law_left", "_law_found", "_law_turn"]
abbrev P__law_mixed : List Str := ["_law_box_here", "_law_items"]
theorem ok__law_mixed {P : Program} {w : World} {K : PySem.W.Frag} {mg : Str → Option Value} {base : Heap} {C : Cl} {f : Addr} {fd : FuncData} (F0 : Fun K "_law_mixed" "_law_mixed" s__law_mixed f fd) (mf : mg "_law_mixed" = some (.ref f))
    (m_list : mg "list" = none)
    (m_range : mg "range" = none)
    (m_len : mg "len" = none)
    (h__law_take : DefOk P w K mg base C 1 "_law_take" P__law_take F__law_take_v2) : DefOk P w K mg base C 2 "_law_mixed" P__law_mixed F__law_mixed := by
  have sc : FnScope N__law_mixed P__law_mixed (defScope s__law_mixed) := ⟨rfl, rfl, rfl, by decide +kernel, rfl, by decide +kernel, by decide +kernel⟩
  refine ⟨⟨f, fd, def_ok (N := N__law_mixed) (ps := P__law_mixed) (g := g__law_mixed) F0 sc rfl fun cdv A outer s H E B hr hn => ?_, F0.binds fun _ _ _ _ _ _ us hl => match us, hl with | [_, _], _ => rfl, F0.kp, mf⟩⟩
  have tk := takes_of (X := (cxOf (L2.CX P w) P w K mg base N__law_mixed "_law_mixed" (defScope s__law_mixed) f cdv A outer s H E)) rfl rfl rfl rfl
  have hp := passes_of (X := (cxOf (L2.CX P w) P w K mg base N__law_mixed "_law_mixed" (defScope s__law_mixed) f cdv A outer s H E)) rfl
  have hu := hr.units
  exact pds_cons (pds_par (i := 2) (j := 3) (np := 2) hn rfl sc.nd rfl rfl (by decide) rfl rfl (pda_cons (pd_callTy call_list_of o_listOf (by rfl) m_list (by decide +kernel) (pda_cons (pd_var (pv 1)) (pda_nil))) (pda_cons (pd_lst (pda_nil)) (pda_nil))) (by rfl) (by rfl))
    (pds_cons (pds_for (js := [4]) hp rfl (pdi_range1 (by rfl) m_range (pd_callB call_len o_len (by rfl) m_len (by decide +kernel) (pda_cons (pd_var (pv 2)) (pda_nil)))) (pdg_name (pg_name (i := 4) sc.nd rfl (.inl rfl)))
      (pds_one (pds_expr (pd_bm PySem.F.plainAttrs_list PySem.F.slot_list_append PySem.F.type_list_append mt_append o_append (pd_var (pv 3)) (pda_cons (pd_bm PySem.F.plainAttrs_list PySem.F.slot_list_pop PySem.F.type_list_pop mt_popAt o_popAt (pd_var (pv 2)) (pda_cons (pd_fn h__law_take (hr.mono (by decide)) tk rfl (pda_cons (pd_var (pv 0)) (pda_cons (pd_callB call_len o_len (by rfl) m_len (by decide +kernel) (pda_cons (pd_var (pv 2)) (pda_nil))) (pda_nil)))) (pda_nil))) (pda_nil))))))
    (pds_one (pds_ret (pd_var (pv 3)))))
abbrev s__law_pick : Stmt := topOf PySem.Challenge.pw_talkmeans_k13_rows_and_rings 43
abbrev N__law_pick : List Str := ["_law_box_here", "_law_items"]
abbrev P__law_pick : List Str := ["_law_box_here", "_law_items"]
theorem ok__law_pick {P : Program} {w : World} {K : PySem.W.Frag} {mg : Str → Option Value} {base : Heap} {C : Cl} {f : Addr} {fd : FuncData} (F0 : Fun K "_law_pick" "_law_pick" s__law_pick f fd) (mf : mg "_law_pick" = some (.ref f))
    (h__law_take : DefOk P w K mg base C 1 "_law_take" P__law_take F__law_take_v2)
    (m_len : mg "len" = none) : DefOk P w K mg base C 2 "_law_pick" P__law_pick F__law_pick_v2 := by
  have sc : FnScope N__law_pick P__law_pick (defScope s__law_pick) := ⟨rfl, rfl, rfl, by decide +kernel, rfl, by decide +kernel, by decide +kernel⟩
  refine ⟨⟨f, fd, def_ok (N := N__law_pick) (ps := P__law_pick) (g := g__law_pick_v2) F0 sc rfl fun cdv A outer s H E B hr hn => ?_, F0.binds fun _ _ _ _ _ _ us hl => match us, hl with | [_, _], _ => rfl, F0.kp, mf⟩⟩
  have tk := takes_of (X := (cxOf (L2.CX P w) P w K mg base N__law_pick "_law_pick" (defScope s__law_pick) f cdv A outer s H E)) rfl rfl rfl rfl
  have hp := passes_of (X := (cxOf (L2.CX P w) P w K mg base N__law_pick "_law_pick" (defScope s__law_pick) f cdv A outer s H E)) rfl
  have hu := hr.units
  exact pds_one (pds_ret (pd_ixR ix_seq o_ix (pd_var (pv 1)) (pd_fn h__law_take (hr.mono (by decide)) tk rfl (pda_cons (pd_var (pv 0)) (pda_cons (pd_callB call_len o_len (by rfl) m_len (by decide +kernel) (pda_cons (pd_var (pv 1)) (pda_nil))) (pda_nil)))) (fun _ _ => rfl)))
abbrev s__law_weights : Stmt := topOf PySem.Challenge.pw_talkmeans_k13_rows_and_rings 45
abbrev N__law_weights : List Str := ["_law_box_here", "_law_many", "_law_found", "_law_person", "_law_row_here", "_law_other"]
abbrev P__law_weights : List Str := ["_law_box_here", "_law_many"]
theorem ok__law_weights {P : Program} {w : World} {K : PySem.W.Frag} {mg : Str → Option Value} {base : Heap} {C : Cl} {f : Addr} {fd : FuncData} (F0 : Fun K "_law_weights" "_law_weights" s__law_weights f fd) (mf : mg "_law_weights" = some (.ref f))
    (m_range : mg "range" = none)
    (h__law_pick : DefOk P w K mg base C 2 "_law_pick" P__law_pick F__law_pick_v2)
    (h__law_take : DefOk P w K mg base C 1 "_law_take" P__law_take F__law_take_v2) : DefOk P w K mg base C 3 "_law_weights" P__law_weights F__law_weights := by
  have sc : FnScope N__law_weights P__law_weights (defScope s__law_weights) := ⟨rfl, rfl, rfl, by decide +kernel, rfl, by decide +kernel, by decide +kernel⟩
  refine ⟨⟨f, fd, def_ok (N := N__law_weights) (ps := P__law_weights) (g := g__law_weights) F0 sc rfl fun cdv A outer s H E B hr hn => ?_, F0.binds fun _ _ _ _ _ _ us hl => match us, hl with | [_, _], _ => rfl, F0.kp, mf⟩⟩
  have tk := takes_of (X := (cxOf (L2.CX P w) P w K mg base N__law_weights "_law_weights" (defScope s__law_weights) f cdv A outer s H E)) rfl rfl rfl rfl
  have hp := passes_of (X := (cxOf (L2.CX P w) P w K mg base N__law_weights "_law_weights" (defScope s__law_weights) f cdv A outer s H E)) rfl
  have hu := hr.units
  exact pds_cons (pds_set (i := 2) (np := 2) hn sc.nd rfl (.inl rfl) (pd_lst (pda_nil)))
    (pds_cons (pds_for (js := [3]) hp rfl (pdi_range1 (by rfl) m_range (pd_var (pv 1))) (pdg_name (pg_name (i := 3) sc.nd rfl (.inl rfl)))
      (pds_cons (pds_setLc (i := 4) (np := 2) (own := [("_law_other", 5)]) (js := [5]) hn rfl sc.nd rfl rfl (sw_true rfl rfl rfl (by decide +kernel)) (pdi_range1 (by rfl) m_range (pd_var (pv 1))) (blkOk_by (N := N__law_weights) (sc := defScope s__law_weights) (by decide +kernel)) (by decide) (fun _ _ _ _ _ => pdg_name (pg_name (i := 5) sc.nd rfl (.inl rfl))) (fun _ _ _ _ _ => pts_yes) (fun _ _ _ _ _ => pd_fn h__law_pick (hr.mono (by decide)) takes0 rfl (pda_cons (pd_var (pv 0)) (pda_cons (pd_lend (pd_lst (pda_cons (pd_int) (pda_cons (pd_int) (pda_cons (pd_int) (pda_cons (pd_int) (pda_cons (pd_int) (pda_cons (pd_int) (pda_nil))))))))) (pda_nil)))))
    (pds_cons (pds_store (pd_bin op_addA o_add (pd_int) (pd_fn h__law_take (hr.mono (by decide)) tk rfl (pda_cons (pd_var (pv 0)) (pda_cons (pd_int) (pda_nil))))) (pd_var (pv 4)) (pd_var (pv 3)))
    (pds_one (pds_expr (pd_bm PySem.F.plainAttrs_list PySem.F.slot_list_append PySem.F.type_list_append mt_append o_append (pd_var (pv 2)) (pda_cons (pd_frz (pd_var (pv 4))) (pda_nil))))))))
    (pds_one (pds_ret (pd_var (pv 2)))))
abbrev s__law_book : Stmt := topOf PySem.Challenge.pw_talkmeans_k13_rows_and_rings 46
abbrev N__law_book : List Str := ["_law_box_here", "_law_many", "_law_most", "_law_talks", "_law_name", "_law_steps", "_law_one", "_law_rows", "_law_other", "_law_more"]
abbrev P__law_book : List Str := ["_law_box_here", "_law_many", "_law_most"]
theorem ok__law_book {P : Program} {w : World} {K : PySem.W.Frag} {mg : Str → Option Value} {base : Heap} {C : Cl} {f : Addr} {fd : FuncData} (F0 : Fun K "_law_book" "_law_book" s__law_book f fd) (mf : mg "_law_book" = some (.ref f))
    (h__law_mixed : DefOk P w K mg base C 2 "_law_mixed" P__law_mixed F__law_mixed)
    (h__law_take : DefOk P w K mg base C 1 "_law_take" P__law_take F__law_take_v2)
    (h__law_weights : DefOk P w K mg base C 3 "_law_weights" P__law_weights F__law_weights) : DefOk P w K mg base C 4 "_law_book" P__law_book F__law_book := by
  have sc : FnScope N__law_book P__law_book (defScope s__law_book) := ⟨rfl, rfl, rfl, by decide +kernel, rfl, by decide +kernel, by decide +kernel⟩
  refine ⟨⟨f, fd, def_ok (N := N__law_book) (ps := P__law_book) (g := g__law_book) F0 sc rfl fun cdv A outer s H E B hr hn => ?_, F0.binds fun _ _ _ _ _ _ us hl => match us, hl with | [_, _, _], _ => rfl, F0.kp, mf⟩⟩
  have tk := takes_of (X := (cxOf (L2.CX P w) P w K mg base N__law_book "_law_book" (defScope s__law_book) f cdv A outer s H E)) rfl rfl rfl rfl
  have hp := passes_of (X := (cxOf (L2.CX P w) P w K mg base N__law_book "_law_book" (defScope s__law_book) f cdv A outer s H E)) rfl
  have hu := hr.units
  exact pds_cons (pds_set (i := 3) (np := 3) hn sc.nd rfl (.inl rfl) (pd_lst (pda_nil)))
    (pds_cons (pds_for (js := [4]) hp rfl (pdi_seq (pd_slice (pd_fn h__law_mixed (hr.mono (by decide)) tk rfl (pda_cons (pd_var (pv 0)) (pda_cons (pd_lend (pd_lst (pda_cons (pd_str) (pda_cons (pd_str) (pda_cons (pd_str) (pda_cons (pd_str) (pda_cons (pd_str) (pda_nil)))))))) (pda_nil)))) (pdo_none) (pdo_some (pd_bin op_addA o_add (pd_int) (pd_fn h__law_take (hr.mono (by decide)) tk rfl (pda_cons (pd_var (pv 0)) (pda_cons (pd_lend (pd_var (pv 2))) (pda_nil)))))))) (pdg_name (pg_name (i := 4) sc.nd rfl (.inl rfl)))
      (pds_one (pds_expr (pd_bm PySem.F.plainAttrs_list PySem.F.slot_list_append PySem.F.type_list_append mt_append o_append (pd_var (pv 3)) (pda_cons (pd_tup (pda_cons (pd_frz (pd_var (pv 4))) (pda_cons (pd_frz (pd_fn h__law_weights (hr.mono (by decide)) tk rfl (pda_cons (pd_var (pv 0)) (pda_cons (pd_lend (pd_var (pv 1))) (pda_nil))))) (pda_nil)))) (pda_nil))))))
    (pds_cons (pds_set (i := 5) (np := 3) hn sc.nd rfl (.inl rfl) (pd_lst (pda_nil)))
    (pds_cons (pds_for (js := [6, 7]) hp rfl (pdi_seq (pd_var (pv 3))) (pdg_tup rfl (pdgs_cons (pg_name (i := 6) sc.nd rfl (.inr rfl)) (pdgs_cons (pg_name (i := 7) sc.nd rfl (.inl rfl)) (pdgs_nil))))
      (pds_one (pds_expr (pd_bm PySem.F.plainAttrs_list PySem.F.slot_list_extend PySem.F.type_list_extend mt_extend o_extend (pd_var (pv 5)) (pda_cons (pd_lc (own := [("_law_other", 8), ("_law_more", 9)]) (js := [8, 9]) (by rfl) sc.nd (pdi_seq (pd_var (pv 3))) (blkOk_by (N := N__law_book) (sc := defScope s__law_book) (by decide +kernel)) (by decide) (fun _ _ _ _ _ => pdg_tup rfl (pdgs_cons (pg_name (i := 8) sc.nd rfl (.inl rfl)) (pdgs_cons (pg_name (i := 9) sc.nd rfl (.inl rfl)) (pdgs_nil)))) (fun _ _ _ _ _ => pts_one (pdt_cmp op_gt o_gt (pd_fn h__law_take (hr.mono (by decide)) takes0 rfl (pda_cons (pd_var (pv 0)) (pda_cons (pd_int) (pda_nil)))) (pd_int) (nomark _))) (fun _ _ _ _ _ => pd_tup (pda_cons (pd_frz (pd_var (pv 6))) (pda_cons (pd_frz (pd_var (pv 8))) (pda_nil))))) (pda_nil))))))
    (pds_one (pds_ret (pd_tup (pda_cons (pd_frz (pd_var (pv 3))) (pda_cons (pd_frz (pd_fn h__law_mixed (hr.mono (by decide)) tk rfl (pda_cons (pd_var (pv 0)) (pda_cons (pd_lend (pd_var (pv 5))) (pda_nil))))) (pda_nil)))))))))
abbrev s_is_sequence : Stmt := topOf PySem.Challenge.pw_talkmeans_k13_rows_and_rings 15
abbrev N_is_sequence : List Str := ["value"]
abbrev P_is_sequence : List Str := ["value"]
theorem ok_is_sequence {P : Program} {w : World} {K : PySem.W.Frag} {mg : Str → Option Value} {base : Heap} {C : Cl} {f : Addr} {fd : FuncData} (F0 : Fun K "is_sequence" "is_sequence" s_is_sequence f fd) (mf : mg "is_sequence" = some (.ref f))
    (m_isinstance : mg "isinstance" = none)
    (m_list : mg "list" = none)
    (m_tuple : mg "tuple" = none) : DefOk P w K mg base C 1 "is_sequence" P_is_sequence F_is_sequence := by
  have sc : FnScope N_is_sequence P_is_sequence (defScope s_is_sequence) := ⟨rfl, rfl, rfl, by decide +kernel, rfl, by decide +kernel, by decide +kernel⟩
  refine ⟨⟨f, fd, def_ok (N := N_is_sequence) (ps := P_is_sequence) (g := g_is_sequence) F0 sc rfl fun cdv A outer s H E B hr hn => ?_, F0.binds fun _ _ _ _ _ _ us hl => match us, hl with | [_], _ => rfl, F0.kp, mf⟩⟩
  have tk := takes_of (X := (cxOf (L2.CX P w) P w K mg base N_is_sequence "is_sequence" (defScope s_is_sequence) f cdv A outer s H E)) rfl rfl rfl rfl
  have hp := passes_of (X := (cxOf (L2.CX P w) P w K mg base N_is_sequence "is_sequence" (defScope s_is_sequence) f cdv A outer s H E)) rfl
  have hu := hr.units
  exact pds_one (pds_ret (pd_isi2 (m := "list") (m' := "tuple") rfl m_isinstance rfl m_list (by decide +kernel) rfl m_tuple (by decide +kernel) (pd_var (pv 0))))
abbrev s_Talk___len__ : Stmt := inClass (topOf PySem.Challenge.pw_talkmeans_k13_rows_and_rings 21) 6
abbrev N_Talk___len__ : List Str := ["self"]
abbrev P_Talk___len__ : List Str := ["self"]
theorem ok_Talk___len__ {P : Program} {w : World} {K : PySem.W.Frag} {mg : Str → Option Value} {base : Heap} {C : Cl} {f : Addr} {fd : FuncData} (F0 : Fun K "__len__" "Talk.__len__" s_Talk___len__ f fd)
    (m_len : mg "len" = none)
    (fl_rows : FldOk K C att "rows") : FOk P w K mg base C 1 f P_Talk___len__ F_Talk___len__ := by
  have sc : FnScope N_Talk___len__ P_Talk___len__ (defScope s_Talk___len__) := ⟨rfl, rfl, rfl, by decide +kernel, rfl, by decide +kernel, by decide +kernel⟩
  refine ⟨⟨fd, def_ok (N := N_Talk___len__) (ps := P_Talk___len__) (g := g_Talk___len__) F0 sc rfl fun cdv A outer s H E B hr hn => ?_, F0.binds fun _ _ _ _ _ _ us hl => match us, hl with | [_], _ => rfl⟩⟩
  have tk := takes_of (X := (cxOf (L2.CX P w) P w K mg base N_Talk___len__ "Talk.__len__" (defScope s_Talk___len__) f cdv A outer s H E)) rfl rfl rfl rfl
  have hp := passes_of (X := (cxOf (L2.CX P w) P w K mg base N_Talk___len__ "Talk.__len__" (defScope s_Talk___len__) f cdv A outer s H E)) rfl
  have hu := hr.units
  exact pds_one (pds_ret (pd_callB call_len o_len (by rfl) m_len (by decide +kernel) (pda_cons (pd_fld fl_rows (pd_var (pv 0))) (pda_nil))))
abbrev s_is_pair : Stmt := topOf PySem.Challenge.pw_talkmeans_k13_rows_and_rings 16
abbrev N_is_pair : List Str := ["value"]
abbrev P_is_pair : List Str := ["value"]
theorem ok_is_pair {P : Program} {w : World} {K : PySem.W.Frag} {mg : Str → Option Value} {base : Heap} {C : Cl} {f : Addr} {fd : FuncData} (F0 : Fun K "is_pair" "is_pair" s_is_pair f fd) (mf : mg "is_pair" = some (.ref f))
    (m_isinstance : mg "isinstance" = none)
    (m_tuple : mg "tuple" = none)
    (m_len : mg "len" = none) : DefOk P w K mg base C 1 "is_pair" P_is_pair F_is_pair := by
  have sc : FnScope N_is_pair P_is_pair (defScope s_is_pair) := ⟨rfl, rfl, rfl, by decide +kernel, rfl, by decide +kernel, by decide +kernel⟩
  refine ⟨⟨f, fd, def_ok (N := N_is_pair) (ps := P_is_pair) (g := g_is_pair) F0 sc rfl fun cdv A outer s H E B hr hn => ?_, F0.binds fun _ _ _ _ _ _ us hl => match us, hl with | [_], _ => rfl, F0.kp, mf⟩⟩
  have tk := takes_of (X := (cxOf (L2.CX P w) P w K mg base N_is_pair "is_pair" (defScope s_is_pair) f cdv A outer s H E)) rfl rfl rfl rfl
  have hp := passes_of (X := (cxOf (L2.CX P w) P w K mg base N_is_pair "is_pair" (defScope s_is_pair) f cdv A outer s H E)) rfl
  have hu := hr.units
  exact pds_one (pds_ret (pd_and (pd_callB call_isi o_isi (by rfl) m_isinstance (by decide +kernel) (pda_cons (pd_var (pv 0)) (pda_cons (pd_ty rfl m_tuple (by decide +kernel)) (pda_nil)))) (pd_one (pd_cmp (op_eqA hu) o_eq (pd_callB call_len o_len (by rfl) m_len (by decide +kernel) (pda_cons (pd_var (pv 0)) (pda_nil))) (pd_int) (nomark _)))))
abbrev s_is_name : Stmt := topOf PySem.Challenge.pw_talkmeans_k13_rows_and_rings 13
abbrev N_is_name : List Str := ["value", "letter"]
abbrev P_is_name : List Str := ["value"]
theorem ok_is_name {P : Program} {w : World} {K : PySem.W.Frag} {mg : Str → Option Value} {base : Heap} {C : Cl} {f : Addr} {fd : FuncData} (F0 : Fun K "is_name" "is_name" s_is_name f fd) (mf : mg "is_name" = some (.ref f))
    (m_isinstance : mg "isinstance" = none)
    (m_str : mg "str" = none)
    (m_len : mg "len" = none)
    (kc_LONGEST_NAME : ∃ t, mg "LONGEST_NAME" = some (.int 6 t))
    (m_all : mg "all" = none)
    (kc_LETTERS : ∃ t, mg "LETTERS" = some (.str "abcdefghijklmnopqrstuvwxyz" t)) : DefOk P w K mg base C 1 "is_name" P_is_name F_is_name := by
  have sc : FnScope N_is_name P_is_name (defScope s_is_name) := ⟨rfl, rfl, rfl, by decide +kernel, rfl, by decide +kernel, by decide +kernel⟩
  refine ⟨⟨f, fd, def_ok (N := N_is_name) (ps := P_is_name) (g := g_is_name) F0 sc rfl fun cdv A outer s H E B hr hn => ?_, F0.binds fun _ _ _ _ _ _ us hl => match us, hl with | [_], _ => rfl, F0.kp, mf⟩⟩
  have tk := takes_of (X := (cxOf (L2.CX P w) P w K mg base N_is_name "is_name" (defScope s_is_name) f cdv A outer s H E)) rfl rfl rfl rfl
  have hp := passes_of (X := (cxOf (L2.CX P w) P w K mg base N_is_name "is_name" (defScope s_is_name) f cdv A outer s H E)) rfl
  have hu := hr.units
  exact pds_cons (pds_if (pdt_w (pdw_or (pdt_not (pdt_val (pd_callB call_isi o_isi (by rfl) m_isinstance (by decide +kernel) (pda_cons (pd_var (pv 0)) (pda_cons (pd_ty rfl m_str (by decide +kernel)) (pda_nil)))))) (pdw_one_or (pdt_not (pdt_chain op_le op_le sc_le sc_le (pd_int) (pd_callB call_len o_len (by rfl) m_len (by decide +kernel) (pda_cons (pd_var (pv 0)) (pda_nil))) (pd_gint rfl kc_LONGEST_NAME))))))
      (pds_one (pds_ret (pd_bl)))
      (pds_nil))
    (pds_one (pds_ret (pd_callB (cr_all rfl) o_all (by rfl) m_all (by decide +kernel) (pda_cons (pd_lc (own := [("letter", 1)]) (js := [1]) (by rfl) sc.nd (pdi_signs (pd_var (pv 0))) (blkOk_by (N := N_is_name) (sc := defScope s_is_name) (by decide +kernel)) (by decide) (fun _ _ _ _ _ => pdg_name (pg_name (i := 1) sc.nd rfl (.inl rfl))) (fun _ _ _ _ _ => pts_yes) (fun _ _ _ _ _ => pd_cmp (op_inA hu) o_in (pd_var (pv 1)) (pd_gstr rfl kc_LETTERS) (by rfl))) (pda_nil)))))
abbrev s_is_named_talk : Stmt := topOf PySem.Challenge.pw_talkmeans_k13_rows_and_rings 36
abbrev N_is_named_talk : List Str := ["value"]
abbrev P_is_named_talk : List Str := ["value"]
theorem ok_is_named_talk {P : Program} {w : World} {K : PySem.W.Frag} {mg : Str → Option Value} {base : Heap} {C : Cl} {f : Addr} {fd : FuncData} (F0 : Fun K "is_named_talk" "is_named_talk" s_is_named_talk f fd) (mf : mg "is_named_talk" = some (.ref f))
    (h_is_pair : DefOk P w K mg base C 1 "is_pair" P_is_pair F_is_pair)
    (h_is_name : DefOk P w K mg base C 1 "is_name" P_is_name F_is_name)
    (m_isinstance : mg "isinstance" = none)
    (m_Talk : mg "Talk" = some (.ref (C.adr 10)))
    (io_T : IsiOk K C [10]) : DefOk P w K mg base C 2 "is_named_talk" P_is_named_talk F_is_named_talk := by
  have sc : FnScope N_is_named_talk P_is_named_talk (defScope s_is_named_talk) := ⟨rfl, rfl, rfl, by decide +kernel, rfl, by decide +kernel, by decide +kernel⟩
  refine ⟨⟨f, fd, def_ok (N := N_is_named_talk) (ps := P_is_named_talk) (g := g_is_named_talk) F0 sc rfl fun cdv A outer s H E B hr hn => ?_, F0.binds fun _ _ _ _ _ _ us hl => match us, hl with | [_], _ => rfl, F0.kp, mf⟩⟩
  have tk := takes_of (X := (cxOf (L2.CX P w) P w K mg base N_is_named_talk "is_named_talk" (defScope s_is_named_talk) f cdv A outer s H E)) rfl rfl rfl rfl
  have hp := passes_of (X := (cxOf (L2.CX P w) P w K mg base N_is_named_talk "is_named_talk" (defScope s_is_named_talk) f cdv A outer s H E)) rfl
  have hu := hr.units
  exact pds_one (pds_ret (pd_and (pd_fn h_is_pair (hr.mono (by decide)) tk rfl (pda_cons (pd_lend (pd_var (pv 0))) (pda_nil))) (pd_and (pd_fn h_is_name (hr.mono (by decide)) tk rfl (pda_cons (pd_ixR ix_seq o_ix (pd_var (pv 0)) (pd_int) (fun _ _ => rfl)) (pda_nil))) (pd_one (pd_callB call_isi (o_isiX io_T) (by rfl) m_isinstance (by decide +kernel) (pda_cons (pd_ixR ix_seq o_ix (pd_var (pv 0)) (pd_int) (fun _ _ => rfl)) (pda_cons (pd_cls rfl m_Talk) (pda_nil))))))))
abbrev s_are_talks : Stmt := topOf PySem.Challenge.pw_talkmeans_k13_rows_and_rings 35
abbrev N_are_talks : List Str := ["talks", "pair"]
abbrev P_are_talks : List Str := ["talks"]
theorem ok_are_talks {P : Program} {w : World} {K : PySem.W.Frag} {mg : Str → Option Value} {base : Heap} {C : Cl} {f : Addr} {fd : FuncData} (F0 : Fun K "are_talks" "are_talks" s_are_talks f fd) (mf : mg "are_talks" = some (.ref f))
    (h_is_sequence : DefOk P w K mg base C 1 "is_sequence" P_is_sequence F_is_sequence)
    (m_len : mg "len" = none)
    (mh_len_T : MethOk P w K mg base C 1 "__len__" mt_len_T)
    (m_all : mg "all" = none)
    (h_is_named_talk : DefOk P w K mg base C 2 "is_named_talk" P_is_named_talk F_is_named_talk) : DefOk P w K mg base C 3 "are_talks" P_are_talks F_are_talks := by
  have sc : FnScope N_are_talks P_are_talks (defScope s_are_talks) := ⟨rfl, rfl, rfl, by decide +kernel, rfl, by decide +kernel, by decide +kernel⟩
  refine ⟨⟨f, fd, def_ok (N := N_are_talks) (ps := P_are_talks) (g := g_are_talks) F0 sc rfl fun cdv A outer s H E B hr hn => ?_, F0.binds fun _ _ _ _ _ _ us hl => match us, hl with | [_], _ => rfl, F0.kp, mf⟩⟩
  have tk := takes_of (X := (cxOf (L2.CX P w) P w K mg base N_are_talks "are_talks" (defScope s_are_talks) f cdv A outer s H E)) rfl rfl rfl rfl
  have hp := passes_of (X := (cxOf (L2.CX P w) P w K mg base N_are_talks "are_talks" (defScope s_are_talks) f cdv A outer s H E)) rfl
  have hu := hr.units
  exact pds_cons (pds_if (pdt_w (pdw_or (pdt_not (pdt_val (pd_fn h_is_sequence (hr.mono (by decide)) tk rfl (pda_cons (pd_lend (pd_var (pv 0))) (pda_nil))))) (pdw_one_or (pdt_cmp (op_eqA hu) o_eq (pd_callB (cr_lenX (k := 1) (hr.mono (by decide))) (o_lenX mh_len_T) (by rfl) m_len (by decide +kernel) (pda_cons (pd_var (pv 0)) (pda_nil))) (pd_int) (nomark _)))))
      (pds_one (pds_ret (pd_bl)))
      (pds_nil))
    (pds_cons (pds_if (pdt_not (pdt_val (pd_callB (cr_all rfl) o_all (by rfl) m_all (by decide +kernel) (pda_cons (pd_lc (own := [("pair", 1)]) (js := [1]) (by rfl) sc.nd (pdi_seq (pd_var (pv 0))) (blkOk_by (N := N_are_talks) (sc := defScope s_are_talks) (by decide +kernel)) (by decide) (fun _ _ _ _ _ => pdg_name (pg_name (i := 1) sc.nd rfl (.inl rfl))) (fun _ _ _ _ _ => pts_yes) (fun _ _ _ _ _ => pd_fn h_is_named_talk (hr.mono (by decide)) takes0 rfl (pda_cons (pd_lend (pd_var (pv 1))) (pda_nil)))) (pda_nil)))))
      (pds_one (pds_ret (pd_bl)))
      (pds_nil))
    (pds_cons (pds_if (pdt_not (pdt_val (pd_callB (cr_all rfl) o_all (by rfl) m_all (by decide +kernel) (pda_cons (pd_lc (own := [("pair", 1)]) (js := [1]) (by rfl) sc.nd (pdi_seq (pd_var (pv 0))) (blkOk_by (N := N_are_talks) (sc := defScope s_are_talks) (by decide +kernel)) (by decide) (fun _ _ _ _ _ => pdg_name (pg_name (i := 1) sc.nd rfl (.inl rfl))) (fun _ _ _ _ _ => pts_yes) (fun _ _ _ _ _ => pd_cmp (op_eqA hu) o_eq (pd_callB (cr_lenX (k := 1) (hr.mono (by decide))) (o_lenX mh_len_T) (by rfl) m_len (by decide +kernel) (pda_cons (pd_ixR ix_seq o_ix (pd_var (pv 1)) (pd_int) (fun _ _ => rfl)) (pda_nil))) (pd_callB (cr_lenX (k := 1) (hr.mono (by decide))) (o_lenX mh_len_T) (by rfl) m_len (by decide +kernel) (pda_cons (pd_ixR ix_seq o_ix (pd_ixR ix_seq o_ix (pd_var (pv 0)) (pd_int) (fun _ _ => rfl)) (pd_int) (fun _ _ => rfl)) (pda_nil))) (nomark _))) (pda_nil)))))
      (pds_one (pds_ret (pd_bl)))
      (pds_nil))
    (pds_one (pds_ret (pd_cmp (op_eqA hu) o_eq (pd_lenSc (own := [("pair", 1)]) (js := [1]) (by rfl) m_len (by rfl) sc.nd (pdi_seq (pd_var (pv 0))) (blkOk_by (N := N_are_talks) (sc := defScope s_are_talks) (by decide +kernel)) (by decide) (fun _ _ _ _ _ => pdg_name (pg_name (i := 1) sc.nd rfl (.inl rfl))) (fun _ _ _ _ _ => pts_yes) (fun _ _ _ _ _ => pd_ixR ix_seq o_ix (pd_var (pv 1)) (pd_int) (fun _ _ => rfl))) (pd_callB (cr_lenX (k := 1) (hr.mono (by decide))) (o_lenX mh_len_T) (by rfl) m_len (by decide +kernel) (pda_cons (pd_var (pv 0)) (pda_nil))) (nomark _))))))
abbrev s_are_steps : Stmt := topOf PySem.Challenge.pw_talkmeans_k13_rows_and_rings 37
abbrev N_are_steps : List Str := ["steps", "names", "step"]
abbrev P_are_steps : List Str := ["steps", "names"]
theorem ok_are_steps {P : Program} {w : World} {K : PySem.W.Frag} {mg : Str → Option Value} {base : Heap} {C : Cl} {f : Addr} {fd : FuncData} (F0 : Fun K "are_steps" "are_steps" s_are_steps f fd) (mf : mg "are_steps" = some (.ref f))
    (h_is_sequence : DefOk P w K mg base C 1 "is_sequence" P_is_sequence F_is_sequence)
    (m_all : mg "all" = none)
    (h_is_pair : DefOk P w K mg base C 1 "is_pair" P_is_pair F_is_pair)
    (m_len : mg "len" = none)
    (m_set : mg "set" = none) : DefOk P w K mg base C 2 "are_steps" P_are_steps F_are_steps := by
  have sc : FnScope N_are_steps P_are_steps (defScope s_are_steps) := ⟨rfl, rfl, rfl, by decide +kernel, rfl, by decide +kernel, by decide +kernel⟩
  refine ⟨⟨f, fd, def_ok (N := N_are_steps) (ps := P_are_steps) (g := g_are_steps) F0 sc rfl fun cdv A outer s H E B hr hn => ?_, F0.binds fun _ _ _ _ _ _ us hl => match us, hl with | [_, _], _ => rfl, F0.kp, mf⟩⟩
  have tk := takes_of (X := (cxOf (L2.CX P w) P w K mg base N_are_steps "are_steps" (defScope s_are_steps) f cdv A outer s H E)) rfl rfl rfl rfl
  have hp := passes_of (X := (cxOf (L2.CX P w) P w K mg base N_are_steps "are_steps" (defScope s_are_steps) f cdv A outer s H E)) rfl
  have hu := hr.units
  exact pds_cons (pds_if (pdt_not (pdt_val (pd_fn h_is_sequence (hr.mono (by decide)) tk rfl (pda_cons (pd_lend (pd_var (pv 0))) (pda_nil)))))
      (pds_one (pds_ret (pd_bl)))
      (pds_nil))
    (pds_cons (pds_if (pdt_not (pdt_val (pd_callB (cr_all rfl) o_all (by rfl) m_all (by decide +kernel) (pda_cons (pd_lc (own := [("step", 2)]) (js := [2]) (by rfl) sc.nd (pdi_seq (pd_var (pv 0))) (blkOk_by (N := N_are_steps) (sc := defScope s_are_steps) (by decide +kernel)) (by decide) (fun _ _ _ _ _ => pdg_name (pg_name (i := 2) sc.nd rfl (.inl rfl))) (fun _ _ _ _ _ => pts_yes) (fun _ _ _ _ _ => pd_and (pd_fn h_is_pair (hr.mono (by decide)) takes0 rfl (pda_cons (pd_lend (pd_var (pv 2))) (pda_nil))) (pd_and (pd_cmp (op_inA hu) o_in (pd_ixR ix_seq o_ix (pd_var (pv 2)) (pd_int) (fun _ _ => rfl)) (pd_var (pv 1)) (by rfl)) (pd_one (pd_cmp (op_inA hu) o_in (pd_ixR ix_seq o_ix (pd_var (pv 2)) (pd_int) (fun _ _ => rfl)) (pd_var (pv 1)) (by rfl)))))) (pda_nil)))))
      (pds_one (pds_ret (pd_bl)))
      (pds_nil))
    (pds_one (pds_ret (pd_cmp (op_eqA hu) o_eq (pd_lenSet (by rfl) hu (by rfl) m_len (by rfl) m_set (pd_var (pv 0))) (pd_callB call_len o_len (by rfl) m_len (by decide +kernel) (pda_cons (pd_var (pv 0)) (pda_nil))) (nomark _)))))
abbrev s_Book___init__ : Stmt := inClass (topOf PySem.Challenge.pw_talkmeans_k13_rows_and_rings 33) 0
abbrev N_Book___init__ : List Str := ["self", "talks", "steps", "pair"]
abbrev P_Book___init__ : List Str := ["self", "talks", "steps"]
theorem ok_Book___init__ {P : Program} {w : World} {K : PySem.W.Frag} {mg : Str → Option Value} {base : Heap} {C : Cl} {f : Addr} {fd : FuncData} (F0 : FunT K "__init__" "Book.__init__" s_Book___init__ 1 f fd)
    (h_are_talks : DefOk P w K mg base C 3 "are_talks" P_are_talks F_are_talks)
    (rs_InvalidBook : RaiseOk P w K mg base C 1 "InvalidBook" 2 "word")
    (h_are_steps : DefOk P w K mg base C 2 "are_steps" P_are_steps F_are_steps)
    (fl_talks : FldOk K C att "talks")
    (m_tuple : mg "tuple" = none)
    (fl_steps : FldOk K C att "steps")
    (m_sorted : mg "sorted" = none) : FOk P w K mg base C 4 f P_Book___init__ F_Book___init__ := by
  have sc : FnScope N_Book___init__ P_Book___init__ (defScope s_Book___init__) := ⟨rfl, rfl, rfl, by decide +kernel, rfl, by decide +kernel, by decide +kernel⟩
  refine ⟨⟨fd, def_okT (N := N_Book___init__) (ps := P_Book___init__) (g := g_Book___init__) F0 sc rfl fun cdv A outer s H E B hr hn => ?_, F0.binds fun _ _ _ _ _ _ _ us its hl hi => match us, its, hl, hi with | [_, _, _], [_], _, _ => ⟨_, rfl, rfl⟩⟩⟩
  have tk := takes_of (X := (cxOf (L2.CX P w) P w K mg base N_Book___init__ "Book.__init__" (defScope s_Book___init__) f cdv A outer s H E)) rfl rfl rfl rfl
  have hp := passes_of (X := (cxOf (L2.CX P w) P w K mg base N_Book___init__ "Book.__init__" (defScope s_Book___init__) f cdv A outer s H E)) rfl
  have hu := hr.units
  exact pds_cons (pds_if (pdt_not (pdt_val (pd_fn h_are_talks (hr.mono (by decide)) tk rfl (pda_cons (pd_lend (pd_var (pv 1))) (pda_nil)))))
      (pds_one (pds_raise1 rs_InvalidBook rfl (hr.mono (by decide)) tk rfl (pd_str)))
      (pds_nil))
    (pds_cons (pds_if (pdt_not (pdt_val (pd_fn h_are_steps (hr.mono (by decide)) tk rfl (pda_cons (pd_lend (pd_var (pv 2))) (pda_cons (pd_lend (pd_lc (own := [("pair", 3)]) (js := [3]) (by rfl) sc.nd (pdi_seq (pd_var (pv 1))) (blkOk_by (N := N_Book___init__) (sc := defScope s_Book___init__) (by decide +kernel)) (by decide) (fun _ _ _ _ _ => pdg_name (pg_name (i := 3) sc.nd rfl (.inl rfl))) (fun _ _ _ _ _ => pts_yes) (fun _ _ _ _ _ => pd_ixR ix_seq o_ix (pd_var (pv 3)) (pd_int) (fun _ _ => rfl)))) (pda_nil))))))
      (pds_one (pds_raise1 rs_InvalidBook rfl (hr.mono (by decide)) tk rfl (pd_str)))
      (pds_nil))
    (pds_cons (pds_fld fl_talks (pd_var (pv 0)) (pd_callTy call_tuple_of o_tupOf (by rfl) m_tuple (by decide +kernel) (pda_cons (pd_var (pv 1)) (pda_nil))))
    (pds_one (pds_fld fl_steps (pd_var (pv 0)) (pd_callTy call_tuple_of o_tupOf (by rfl) m_tuple (by decide +kernel) (pda_cons (pd_callB (cr_sortD hu) o_sortD (by rfl) m_sorted (by decide +kernel) (pda_cons (pd_var (pv 2)) (pda_nil))) (pda_nil)))))))
abbrev s_is_int : Stmt := topOf PySem.Challenge.pw_talkmeans_k13_rows_and_rings 11
abbrev N_is_int : List Str := ["value"]
abbrev P_is_int : List Str := ["value"]
theorem ok_is_int {P : Program} {w : World} {K : PySem.W.Frag} {mg : Str → Option Value} {base : Heap} {C : Cl} {f : Addr} {fd : FuncData} (F0 : Fun K "is_int" "is_int" s_is_int f fd) (mf : mg "is_int" = some (.ref f))
    (m_isinstance : mg "isinstance" = none)
    (m_int : mg "int" = none)
    (m_bool : mg "bool" = none) : DefOk P w K mg base C 1 "is_int" P_is_int F_is_int := by
  have sc : FnScope N_is_int P_is_int (defScope s_is_int) := ⟨rfl, rfl, rfl, by decide +kernel, rfl, by decide +kernel, by decide +kernel⟩
  refine ⟨⟨f, fd, def_ok (N := N_is_int) (ps := P_is_int) (g := g_is_int) F0 sc rfl fun cdv A outer s H E B hr hn => ?_, F0.binds fun _ _ _ _ _ _ us hl => match us, hl with | [_], _ => rfl, F0.kp, mf⟩⟩
  have tk := takes_of (X := (cxOf (L2.CX P w) P w K mg base N_is_int "is_int" (defScope s_is_int) f cdv A outer s H E)) rfl rfl rfl rfl
  have hp := passes_of (X := (cxOf (L2.CX P w) P w K mg base N_is_int "is_int" (defScope s_is_int) f cdv A outer s H E)) rfl
  have hu := hr.units
  exact pds_one (pds_ret (pd_and (pd_callB call_isi o_isi (by rfl) m_isinstance (by decide +kernel) (pda_cons (pd_var (pv 0)) (pda_cons (pd_ty rfl m_int (by decide +kernel)) (pda_nil)))) (pd_one (pd_not (pd_callB call_isi o_isi (by rfl) m_isinstance (by decide +kernel) (pda_cons (pd_var (pv 0)) (pda_cons (pd_ty rfl m_bool (by decide +kernel)) (pda_nil))))))))
abbrev s_is_number : Stmt := topOf PySem.Challenge.pw_talkmeans_k13_rows_and_rings 12
abbrev N_is_number : List Str := ["value"]
abbrev P_is_number : List Str := ["value"]
theorem ok_is_number {P : Program} {w : World} {K : PySem.W.Frag} {mg : Str → Option Value} {base : Heap} {C : Cl} {f : Addr} {fd : FuncData} (F0 : Fun K "is_number" "is_number" s_is_number f fd) (mf : mg "is_number" = some (.ref f))
    (h_is_int : DefOk P w K mg base C 1 "is_int" P_is_int F_is_int) : DefOk P w K mg base C 2 "is_number" P_is_number F_is_number := by
  have sc : FnScope N_is_number P_is_number (defScope s_is_number) := ⟨rfl, rfl, rfl, by decide +kernel, rfl, by decide +kernel, by decide +kernel⟩
  refine ⟨⟨f, fd, def_ok (N := N_is_number) (ps := P_is_number) (g := g_is_number) F0 sc rfl fun cdv A outer s H E B hr hn => ?_, F0.binds fun _ _ _ _ _ _ us hl => match us, hl with | [_], _ => rfl, F0.kp, mf⟩⟩
  have tk := takes_of (X := (cxOf (L2.CX P w) P w K mg base N_is_number "is_number" (defScope s_is_number) f cdv A outer s H E)) rfl rfl rfl rfl
  have hp := passes_of (X := (cxOf (L2.CX P w) P w K mg base N_is_number "is_number" (defScope s_is_number) f cdv A outer s H E)) rfl
  have hu := hr.units
  exact pds_one (pds_ret (pd_and (pd_fn h_is_int (hr.mono (by decide)) tk rfl (pda_cons (pd_lend (pd_var (pv 0))) (pda_nil))) (pd_one (pd_cmp op_ge o_ge (pd_var (pv 0)) (pd_int) (nomark _)))))
abbrev s_is_row_of : Stmt := topOf PySem.Challenge.pw_talkmeans_k13_rows_and_rings 23
abbrev N_is_row_of : List Str := ["row", "person", "people", "weight"]
abbrev P_is_row_of : List Str := ["row", "person", "people"]
theorem ok_is_row_of {P : Program} {w : World} {K : PySem.W.Frag} {mg : Str → Option Value} {base : Heap} {C : Cl} {f : Addr} {fd : FuncData} (F0 : Fun K "is_row_of" "is_row_of" s_is_row_of f fd) (mf : mg "is_row_of" = some (.ref f))
    (h_is_sequence : DefOk P w K mg base C 1 "is_sequence" P_is_sequence F_is_sequence)
    (m_len : mg "len" = none)
    (m_all : mg "all" = none)
    (h_is_number : DefOk P w K mg base C 2 "is_number" P_is_number F_is_number) : DefOk P w K mg base C 3 "is_row_of" P_is_row_of F_is_row_of := by
  have sc : FnScope N_is_row_of P_is_row_of (defScope s_is_row_of) := ⟨rfl, rfl, rfl, by decide +kernel, rfl, by decide +kernel, by decide +kernel⟩
  refine ⟨⟨f, fd, def_ok (N := N_is_row_of) (ps := P_is_row_of) (g := g_is_row_of) F0 sc rfl fun cdv A outer s H E B hr hn => ?_, F0.binds fun _ _ _ _ _ _ us hl => match us, hl with | [_, _, _], _ => rfl, F0.kp, mf⟩⟩
  have tk := takes_of (X := (cxOf (L2.CX P w) P w K mg base N_is_row_of "is_row_of" (defScope s_is_row_of) f cdv A outer s H E)) rfl rfl rfl rfl
  have hp := passes_of (X := (cxOf (L2.CX P w) P w K mg base N_is_row_of "is_row_of" (defScope s_is_row_of) f cdv A outer s H E)) rfl
  have hu := hr.units
  exact pds_cons (pds_if (pdt_w (pdw_or (pdt_not (pdt_val (pd_fn h_is_sequence (hr.mono (by decide)) tk rfl (pda_cons (pd_lend (pd_var (pv 0))) (pda_nil))))) (pdw_one_or (pdt_cmp (op_neA hu) o_ne (pd_callB call_len o_len (by rfl) m_len (by decide +kernel) (pda_cons (pd_var (pv 0)) (pda_nil))) (pd_var (pv 2)) (nomark _)))))
      (pds_one (pds_ret (pd_bl)))
      (pds_nil))
    (pds_one (pds_ret (pd_and (pd_callB (cr_all rfl) o_all (by rfl) m_all (by decide +kernel) (pda_cons (pd_lc (own := [("weight", 3)]) (js := [3]) (by rfl) sc.nd (pdi_seq (pd_var (pv 0))) (blkOk_by (N := N_is_row_of) (sc := defScope s_is_row_of) (by decide +kernel)) (by decide) (fun _ _ _ _ _ => pdg_name (pg_name (i := 3) sc.nd rfl (.inl rfl))) (fun _ _ _ _ _ => pts_yes) (fun _ _ _ _ _ => pd_fn h_is_number (hr.mono (by decide)) takes0 rfl (pda_cons (pd_lend (pd_var (pv 3))) (pda_nil)))) (pda_nil))) (pd_one (pd_cmp op_gt o_gt (pd_ixR ix_seq o_ix (pd_var (pv 0)) (pd_var (pv 1)) (fun _ _ => rfl)) (pd_int) (nomark _))))))
abbrev s_first_wrong_row : Stmt := topOf PySem.Challenge.pw_talkmeans_k13_rows_and_rings 22
abbrev N_first_wrong_row : List Str := ["rows", "at", "row"]
abbrev P_first_wrong_row : List Str := ["rows"]
theorem ok_first_wrong_row {P : Program} {w : World} {K : PySem.W.Frag} {mg : Str → Option Value} {base : Heap} {C : Cl} {f : Addr} {fd : FuncData} (F0 : Fun K "first_wrong_row" "first_wrong_row" s_first_wrong_row f fd) (mf : mg "first_wrong_row" = some (.ref f))
    (h_is_sequence : DefOk P w K mg base C 1 "is_sequence" P_is_sequence F_is_sequence)
    (m_len : mg "len" = none)
    (m_enumerate : mg "enumerate" = none)
    (h_is_row_of : DefOk P w K mg base C 3 "is_row_of" P_is_row_of F_is_row_of) : DefOk P w K mg base C 4 "first_wrong_row" P_first_wrong_row F_first_wrong_row := by
  have sc : FnScope N_first_wrong_row P_first_wrong_row (defScope s_first_wrong_row) := ⟨rfl, rfl, rfl, by decide +kernel, rfl, by decide +kernel, by decide +kernel⟩
  refine ⟨⟨f, fd, def_ok (N := N_first_wrong_row) (ps := P_first_wrong_row) (g := g_first_wrong_row) F0 sc rfl fun cdv A outer s H E B hr hn => ?_, F0.binds fun _ _ _ _ _ _ us hl => match us, hl with | [_], _ => rfl, F0.kp, mf⟩⟩
  have tk := takes_of (X := (cxOf (L2.CX P w) P w K mg base N_first_wrong_row "first_wrong_row" (defScope s_first_wrong_row) f cdv A outer s H E)) rfl rfl rfl rfl
  have hp := passes_of (X := (cxOf (L2.CX P w) P w K mg base N_first_wrong_row "first_wrong_row" (defScope s_first_wrong_row) f cdv A outer s H E)) rfl
  have hu := hr.units
  exact pds_cons (pds_if (pdt_w (pdw_or (pdt_not (pdt_val (pd_fn h_is_sequence (hr.mono (by decide)) tk rfl (pda_cons (pd_lend (pd_var (pv 0))) (pda_nil))))) (pdw_one_or (pdt_cmp (op_eqA hu) o_eq (pd_callB call_len o_len (by rfl) m_len (by decide +kernel) (pda_cons (pd_var (pv 0)) (pda_nil))) (pd_int) (nomark _)))))
      (pds_one (pds_ret (pd_int)))
      (pds_nil))
    (pds_cons (pds_for (js := [1, 2]) hp rfl (pdi_enum (by rfl) m_enumerate (pd_var (pv 0))) (pdg_tup rfl (pdgs_cons (pg_name (i := 1) sc.nd rfl (.inl rfl)) (pdgs_cons (pg_name (i := 2) sc.nd rfl (.inl rfl)) (pdgs_nil))))
      (pds_one (pds_if (pdt_not (pdt_val (pd_fn h_is_row_of (hr.mono (by decide)) tk rfl (pda_cons (pd_lend (pd_var (pv 2))) (pda_cons (pd_lend (pd_var (pv 1))) (pda_cons (pd_callB call_len o_len (by rfl) m_len (by decide +kernel) (pda_cons (pd_var (pv 0)) (pda_nil))) (pda_nil)))))))
      (pds_one (pds_ret (pd_var (pv 1))))
      (pds_nil))))
    (pds_one (pds_ret (pd_non))))
abbrev s_common_divisor : Stmt := topOf PySem.Challenge.pw_talkmeans_k13_rows_and_rings 17
abbrev N_common_divisor : List Str := ["numbers", "divisor", "number"]
abbrev P_common_divisor : List Str := ["numbers"]
theorem ok_common_divisor {P : Program} {w : World} {K : PySem.W.Frag} {mg : Str → Option Value} {base : Heap} {C : Cl} {f : Addr} {fd : FuncData} (F0 : Fun K "common_divisor" "common_divisor" s_common_divisor f fd) (mf : mg "common_divisor" = some (.ref f))
    (m_gcd : mg "gcd" = some (.builtin "math.gcd")) : DefOk P w K mg base C 1 "common_divisor" P_common_divisor F_common_divisor := by
  have sc : FnScope N_common_divisor P_common_divisor (defScope s_common_divisor) := ⟨rfl, rfl, rfl, by decide +kernel, rfl, by decide +kernel, by decide +kernel⟩
  refine ⟨⟨f, fd, def_ok (N := N_common_divisor) (ps := P_common_divisor) (g := g_common_divisor) F0 sc rfl fun cdv A outer s H E B hr hn => ?_, F0.binds fun _ _ _ _ _ _ us hl => match us, hl with | [_], _ => rfl, F0.kp, mf⟩⟩
  have tk := takes_of (X := (cxOf (L2.CX P w) P w K mg base N_common_divisor "common_divisor" (defScope s_common_divisor) f cdv A outer s H E)) rfl rfl rfl rfl
  have hp := passes_of (X := (cxOf (L2.CX P w) P w K mg base N_common_divisor "common_divisor" (defScope s_common_divisor) f cdv A outer s H E)) rfl
  have hu := hr.units
  exact pds_cons (pds_set (i := 1) (np := 1) hn sc.nd rfl (.inl rfl) (pd_int))
    (pds_cons (pds_for (js := [2]) hp rfl (pdi_seq (pd_var (pv 0))) (pdg_name (pg_name (i := 2) sc.nd rfl (.inl rfl)))
      (pds_one (pds_set (i := 1) (np := 1) hn sc.nd rfl (.inl rfl) (pd_callM cr_gcd o_gcd rfl m_gcd (pda_cons (pd_var (pv 1)) (pda_cons (pd_var (pv 2)) (pda_nil)))))))
    (pds_one (pds_ret (pd_var (pv 1)))))
abbrev s_normal_row : Stmt := topOf PySem.Challenge.pw_talkmeans_k13_rows_and_rings 24
abbrev N_normal_row : List Str := ["row", "divisor", "weight"]
abbrev P_normal_row : List Str := ["row"]
theorem ok_normal_row {P : Program} {w : World} {K : PySem.W.Frag} {mg : Str → Option Value} {base : Heap} {C : Cl} {f : Addr} {fd : FuncData} (F0 : Fun K "normal_row" "normal_row" s_normal_row f fd) (mf : mg "normal_row" = some (.ref f))
    (h_common_divisor : DefOk P w K mg base C 1 "common_divisor" P_common_divisor F_common_divisor)
    (m_tuple : mg "tuple" = none) : DefOk P w K mg base C 2 "normal_row" P_normal_row F_normal_row := by
  have sc : FnScope N_normal_row P_normal_row (defScope s_normal_row) := ⟨rfl, rfl, rfl, by decide +kernel, rfl, by decide +kernel, by decide +kernel⟩
  refine ⟨⟨f, fd, def_ok (N := N_normal_row) (ps := P_normal_row) (g := g_normal_row) F0 sc rfl fun cdv A outer s H E B hr hn => ?_, F0.binds fun _ _ _ _ _ _ us hl => match us, hl with | [_], _ => rfl, F0.kp, mf⟩⟩
  have tk := takes_of (X := (cxOf (L2.CX P w) P w K mg base N_normal_row "normal_row" (defScope s_normal_row) f cdv A outer s H E)) rfl rfl rfl rfl
  have hp := passes_of (X := (cxOf (L2.CX P w) P w K mg base N_normal_row "normal_row" (defScope s_normal_row) f cdv A outer s H E)) rfl
  have hu := hr.units
  exact pds_cons (pds_set (i := 1) (np := 1) hn sc.nd rfl (.inr rfl) (pd_fn h_common_divisor (hr.mono (by decide)) tk rfl (pda_cons (pd_lend (pd_var (pv 0))) (pda_nil))))
    (pds_one (pds_ret (pd_callTy call_tuple_of o_tupOf (by rfl) m_tuple (by decide +kernel) (pda_cons (pd_lc (own := [("weight", 2)]) (js := [2]) (by rfl) sc.nd (pdi_seq (pd_var (pv 0))) (blkOk_by (N := N_normal_row) (sc := defScope s_normal_row) (by decide +kernel)) (by decide) (fun _ _ _ _ _ => pdg_name (pg_name (i := 2) sc.nd rfl (.inl rfl))) (fun _ _ _ _ _ => pts_yes) (fun _ _ _ _ _ => pd_bin op_fdivW o_fdiv (pd_var (pv 2)) (pd_var (pv 1)))) (pda_nil)))))
abbrev s_Talk___init__ : Stmt := inClass (topOf PySem.Challenge.pw_talkmeans_k13_rows_and_rings 21) 0
abbrev N_Talk___init__ : List Str := ["self", "rows", "wrong", "row"]
abbrev P_Talk___init__ : List Str := ["self", "rows"]
theorem ok_Talk___init__ {P : Program} {w : World} {K : PySem.W.Frag} {mg : Str → Option Value} {base : Heap} {C : Cl} {f : Addr} {fd : FuncData} (F0 : Fun K "__init__" "Talk.__init__" s_Talk___init__ f fd)
    (h_first_wrong_row : DefOk P w K mg base C 4 "first_wrong_row" P_first_wrong_row F_first_wrong_row)
    (rs_InvalidTalk : RaiseOk P w K mg base C 1 "InvalidTalk" 1 "at")
    (fl_rows : FldOk K C att "rows")
    (m_tuple : mg "tuple" = none)
    (h_normal_row : DefOk P w K mg base C 2 "normal_row" P_normal_row F_normal_row) : FOk P w K mg base C 5 f P_Talk___init__ F_Talk___init__ := by
  have sc : FnScope N_Talk___init__ P_Talk___init__ (defScope s_Talk___init__) := ⟨rfl, rfl, rfl, by decide +kernel, rfl, by decide +kernel, by decide +kernel⟩
  refine ⟨⟨fd, def_ok (N := N_Talk___init__) (ps := P_Talk___init__) (g := g_Talk___init__) F0 sc rfl fun cdv A outer s H E B hr hn => ?_, F0.binds fun _ _ _ _ _ _ us hl => match us, hl with | [_, _], _ => rfl⟩⟩
  have tk := takes_of (X := (cxOf (L2.CX P w) P w K mg base N_Talk___init__ "Talk.__init__" (defScope s_Talk___init__) f cdv A outer s H E)) rfl rfl rfl rfl
  have hp := passes_of (X := (cxOf (L2.CX P w) P w K mg base N_Talk___init__ "Talk.__init__" (defScope s_Talk___init__) f cdv A outer s H E)) rfl
  have hu := hr.units
  exact pds_cons (pds_set (i := 2) (np := 2) hn sc.nd rfl (.inl rfl) (pd_fn h_first_wrong_row (hr.mono (by decide)) tk rfl (pda_cons (pd_lend (pd_var (pv 1))) (pda_nil))))
    (pds_cons (pds_if (pdt_cmp op_notN o_notN (pd_var (pv 2)) (pd_non) (nomark _))
      (pds_one (pds_raise1 rs_InvalidTalk rfl (hr.mono (by decide)) tk rfl (pd_var (pv 2))))
      (pds_nil))
    (pds_one (pds_fld fl_rows (pd_var (pv 0)) (pd_callTy call_tuple_of o_tupOf (by rfl) m_tuple (by decide +kernel) (pda_cons (pd_lc (own := [("row", 3)]) (js := [3]) (by rfl) sc.nd (pdi_seq (pd_var (pv 1))) (blkOk_by (N := N_Talk___init__) (sc := defScope s_Talk___init__) (by decide +kernel)) (by decide) (fun _ _ _ _ _ => pdg_name (pg_name (i := 3) sc.nd rfl (.inl rfl))) (fun _ _ _ _ _ => pts_yes) (fun _ _ _ _ _ => pd_fn h_normal_row (hr.mono (by decide)) takes0 rfl (pda_cons (pd_lend (pd_var (pv 3))) (pda_nil)))) (pda_nil))))))
abbrev s__law_book_of : Stmt := topOf PySem.Challenge.pw_talkmeans_k13_rows_and_rings 47
abbrev N__law_book_of : List Str := ["_law_drawn", "_law_name", "_law_rows"]
abbrev P__law_book_of : List Str := ["_law_drawn"]
theorem ok__law_book_of {P : Program} {w : World} {K : PySem.W.Frag} {mg : Str → Option Value} {base : Heap} {C : Cl} {f : Addr} {fd : FuncData} (F0 : Fun K "_law_book_of" "_law_book_of" s__law_book_of f fd) (mf : mg "_law_book_of" = some (.ref f))
    (mk_Book : MakeOk P w K mg base C 4 "Book" 11 F_Book___init__ [])
    (mk_Talk : MakeOk P w K mg base C 5 "Talk" 10 F_Talk___init__ [])
    (hA : C.att = att) : DefOk P w K mg base C 7 "_law_book_of" P__law_book_of F__law_book_of := by
  have sc : FnScope N__law_book_of P__law_book_of (defScope s__law_book_of) := ⟨rfl, rfl, rfl, by decide +kernel, rfl, by decide +kernel, by decide +kernel⟩
  refine ⟨⟨f, fd, def_ok (N := N__law_book_of) (ps := P__law_book_of) (g := g__law_book_of) F0 sc rfl fun cdv A outer s H E B hr hn => ?_, F0.binds fun _ _ _ _ _ _ us hl => match us, hl with | [_], _ => rfl, F0.kp, mf⟩⟩
  have tk := takes_of (X := (cxOf (L2.CX P w) P w K mg base N__law_book_of "_law_book_of" (defScope s__law_book_of) f cdv A outer s H E)) rfl rfl rfl rfl
  have hp := passes_of (X := (cxOf (L2.CX P w) P w K mg base N__law_book_of "_law_book_of" (defScope s__law_book_of) f cdv A outer s H E)) rfl
  have hu := hr.units
  exact pds_one (pds_ret (pd_make mk_Book hA (by rw [hn]; show 1 ≤ N__law_book_of.length; decide) (hr.mono (by decide)) tk rfl (pda_cons (pd_lend (pd_lc (own := [("_law_name", 1), ("_law_rows", 2)]) (js := [1, 2]) (by rfl) sc.nd (pdi_seq (pd_ixR ix_seq o_ix (pd_var (pv 0)) (pd_int) (fun _ _ => rfl))) (blkOk_by (N := N__law_book_of) (sc := defScope s__law_book_of) (by decide +kernel)) (by decide) (fun _ _ _ _ _ => pdg_tup rfl (pdgs_cons (pg_name (i := 1) sc.nd rfl (.inl rfl)) (pdgs_cons (pg_name (i := 2) sc.nd rfl (.inl rfl)) (pdgs_nil)))) (fun _ _ _ _ _ => pts_yes) (fun _ _ _ _ _ => pd_tup (pda_cons (pd_frz (pd_var (pv 1))) (pda_cons (pd_make mk_Talk hA (by rw [hn]; show 1 ≤ N__law_book_of.length; decide) (hr.mono (by decide)) takes0 rfl (pda_cons (pd_lend (pd_var (pv 2))) (pda_nil))) (pda_nil)))))) (pda_cons (pd_ixR ix_seq o_ix (pd_var (pv 0)) (pd_int) (fun _ _ => rfl)) (pda_nil)))))
abbrev s__law_row : Stmt := topOf PySem.Challenge.pw_talkmeans_k13_rows_and_rings 48
abbrev N__law_row : List Str := ["_law_box_here", "_law_drawn", "_law_most", "_law_found", "_law_turn", "_law_some", "_law_name", "_law_rows"]
abbrev P__law_row : List Str := ["_law_box_here", "_law_drawn", "_law_most"]
theorem ok__law_row {P : Program} {w : World} {K : PySem.W.Frag} {mg : Str → Option Value} {base : Heap} {C : Cl} {f : Addr} {fd : FuncData} (F0 : Fun K "_law_row" "_law_row" s__law_row f fd) (mf : mg "_law_row" = some (.ref f))
    (m_range : mg "range" = none)
    (h__law_take : DefOk P w K mg base C 1 "_law_take" P__law_take F__law_take_v2)
    (h__law_pick : DefOk P w K mg base C 2 "_law_pick" P__law_pick F__law_pick_v2) : DefOk P w K mg base C 3 "_law_row" P__law_row F__law_row := by
  have sc : FnScope N__law_row P__law_row (defScope s__law_row) := ⟨rfl, rfl, rfl, by decide +kernel, rfl, by decide +kernel, by decide +kernel⟩
  refine ⟨⟨f, fd, def_ok (N := N__law_row) (ps := P__law_row) (g := g__law_row) F0 sc rfl fun cdv A outer s H E B hr hn => ?_, F0.binds fun _ _ _ _ _ _ us hl => match us, hl with | [_, _, _], _ => rfl, F0.kp, mf⟩⟩
  have tk := takes_of (X := (cxOf (L2.CX P w) P w K mg base N__law_row "_law_row" (defScope s__law_row) f cdv A outer s H E)) rfl rfl rfl rfl
  have hp := passes_of (X := (cxOf (L2.CX P w) P w K mg base N__law_row "_law_row" (defScope s__law_row) f cdv A outer s H E)) rfl
  have hu := hr.units
  exact pds_cons (pds_set (i := 3) (np := 3) hn sc.nd rfl (.inr rfl) (pd_lst (pda_nil)))
    (pds_cons (pds_for (js := [4]) hp rfl (pdi_range1 (by rfl) m_range (pd_fn h__law_take (hr.mono (by decide)) tk rfl (pda_cons (pd_var (pv 0)) (pda_cons (pd_lend (pd_bin op_addA o_add (pd_var (pv 2)) (pd_int))) (pda_nil))))) (pdg_name (pg_name (i := 4) sc.nd rfl (.inl rfl)))
      (pds_cons (pds_setLc (i := 5) (np := 3) (own := [("_law_name", 6), ("_law_rows", 7)]) (js := [6, 7]) hn rfl sc.nd rfl rfl (sw_true rfl rfl rfl (by decide +kernel)) (pdi_seq (pd_ixR ix_seq o_ix (pd_var (pv 1)) (pd_int) (fun _ _ => rfl))) (blkOk_by (N := N__law_row) (sc := defScope s__law_row) (by decide +kernel)) (by decide) (fun _ _ _ _ _ => pdg_tup rfl (pdgs_cons (pg_name (i := 6) sc.nd rfl (.inl rfl)) (pdgs_cons (pg_name (i := 7) sc.nd rfl (.inl rfl)) (pdgs_nil)))) (fun _ _ _ _ _ => pts_one (pdt_w (pdw_or (pdt_cmp (op_eqA hu) o_eq (pd_var (pv 3)) (pd_lst (pda_nil)) (nomark _)) (pdw_one_or (pdt_cmp (op_inA hu) o_in (pd_tup (pda_cons (pd_ixR ix_seq o_ix (pd_var (pv 3)) (pd_neg (pd_int)) (fun _ _ => rfl)) (pda_cons (pd_frz (pd_var (pv 6))) (pda_nil)))) (pd_ixR ix_seq o_ix (pd_var (pv 1)) (pd_int) (fun _ _ => rfl)) (by rfl)))))) (fun _ _ _ _ _ => pd_var (pv 6)))
    (pds_one (pds_if (pdt_cmp (op_neA hu) o_ne (pd_var (pv 5)) (pd_lst (pda_nil)) (nomark _))
      (pds_one (pds_expr (pd_bm PySem.F.plainAttrs_list PySem.F.slot_list_append PySem.F.type_list_append mt_append o_append (pd_var (pv 3)) (pda_cons (pd_frz (pd_fn h__law_pick (hr.mono (by decide)) tk rfl (pda_cons (pd_var (pv 0)) (pda_cons (pd_lend (pd_var (pv 5))) (pda_nil))))) (pda_nil)))))
      (pds_nil)))))
    (pds_one (pds_ret (pd_var (pv 3)))))
abbrev s__law_misfit : Stmt := topOf PySem.Challenge.pw_talkmeans_k13_rows_and_rings 49
abbrev N__law_misfit : List Str := ["_law_drawn", "_law_row_here", "_law_name", "_law_names", "_law_at", "_law_rows"]
abbrev P__law_misfit : List Str := ["_law_drawn", "_law_row_here"]
theorem ok__law_misfit {P : Program} {w : World} {K : PySem.W.Frag} {mg : Str → Option Value} {base : Heap} {C : Cl} {f : Addr} {fd : FuncData} (F0 : Fun K "_law_misfit" "_law_misfit" s__law_misfit f fd) (mf : mg "_law_misfit" = some (.ref f))
    (m_enumerate : mg "enumerate" = none) : DefOk P w K mg base C 1 "_law_misfit" P__law_misfit F__law_misfit := by
  have sc : FnScope N__law_misfit P__law_misfit (defScope s__law_misfit) := ⟨rfl, rfl, rfl, by decide +kernel, rfl, by decide +kernel, by decide +kernel⟩
  refine ⟨⟨f, fd, def_ok (N := N__law_misfit) (ps := P__law_misfit) (g := g__law_misfit) F0 sc rfl fun cdv A outer s H E B hr hn => ?_, F0.binds fun _ _ _ _ _ _ us hl => match us, hl with | [_, _], _ => rfl, F0.kp, mf⟩⟩
  have tk := takes_of (X := (cxOf (L2.CX P w) P w K mg base N__law_misfit "_law_misfit" (defScope s__law_misfit) f cdv A outer s H E)) rfl rfl rfl rfl
  have hp := passes_of (X := (cxOf (L2.CX P w) P w K mg base N__law_misfit "_law_misfit" (defScope s__law_misfit) f cdv A outer s H E)) rfl
  have hu := hr.units
  exact pds_cons (pds_setLc (i := 3) (np := 2) (own := [("_law_name", 2), ("_law_rows", 5)]) (js := [2, 5]) hn rfl sc.nd rfl rfl (sw_true rfl rfl rfl (by decide +kernel)) (pdi_seq (pd_ixR ix_seq o_ix (pd_var (pv 0)) (pd_int) (fun _ _ => rfl))) (blkOk_by (N := N__law_misfit) (sc := defScope s__law_misfit) (by decide +kernel)) (by decide) (fun _ _ _ _ _ => pdg_tup rfl (pdgs_cons (pg_name (i := 2) sc.nd rfl (.inl rfl)) (pdgs_cons (pg_name (i := 5) sc.nd rfl (.inl rfl)) (pdgs_nil)))) (fun _ _ _ _ _ => pts_yes) (fun _ _ _ _ _ => pd_var (pv 2)))
    (pds_cons (pds_for (js := [4, 2]) hp rfl (pdi_enum (by rfl) m_enumerate (pd_var (pv 1))) (pdg_tup rfl (pdgs_cons (pg_name (i := 4) sc.nd rfl (.inl rfl)) (pdgs_cons (pg_name (i := 2) sc.nd rfl (.inl rfl)) (pdgs_nil))))
      (pds_one (pds_if (pdt_w (pdw_or (pdt_cmp (op_notInA hu) o_notIn (pd_var (pv 2)) (pd_var (pv 3)) (by rfl)) (pdw_one_or (pdt_w (pdw_and (pdt_cmp op_gt o_gt (pd_var (pv 4)) (pd_int) (nomark _)) (pdw_one_and (pdt_cmp (op_notInA hu) o_notIn (pd_tup (pda_cons (pd_ixR ix_seq o_ix (pd_var (pv 1)) (pd_bin op_sub o_sub (pd_var (pv 4)) (pd_int)) (fun _ _ => rfl)) (pda_cons (pd_frz (pd_var (pv 2))) (pda_nil)))) (pd_ixR ix_seq o_ix (pd_var (pv 0)) (pd_int) (fun _ _ => rfl)) (by rfl))))))))
      (pds_one (pds_ret (pd_var (pv 4))))
      (pds_nil))))
    (pds_one (pds_ret (pd_non))))
abbrev s_Book_names : Stmt := inClass (topOf PySem.Challenge.pw_talkmeans_k13_rows_and_rings 33) 2
abbrev N_Book_names : List Str := ["self", "pair"]
abbrev P_Book_names : List Str := ["self"]
theorem ok_Book_names {P : Program} {w : World} {K : PySem.W.Frag} {mg : Str → Option Value} {base : Heap} {C : Cl} {f : Addr} {fd : FuncData} (F0 : Fun K "names" "Book.names" s_Book_names f fd)
    (m_tuple : mg "tuple" = none)
    (fl_talks : FldOk K C att "talks") : FOk P w K mg base C 1 f P_Book_names F_Book_names := by
  have sc : FnScope N_Book_names P_Book_names (defScope s_Book_names) := ⟨rfl, rfl, rfl, by decide +kernel, rfl, by decide +kernel, by decide +kernel⟩
  refine ⟨⟨fd, def_ok (N := N_Book_names) (ps := P_Book_names) (g := g_Book_names) F0 sc rfl fun cdv A outer s H E B hr hn => ?_, F0.binds fun _ _ _ _ _ _ us hl => match us, hl with | [_], _ => rfl⟩⟩
  have tk := takes_of (X := (cxOf (L2.CX P w) P w K mg base N_Book_names "Book.names" (defScope s_Book_names) f cdv A outer s H E)) rfl rfl rfl rfl
  have hp := passes_of (X := (cxOf (L2.CX P w) P w K mg base N_Book_names "Book.names" (defScope s_Book_names) f cdv A outer s H E)) rfl
  have hu := hr.units
  exact pds_one (pds_ret (pd_callTy call_tuple_of o_tupOf (by rfl) m_tuple (by decide +kernel) (pda_cons (pd_lc (own := [("pair", 1)]) (js := [1]) (by rfl) sc.nd (pdi_seq (pd_fld fl_talks (pd_var (pv 0)))) (blkOk_by (N := N_Book_names) (sc := defScope s_Book_names) (by decide +kernel)) (by decide) (fun _ _ _ _ _ => pdg_name (pg_name (i := 1) sc.nd rfl (.inl rfl))) (fun _ _ _ _ _ => pts_yes) (fun _ _ _ _ _ => pd_ixR ix_seq o_ix (pd_var (pv 1)) (pd_int) (fun _ _ => rfl))) (pda_nil))))
abbrev s_check_name : Stmt := topOf PySem.Challenge.pw_talkmeans_k13_rows_and_rings 34
abbrev N_check_name : List Str := ["book", "name"]
abbrev P_check_name : List Str := ["book", "name"]
theorem ok_check_name {P : Program} {w : World} {K : PySem.W.Frag} {mg : Str → Option Value} {base : Heap} {C : Cl} {f : Addr} {fd : FuncData} (F0 : Fun K "check_name" "check_name" s_check_name f fd) (mf : mg "check_name" = some (.ref f))
    (pp_names_B : PropOk P w K mg base C 1 "names" mt_names_B) : DefOk P w K mg base C 3 "check_name" P_check_name F_check_name := by
  have sc : FnScope N_check_name P_check_name (defScope s_check_name) := ⟨rfl, rfl, rfl, by decide +kernel, rfl, by decide +kernel, by decide +kernel⟩
  refine ⟨⟨f, fd, def_ok (N := N_check_name) (ps := P_check_name) (g := g_check_name) F0 sc rfl fun cdv A outer s H E B hr hn => ?_, F0.binds fun _ _ _ _ _ _ us hl => match us, hl with | [_, _], _ => rfl, F0.kp, mf⟩⟩
  have tk := takes_of (X := (cxOf (L2.CX P w) P w K mg base N_check_name "check_name" (defScope s_check_name) f cdv A outer s H E)) rfl rfl rfl rfl
  have hp := passes_of (X := (cxOf (L2.CX P w) P w K mg base N_check_name "check_name" (defScope s_check_name) f cdv A outer s H E)) rfl
  have hu := hr.units
  exact pds_one (pds_if (pdt_cmp (op_notInA hu) o_notIn (pd_var (pv 1)) (pd_prp pp_names_B (hr.mono (by decide)) (pd_var (pv 0))) (by rfl))
      (pds_one (pds_fail))
      (pds_nil))
abbrev s_Book_behind : Stmt := inClass (topOf PySem.Challenge.pw_talkmeans_k13_rows_and_rings 33) 4
abbrev N_Book_behind : List Str := ["self", "name", "first", "then"]
abbrev P_Book_behind : List Str := ["self", "name"]
theorem ok_Book_behind {P : Program} {w : World} {K : PySem.W.Frag} {mg : Str → Option Value} {base : Heap} {C : Cl} {f : Addr} {fd : FuncData} (F0 : Fun K "behind" "Book.behind" s_Book_behind f fd)
    (h_check_name : DefOk P w K mg base C 3 "check_name" P_check_name F_check_name)
    (m_tuple : mg "tuple" = none)
    (fl_steps : FldOk K C att "steps") : FOk P w K mg base C 4 f P_Book_behind F_Book_behind := by
  have sc : FnScope N_Book_behind P_Book_behind (defScope s_Book_behind) := ⟨rfl, rfl, rfl, by decide +kernel, rfl, by decide +kernel, by decide +kernel⟩
  refine ⟨⟨fd, def_ok (N := N_Book_behind) (ps := P_Book_behind) (g := g_Book_behind) F0 sc rfl fun cdv A outer s H E B hr hn => ?_, F0.binds fun _ _ _ _ _ _ us hl => match us, hl with | [_, _], _ => rfl⟩⟩
  have tk := takes_of (X := (cxOf (L2.CX P w) P w K mg base N_Book_behind "Book.behind" (defScope s_Book_behind) f cdv A outer s H E)) rfl rfl rfl rfl
  have hp := passes_of (X := (cxOf (L2.CX P w) P w K mg base N_Book_behind "Book.behind" (defScope s_Book_behind) f cdv A outer s H E)) rfl
  have hu := hr.units
  exact pds_cons (pds_expr (pd_fn h_check_name (hr.mono (by decide)) tk rfl (pda_cons (pd_lend (pd_var (pv 0))) (pda_cons (pd_lend (pd_var (pv 1))) (pda_nil)))))
    (pds_one (pds_ret (pd_callTy call_tuple_of o_tupOf (by rfl) m_tuple (by decide +kernel) (pda_cons (pd_lc (own := [("first", 2), ("then", 3)]) (js := [2, 3]) (by rfl) sc.nd (pdi_seq (pd_fld fl_steps (pd_var (pv 0)))) (blkOk_by (N := N_Book_behind) (sc := defScope s_Book_behind) (by decide +kernel)) (by decide) (fun _ _ _ _ _ => pdg_tup rfl (pdgs_cons (pg_name (i := 2) sc.nd rfl (.inl rfl)) (pdgs_cons (pg_name (i := 3) sc.nd rfl (.inl rfl)) (pdgs_nil)))) (fun _ _ _ _ _ => pts_one (pdt_cmp (op_eqA hu) o_eq (pd_var (pv 2)) (pd_var (pv 1)) (nomark _))) (fun _ _ _ _ _ => pd_var (pv 3))) (pda_nil)))))
abbrev s_first_wrong_name : Stmt := topOf PySem.Challenge.pw_talkmeans_k13_rows_and_rings 31
abbrev N_first_wrong_name : List Str := ["book", "row", "at", "name"]
abbrev P_first_wrong_name : List Str := ["book", "row"]
theorem ok_first_wrong_name {P : Program} {w : World} {K : PySem.W.Frag} {mg : Str → Option Value} {base : Heap} {C : Cl} {f : Addr} {fd : FuncData} (F0 : Fun K "first_wrong_name" "first_wrong_name" s_first_wrong_name f fd) (mf : mg "first_wrong_name" = some (.ref f))
    (h_is_sequence : DefOk P w K mg base C 1 "is_sequence" P_is_sequence F_is_sequence)
    (m_enumerate : mg "enumerate" = none)
    (pp_names_B : PropOk P w K mg base C 1 "names" mt_names_B)
    (mh_behind_B : MethOk P w K mg base C 4 "behind" mt_behind_B) : DefOk P w K mg base C 5 "first_wrong_name" P_first_wrong_name F_first_wrong_name := by
  have sc : FnScope N_first_wrong_name P_first_wrong_name (defScope s_first_wrong_name) := ⟨rfl, rfl, rfl, by decide +kernel, rfl, by decide +kernel, by decide +kernel⟩
  refine ⟨⟨f, fd, def_ok (N := N_first_wrong_name) (ps := P_first_wrong_name) (g := g_first_wrong_name) F0 sc rfl fun cdv A outer s H E B hr hn => ?_, F0.binds fun _ _ _ _ _ _ us hl => match us, hl with | [_, _], _ => rfl, F0.kp, mf⟩⟩
  have tk := takes_of (X := (cxOf (L2.CX P w) P w K mg base N_first_wrong_name "first_wrong_name" (defScope s_first_wrong_name) f cdv A outer s H E)) rfl rfl rfl rfl
  have hp := passes_of (X := (cxOf (L2.CX P w) P w K mg base N_first_wrong_name "first_wrong_name" (defScope s_first_wrong_name) f cdv A outer s H E)) rfl
  have hu := hr.units
  exact pds_cons (pds_if (pdt_not (pdt_val (pd_fn h_is_sequence (hr.mono (by decide)) tk rfl (pda_cons (pd_lend (pd_var (pv 1))) (pda_nil)))))
      (pds_one (pds_ret (pd_int)))
      (pds_nil))
    (pds_cons (pds_for (js := [2, 3]) hp rfl (pdi_enum (by rfl) m_enumerate (pd_var (pv 1))) (pdg_tup rfl (pdgs_cons (pg_name (i := 2) sc.nd rfl (.inl rfl)) (pdgs_cons (pg_name (i := 3) sc.nd rfl (.inl rfl)) (pdgs_nil))))
      (pds_cons (pds_if (pdt_cmp (op_notInA hu) o_notIn (pd_var (pv 3)) (pd_prp pp_names_B (hr.mono (by decide)) (pd_var (pv 0))) (by rfl))
      (pds_one (pds_ret (pd_var (pv 2))))
      (pds_nil))
    (pds_one (pds_if (pdt_w (pdw_and (pdt_cmp op_gt o_gt (pd_var (pv 2)) (pd_int) (nomark _)) (pdw_one_and (pdt_cmp (op_notInA hu) o_notIn (pd_var (pv 3)) (pd_mth mh_behind_B (hr.mono (by decide)) tk (pd_var (pv 0)) (pda_cons (pd_ixR ix_seq o_ix (pd_var (pv 1)) (pd_bin op_sub o_sub (pd_var (pv 2)) (pd_int)) (fun _ _ => rfl)) (pda_nil))) (by rfl)))))
      (pds_one (pds_ret (pd_var (pv 2))))
      (pds_nil)))))
    (pds_one (pds_ret (pd_non))))
abbrev s_is_row : Stmt := topOf PySem.Challenge.pw_talkmeans_k13_rows_and_rings 29
abbrev N_is_row : List Str := ["book", "value"]
abbrev P_is_row : List Str := ["book", "value"]
theorem ok_is_row {P : Program} {w : World} {K : PySem.W.Frag} {mg : Str → Option Value} {base : Heap} {C : Cl} {f : Addr} {fd : FuncData} (F0 : Fun K "is_row" "is_row" s_is_row f fd) (mf : mg "is_row" = some (.ref f))
    (h_first_wrong_name : DefOk P w K mg base C 5 "first_wrong_name" P_first_wrong_name F_first_wrong_name) : DefOk P w K mg base C 6 "is_row" P_is_row F_is_row := by
  have sc : FnScope N_is_row P_is_row (defScope s_is_row) := ⟨rfl, rfl, rfl, by decide +kernel, rfl, by decide +kernel, by decide +kernel⟩
  refine ⟨⟨f, fd, def_ok (N := N_is_row) (ps := P_is_row) (g := g_is_row) F0 sc rfl fun cdv A outer s H E B hr hn => ?_, F0.binds fun _ _ _ _ _ _ us hl => match us, hl with | [_, _], _ => rfl, F0.kp, mf⟩⟩
  have tk := takes_of (X := (cxOf (L2.CX P w) P w K mg base N_is_row "is_row" (defScope s_is_row) f cdv A outer s H E)) rfl rfl rfl rfl
  have hp := passes_of (X := (cxOf (L2.CX P w) P w K mg base N_is_row "is_row" (defScope s_is_row) f cdv A outer s H E)) rfl
  have hu := hr.units
  exact pds_one (pds_ret (pd_cmp op_isN o_isN (pd_fn h_first_wrong_name (hr.mono (by decide)) tk rfl (pda_cons (pd_lend (pd_var (pv 0))) (pda_cons (pd_lend (pd_var (pv 1))) (pda_nil)))) (pd_non) (nomark _)))
abbrev s_is_ring : Stmt := topOf PySem.Challenge.pw_talkmeans_k13_rows_and_rings 30
abbrev N_is_ring : List Str := ["book", "value"]
abbrev P_is_ring : List Str := ["book", "value"]
theorem ok_is_ring {P : Program} {w : World} {K : PySem.W.Frag} {mg : Str → Option Value} {base : Heap} {C : Cl} {f : Addr} {fd : FuncData} (F0 : Fun K "is_ring" "is_ring" s_is_ring f fd) (mf : mg "is_ring" = some (.ref f))
    (h_is_row : DefOk P w K mg base C 6 "is_row" P_is_row F_is_row)
    (m_len : mg "len" = none)
    (mh_behind_B : MethOk P w K mg base C 4 "behind" mt_behind_B) : DefOk P w K mg base C 7 "is_ring" P_is_ring F_is_ring := by
  have sc : FnScope N_is_ring P_is_ring (defScope s_is_ring) := ⟨rfl, rfl, rfl, by decide +kernel, rfl, by decide +kernel, by decide +kernel⟩
  refine ⟨⟨f, fd, def_ok (N := N_is_ring) (ps := P_is_ring) (g := g_is_ring) F0 sc rfl fun cdv A outer s H E B hr hn => ?_, F0.binds fun _ _ _ _ _ _ us hl => match us, hl with | [_, _], _ => rfl, F0.kp, mf⟩⟩
  have tk := takes_of (X := (cxOf (L2.CX P w) P w K mg base N_is_ring "is_ring" (defScope s_is_ring) f cdv A outer s H E)) rfl rfl rfl rfl
  have hp := passes_of (X := (cxOf (L2.CX P w) P w K mg base N_is_ring "is_ring" (defScope s_is_ring) f cdv A outer s H E)) rfl
  have hu := hr.units
  exact pds_one (pds_ret (pd_and (pd_fn h_is_row (hr.mono (by decide)) tk rfl (pda_cons (pd_lend (pd_var (pv 0))) (pda_cons (pd_lend (pd_var (pv 1))) (pda_nil)))) (pd_and (pd_cmp op_gt o_gt (pd_callB call_len o_len (by rfl) m_len (by decide +kernel) (pda_cons (pd_var (pv 1)) (pda_nil))) (pd_int) (nomark _)) (pd_one (pd_cmp (op_inA hu) o_in (pd_ixR ix_seq o_ix (pd_var (pv 1)) (pd_int) (fun _ _ => rfl)) (pd_mth mh_behind_B (hr.mono (by decide)) tk (pd_var (pv 0)) (pda_cons (pd_ixR ix_seq o_ix (pd_var (pv 1)) (pd_neg (pd_int)) (fun _ _ => rfl)) (pda_nil))) (by rfl))))))
abbrev s_law : Stmt := topOf PySem.Challenge.pw_talkmeans_k13_rows_and_rings 50
abbrev N_law : List Str := ["_law_script", "_law_k", "_law_box_here", "_law_turn", "_law_drawn", "_law_made", "_law_row_here", "_law_again", "_law_due", "_law_is_round", "_law_given", "_law_at", "_law_name", "_law_rest", "_law_far", "_law_bad", "_law_rows", "_law_one"]
abbrev P_law : List Str := ["_law_script"]
theorem ok_law {P : Program} {w : World} {K : PySem.W.Frag} {mg : Str → Option Value} {base : Heap} {C : Cl} {f : Addr} {fd : FuncData} (F0 : Fun K "law" "law" s_law f fd)
    (m_range : mg "range" = none)
    (m_max : mg "max" = none)
    (m_min : mg "min" = none)
    (m_len : mg "len" = none)
    (h__law_box : DefOk P w K mg base C 1 "_law_box" P__law_box F__law_box_v2)
    (h__law_book : DefOk P w K mg base C 4 "_law_book" P__law_book F__law_book)
    (h__law_take : DefOk P w K mg base C 1 "_law_take" P__law_take F__law_take_v2)
    (h__law_book_of : DefOk P w K mg base C 7 "_law_book_of" P__law_book_of F__law_book_of)
    (h__law_row : DefOk P w K mg base C 3 "_law_row" P__law_row F__law_row)
    (h__law_misfit : DefOk P w K mg base C 1 "_law_misfit" P__law_misfit F__law_misfit)
    (m_list : mg "list" = none)
    (h_is_row : DefOk P w K mg base C 6 "is_row" P_is_row F_is_row)
    (h_is_ring : DefOk P w K mg base C 7 "is_ring" P_is_ring F_is_ring)
    (m_tuple : mg "tuple" = none)
    (m_isinstance : mg "isinstance" = none)
    (m_bool : mg "bool" = none)
    (h__law_pick : DefOk P w K mg base C 2 "_law_pick" P__law_pick F__law_pick_v2)
    (true_ : ∀ ns : List Int, ns.length ≤ 63 → ∃ ρ, g_law_k13 (some (.dat (.wri (ns.map D.int))) :: List.replicate (N_law.length - 1) none) = some (.rt (.dat (.bl true)) ρ)) : FnG P w K mg base CX0 8 f fd ["_law_script"] (spLaw K) := by
  have sc : FnScope N_law P_law (defScope s_law) := ⟨rfl, rfl, rfl, by decide +kernel, rfl, by decide +kernel, by decide +kernel⟩
  refine law_def (N := N_law) (g := g_law_k13) (C := C) F0 sc (fun cdv A outer s H E B gd hr hn => ?_) true_
  have hp := PassesOwn.never (M := model P w) (A := (cxOf CX0 P w K mg base N_law "law" (defScope s_law) f cdv A outer s H E).nox.A) (env := (cxOf CX0 P w K mg base N_law "law" (defScope s_law) f cdv A outer s H E).nox.env)
  have hu := hr.units
  exact pds_cons (pds_for (js := [1]) hp rfl (pdi_range1 (by rfl) m_range (pd_callB (call_max2 rfl) o_max2 (by rfl) m_max (by decide +kernel) (pda_cons (pd_int) (pda_cons (pd_callB (call_min2 rfl) o_min2 (by rfl) m_min (by decide +kernel) (pda_cons (pd_int) (pda_cons (pd_callB call_len o_len (by rfl) m_len (by decide +kernel) (pda_cons (pd_var (pv 0)) (pda_nil))) (pda_nil)))) (pda_nil))))) (pdg_name (pg_name (i := 1) sc.nd rfl (.inl rfl)))
      (pds_cons (pds_set (i := 2) (np := 1) hn sc.nd rfl (.inl rfl) (pd_fn h__law_box (hr.mono (by decide)) takes0 rfl (pda_cons (pd_lend (pd_var (pv 0))) (pda_cons (pd_lend (pd_var (pv 1))) (pda_cons (pd_int) (pda_nil))))))
    (pds_one (pds_for (js := [3]) hp rfl (pdi_range1 (by rfl) m_range (pd_int)) (pdg_name (pg_name (i := 3) sc.nd rfl (.inl rfl)))
      (pds_cons (pds_set (i := 4) (np := 1) hn sc.nd rfl (.inr rfl) (pd_fn h__law_book (hr.mono (by decide)) takes0 rfl (pda_cons (pd_var (pv 2)) (pda_cons (pd_lend (pd_bin op_addA o_add (pd_int) (pd_fn h__law_take (hr.mono (by decide)) takes0 rfl (pda_cons (pd_var (pv 2)) (pda_cons (pd_int) (pda_nil)))))) (pda_cons (pd_int) (pda_nil))))))
    (pds_cons (pds_asg (js := [5, 6]) (pd_tup (pda_cons (pd_frz (pd_fn h__law_book_of (hr.mono (by decide)) takes0 rfl (pda_cons (pd_lend (pd_var (pv 4))) (pda_nil)))) (pda_cons (pd_frz (pd_fn h__law_row (hr.mono (by decide)) takes0 rfl (pda_cons (pd_var (pv 2)) (pda_cons (pd_lend (pd_var (pv 4))) (pda_cons (pd_int) (pda_nil)))))) (pda_nil)))) (pdg_tup rfl (pdgs_cons (pg_name (i := 5) sc.nd rfl (.inr rfl)) (pdgs_cons (pg_name (i := 6) sc.nd rfl (.inl rfl)) (pdgs_nil)))))
    (pds_cons (pds_for (js := [7]) hp rfl (pdi_range1 (by rfl) m_range (pd_int)) (pdg_name (pg_name (i := 7) sc.nd rfl (.inl rfl)))
      (pds_cons (pds_set (i := 8) (np := 1) hn sc.nd rfl (.inl rfl) (pd_cmp op_isN o_isN (pd_fn h__law_misfit (hr.mono (by decide)) takes0 rfl (pda_cons (pd_lend (pd_var (pv 4))) (pda_cons (pd_lend (pd_var (pv 6))) (pda_nil)))) (pd_non) (nomark _)))
    (pds_cons (pds_set (i := 9) (np := 1) hn sc.nd rfl (.inl rfl) (pd_and (pd_var (pv 8)) (pd_and (pd_cmp (op_neA hu) o_ne (pd_var (pv 6)) (pd_lst (pda_nil)) (nomark _)) (pd_one (pd_cmp (op_inA hu) o_in (pd_tup (pda_cons (pd_ixR ix_seq o_ix (pd_var (pv 6)) (pd_neg (pd_int)) (fun _ _ => rfl)) (pda_cons (pd_ixR ix_seq o_ix (pd_var (pv 6)) (pd_int) (fun _ _ => rfl)) (pda_nil)))) (pd_ixR ix_seq o_ix (pd_var (pv 4)) (pd_int) (fun _ _ => rfl)) (by rfl))))))
    (pds_cons (pds_set (i := 10) (np := 1) hn sc.nd rfl (.inl rfl) (pd_callTy call_list_of o_listOf (by rfl) m_list (by decide +kernel) (pda_cons (pd_var (pv 6)) (pda_nil))))
    (pds_cons (pds_if (pdt_w (pdw_or (pdt_cmp (op_neA hu) o_ne (pd_fn h_is_row (hr.mono (by decide)) takes0 rfl (pda_cons (pd_lend (pd_var (pv 5))) (pda_cons (pd_lend (pd_var (pv 10))) (pda_nil)))) (pd_var (pv 8)) (nomark _)) (pdw_or (pdt_cmp (op_neA hu) o_ne (pd_fn h_is_ring (hr.mono (by decide)) takes0 rfl (pda_cons (pd_lend (pd_var (pv 5))) (pda_cons (pd_callTy call_tuple_of o_tupOf (by rfl) m_tuple (by decide +kernel) (pda_cons (pd_var (pv 6)) (pda_nil))) (pda_nil)))) (pd_var (pv 9)) (nomark _)) (pdw_one_or (pdt_cmp (op_neA hu) o_ne (pd_var (pv 10)) (pd_var (pv 6)) (nomark _))))))
      (pds_one (pds_ret (pd_bl)))
      (pds_nil))
    (pds_cons (pds_if (pdt_w (pdw_or (pdt_not (pdt_val (pd_callB call_isi o_isi (by rfl) m_isinstance (by decide +kernel) (pda_cons (pd_fn h_is_row (hr.mono (by decide)) takes0 rfl (pda_cons (pd_lend (pd_var (pv 5))) (pda_cons (pd_lend (pd_var (pv 10))) (pda_nil)))) (pda_cons (pd_ty rfl m_bool (by decide +kernel)) (pda_nil)))))) (pdw_one_or (pdt_not (pdt_val (pd_callB call_isi o_isi (by rfl) m_isinstance (by decide +kernel) (pda_cons (pd_fn h_is_ring (hr.mono (by decide)) takes0 rfl (pda_cons (pd_lend (pd_var (pv 5))) (pda_cons (pd_lend (pd_var (pv 6))) (pda_nil)))) (pda_cons (pd_ty rfl m_bool (by decide +kernel)) (pda_nil)))))))))
      (pds_one (pds_ret (pd_bl)))
      (pds_nil))
    (pds_cons (pds_set (i := 11) (np := 1) hn sc.nd rfl (.inl rfl) (pd_fn h__law_take (hr.mono (by decide)) takes0 rfl (pda_cons (pd_var (pv 2)) (pda_cons (pd_lend (pd_bin op_addA o_add (pd_callB call_len o_len (by rfl) m_len (by decide +kernel) (pda_cons (pd_var (pv 6)) (pda_nil))) (pd_int))) (pda_nil)))))
    (pds_cons (pds_set (i := 12) (np := 1) hn sc.nd rfl (.inl rfl) (pd_fn h__law_pick (hr.mono (by decide)) takes0 rfl (pda_cons (pd_var (pv 2)) (pda_cons (pd_lend (pd_bin op_addA o_add (pd_lc (own := [("_law_one", 17), ("_law_rows", 16)]) (js := [17, 16]) (by rfl) sc.nd (pdi_seq (pd_ixR ix_seq o_ix (pd_var (pv 4)) (pd_int) (fun _ _ => rfl))) (blkOk_by (N := N_law) (sc := defScope s_law) (by decide +kernel)) (by decide) (fun _ _ _ _ _ => pdg_tup rfl (pdgs_cons (pg_name (i := 17) sc.nd rfl (.inl rfl)) (pdgs_cons (pg_name (i := 16) sc.nd rfl (.inl rfl)) (pdgs_nil)))) (fun _ _ _ _ _ => pts_yes) (fun _ _ _ _ _ => pd_var (pv 17))) (pd_lst (pda_cons (pd_str) (pda_nil))))) (pda_nil)))))
    (pds_cons (pds_set (i := 13) (np := 1) hn sc.nd rfl (.inl rfl) (pd_slice (pd_var (pv 6)) (pdo_some (pd_bin op_addA o_add (pd_var (pv 11)) (pd_fn h__law_take (hr.mono (by decide)) takes0 rfl (pda_cons (pd_var (pv 2)) (pda_cons (pd_int) (pda_nil)))))) (pdo_none)))
    (pds_one (pds_set (i := 6) (np := 1) hn sc.nd rfl (.inl rfl) (pd_bin op_addA o_add (pd_bin op_addA o_add (pd_slice (pd_var (pv 6)) (pdo_none) (pdo_some (pd_var (pv 11)))) (pd_lst (pda_cons (pd_frz (pd_var (pv 12))) (pda_nil)))) (pd_var (pv 13))))))))))))))
    (pds_cons (pds_set (i := 14) (np := 1) hn sc.nd rfl (.inr rfl) (pd_fn h__law_row (hr.mono (by decide)) takes0 rfl (pda_cons (pd_var (pv 2)) (pda_cons (pd_lend (pd_var (pv 4))) (pda_cons (pd_int) (pda_nil))))))
    (pds_cons (pds_if (pdt_w (pdw_or (pdt_cmp op_isnot_bl o_notB (pd_fn h_is_row (hr.mono (by decide)) takes0 rfl (pda_cons (pd_lend (pd_var (pv 5))) (pda_cons (pd_lend (pd_var (pv 14))) (pda_nil)))) (pd_bl) (nomark _)) (pdw_one_or (pdt_cmp op_isnot_bl o_notB (pd_fn h_is_row (hr.mono (by decide)) takes0 rfl (pda_cons (pd_lend (pd_var (pv 5))) (pda_cons (pd_lend (pd_bin op_addA o_add (pd_var (pv 14)) (pd_lst (pda_cons (pd_str) (pda_nil))))) (pda_nil)))) (pd_bl) (nomark _)))))
      (pds_one (pds_ret (pd_bl)))
      (pds_nil))
    (pds_cons (pds_setLc (i := 15) (np := 1) (own := [("_law_name", 12), ("_law_rows", 16)]) (js := [12, 16]) hn rfl sc.nd rfl rfl (sw_true rfl rfl rfl (by decide +kernel)) (pdi_seq (pd_ixR ix_seq o_ix (pd_var (pv 4)) (pd_int) (fun _ _ => rfl))) (blkOk_by (N := N_law) (sc := defScope s_law) (by decide +kernel)) (by decide) (fun _ _ _ _ _ => pdg_tup rfl (pdgs_cons (pg_name (i := 12) sc.nd rfl (.inl rfl)) (pdgs_cons (pg_name (i := 16) sc.nd rfl (.inl rfl)) (pdgs_nil)))) (fun _ _ _ _ _ => pts_one (pdt_w (pdw_and (pdt_cmp (op_neA hu) o_ne (pd_var (pv 14)) (pd_lst (pda_nil)) (nomark _)) (pdw_one_and (pdt_cmp (op_notInA hu) o_notIn (pd_tup (pda_cons (pd_ixR ix_seq o_ix (pd_var (pv 14)) (pd_neg (pd_int)) (fun _ _ => rfl)) (pda_cons (pd_frz (pd_var (pv 12))) (pda_nil)))) (pd_ixR ix_seq o_ix (pd_var (pv 4)) (pd_int) (fun _ _ => rfl)) (by rfl)))))) (fun _ _ _ _ _ => pd_var (pv 12)))
    (pds_cons (pds_if (pdt_cmp (op_neA hu) o_ne (pd_lc (own := [("_law_name", 12)]) (js := [12]) (by rfl) sc.nd (pdi_seq (pd_var (pv 15))) (blkOk_by (N := N_law) (sc := defScope s_law) (by decide +kernel)) (by decide) (fun _ _ _ _ _ => pdg_name (pg_name (i := 12) sc.nd rfl (.inl rfl))) (fun _ _ _ _ _ => pts_one (pdt_val (pd_fn h_is_row (hr.mono (by decide)) takes0 rfl (pda_cons (pd_lend (pd_var (pv 5))) (pda_cons (pd_lend (pd_bin op_addA o_add (pd_var (pv 14)) (pd_lst (pda_cons (pd_frz (pd_var (pv 12))) (pda_nil))))) (pda_nil)))))) (fun _ _ _ _ _ => pd_var (pv 12))) (pd_lst (pda_nil)) (nomark _))
      (pds_one (pds_ret (pd_bl)))
      (pds_nil))
    (pds_one (pds_if (pdt_w (pdw_or (pdt_cmp op_isnot_bl o_notB (pd_fn h_is_row (hr.mono (by decide)) takes0 rfl (pda_cons (pd_lend (pd_var (pv 5))) (pda_cons (pd_lend (pd_lst (pda_nil))) (pda_nil)))) (pd_bl) (nomark _)) (pdw_one_or (pdt_cmp op_isnot_bl o_notB (pd_fn h_is_ring (hr.mono (by decide)) takes0 rfl (pda_cons (pd_lend (pd_var (pv 5))) (pda_cons (pd_tup (pda_nil)) (pda_nil)))) (pd_bl) (nomark _)))))
      (pds_one (pds_ret (pd_bl)))
      (pds_nil))))))))))))))
    (pds_one (pds_ret (pd_bl)))
end K13
set_option Elab.async false
set_option linter.all false
set_option maxRecDepth 100000
set_option maxHeartbeats 4000000
/-! Talks: what the program's defs make of rows of weights. -/
namespace Sh
open PySem PySem.Spec PyProof.Rows L2 Tk Pl
/-- a list or a tuple is seen in a slot -/
inductive Sees : SV → List D → Prop
  | lst (l : List D) : Sees (.dat (.lst l)) l
  | tup (l : List D) : Sees (.dat (.tup l)) l
  | lck (l : List D) : Sees (.lck (.lst l)) l
def rowL (r : List Int) : D := .lst (r.map .int)
def rowT (r : List Int) : D := .tup (r.map .int)
inductive IsRow : D → List Int → Prop
  | lst (r : List Int) : IsRow (rowL r) r
  | tup (r : List Int) : IsRow (rowT r) r
inductive IsRows : List D → List (List Int) → Prop
  | nil : IsRows [] []
  | cons {d : D} {r : List Int} {ds : List D} {R : List (List Int)} : IsRow d r → IsRows ds R → IsRows (d :: ds) (r :: R)
theorem IsRows.length : ∀ {ds : List D} {R : List (List Int)}, IsRows ds R → ds.length = R.length
  | _, _, .nil => rfl
  | _, _, .cons _ t => congrArg Nat.succ t.length
theorem IsRows.at : ∀ {ds : List D} {R : List (List Int)} {i : Nat} {d : D}, IsRows ds R → ds[i]? = some d → ∃ r, R[i]? = some r ∧ IsRow d r
  | _, _, _, _, .nil, e => by simp at e
  | _, _, 0, _, .cons x _, e => by simp at e; subst e; exact ⟨_, rfl, x⟩
  | _, _, i + 1, _, .cons _ t, e => by
    obtain ⟨r, h1, h2⟩ := t.at (i := i) (by simpa using e)
    exact ⟨r, by simpa using h1, h2⟩
theorem isRows_lst : ∀ R : List (List Int), IsRows (R.map rowL) R
  | [] => .nil
  | r :: R => .cons (.lst r) (isRows_lst R)
theorem isRows_tup : ∀ R : List (List Int), IsRows (R.map rowT) R
  | [] => .nil
  | r :: R => .cons (.tup r) (isRows_tup R)
/-- rows of a talk -/
structure Good (R : List (List Int)) : Prop where
  pos : 0 < R.length
  few : R.length ≤ 1000
  len : ∀ r ∈ R, r.length = R.length
  nn : ∀ r ∈ R, ∀ z ∈ r, 0 ≤ z ∧ z < 2 ^ 60
  diag : ∀ (i : Nat) (r : List Int), R[i]? = some r → ∃ z, r[i]? = some z ∧ 0 < z
/-- the greatest number that divides all -/
def gcdL (r : List Int) : Nat := r.foldl (fun g z => Nat.gcd g z.natAbs) 0
def norm (r : List Int) : List Int := r.map fun z => z / (gcdL r : Int)
def talkD (R : List (List Int)) : D := .obj 10 [.tup (R.map rowT)]

theorem is_int_ok (i : Int) : F_is_int [some (.dat (.int i))] = some (.ok (.dat (.bl true)) [none]) := by
  simp [F_is_int, g_is_int, isKind]
theorem is_number_ok (i : Int) : F_is_number [some (.dat (.int i))] = some (.ok (.dat (.bl (decide (0 ≤ i)))) [none]) := by
  simp [F_is_number, g_is_number, is_int_ok]
theorem is_sequence_ok {s : SV} {l : List D} (h : Sees s l) : F_is_sequence [some s] = some (.ok (.dat (.bl true)) [none]) := by
  cases h <;> simp [F_is_sequence, g_is_sequence, isKind, MO.see]
theorem all_true (l : List Int) (h : ∀ z ∈ l, 0 ≤ z) : D.bools.go (l.map fun z => D.bl (decide (0 ≤ z))) = some (l.map fun _ => true) := by
  induction l with
  | nil => rfl
  | cons z r ih =>
    have h0 : decide (0 ≤ z) = true := decide_eq_true (h z List.mem_cons_self)
    simp only [List.map_cons, D.bools.go, h0, ih fun x hx => h x (List.mem_cons_of_mem _ hx), Option.map_some]
theorem atI_int {r : List Int} {i : Nat} {z : Int} (h : r[i]? = some z) : atI (r.map D.int) (i : Int) = some (.int z) := atI_nat (by rw [List.getElem?_map, h]; rfl)
theorem is_row_of_ok {d : D} {r : List Int} {i : Nat} {n : Nat} {z : Int} (h : IsRow d r) (hl : r.length = n) (hn : n ≤ 1000) (nn : ∀ z ∈ r, 0 ≤ z) (hi : r[i]? = some z) (hz : 0 < z) :
    F_is_row_of [some (.dat d), some (.dat (.int i)), some (.dat (.int n))] = some (.ok (.dat (.bl true)) [none, none, none]) := by
  have lp := fun (s : SV) => loopC_map (i := 3) (fe := froze (dFn F_is_number (dCons (dLend (dVar 3)) dNil))) (fun d => match d with | .int z => .bl (decide (0 ≤ z)) | _ => .non) (ρ := [some s, some (.dat (.int i)), some (.dat (.int n)), none]) (fun x => rfl) (r.map D.int) [] (by
    intro d hd
    obtain ⟨z, hz, rfl⟩ := List.mem_map.mp hd
    simp [is_number_ok]) (by simp; omega)
  have e : (r.map D.int).map (fun d => match d with | .int z => D.bl (decide (0 ≤ z)) | _ => .non) = r.map fun z => D.bl (decide (0 ≤ z)) := by rw [List.map_map]; rfl
  have q := all_true r nn
  have e2 : (List.map (fun _ => true) r).all id = true := by simp
  cases h with
  | lst => simp [F_is_row_of, g_is_row_of, rowL, is_sequence_ok (Sees.lst _), hl, lp, e, q, e2, atI_int hi, hz]
  | tup => simp [F_is_row_of, g_is_row_of, rowT, is_sequence_ok (Sees.tup _), hl, lp, e, q, e2, atI_int hi, hz]
end Sh
set_option Elab.async false
set_option linter.all false
set_option maxRecDepth 100000
set_option maxHeartbeats 4000000
namespace Sh
open PySem PySem.Spec PyProof.Rows L2 Tk Pl
theorem first_wrong_ok {s : SV} {ds : List D} {R : List (List Int)} (h : Sees s ds) (hr : IsRows ds R) (g : Good R) : F_first_wrong_row [some s] = some (.ok (.dat .non) [none]) := by
  have hl := hr.length
  have h0 := g.pos
  have h1 := g.few
  have body : ∀ (i : Nat) (d : D), ds[i]? = some d → ∀ s' : SV, Sees s' ds → b_first_wrong_row_1 [some s', some (.dat (.int i)), some (.dat d)] = some (.nx [some s', some (.dat (.int i)), some (.dat d)]) := by
    intro i d hd s' hs
    obtain ⟨r, e, ir⟩ := hr.at hd
    have hm := List.mem_of_getElem? e
    obtain ⟨z, hz, z0⟩ := g.diag i r e
    have ok := is_row_of_ok ir (g.len r hm) h1 (fun z hz => (g.nn r hm z hz).1) hz z0
    cases hs <;> simp [b_first_wrong_row_1, MO.see, hl, ok]
  have lp : ∀ s' : SV, Sees s' ds → ∃ x y, loopS (tgT [1, 2]) b_first_wrong_row_1 (enumL ds) [some s', none, none] = some (.nx [some s', x, y]) := by
    intro s' hs
    obtain ⟨ρ', ⟨x, y, rfl⟩, e⟩ := loopS_at (tg := tgT [1, 2]) (body := b_first_wrong_row_1) (enumL ds) (fun i ρ => ∃ x y, ρ = [some s', x, y]) (by
      rintro i d ρ hd ⟨x, y, rfl⟩
      have hi : i < ds.length := by
        have := (List.getElem?_eq_some_iff.mp hd).1
        rwa [enumL_length] at this
      rw [enumL_at (List.getElem?_eq_getElem hi)] at hd
      cases hd
      refine ⟨_, _, rfl, .inl (body i _ (List.getElem?_eq_getElem hi) s' hs), _, _, rfl⟩) (ρ := [some s', none, none]) ⟨none, none, rfl⟩
    exact ⟨x, y, e⟩
  have n0 : ¬ ds.length = 0 := by omega
  have n1 : ¬ R = [] := fun w => by subst w; simp at h0
  cases h with
  | lst =>
    obtain ⟨x, y, e⟩ := lp _ (.lst ds)
    simp [F_first_wrong_row, g_first_wrong_row, is_sequence_ok (Sees.lst ds), hl, n1, e]
  | tup =>
    obtain ⟨x, y, e⟩ := lp _ (.tup ds)
    simp [F_first_wrong_row, g_first_wrong_row, is_sequence_ok (Sees.tup ds), hl, n1, e]
  | lck =>
    obtain ⟨x, y, e⟩ := lp _ (.lck ds)
    simp [F_first_wrong_row, g_first_wrong_row, MO.see, is_sequence_ok (Sees.lck ds), hl, n1, e]
theorem gcd_loop {s : Option SV} : ∀ (r : List Int) (g : Nat) (x : Option SV), ∃ y, loopS (tgN 2) b_common_divisor_1 (r.map D.int) [s, some (.dat (.int (g : Int))), x] = some (.nx [s, some (.dat (.int (r.foldl (fun g z => Nat.gcd g z.natAbs) g : Nat))), y])
  | [], g, x => ⟨x, rfl⟩
  | z :: r, g, x => by
    obtain ⟨y, e⟩ := gcd_loop (s := s) r (Nat.gcd g z.natAbs) (some (.dat (.int z)))
    refine ⟨y, ?_⟩
    rw [List.map_cons, ev_loopS_cons]
    simp [b_common_divisor_1]
    simpa [b_common_divisor_1] using e
theorem common_divisor_ok {d : D} {r : List Int} (h : IsRow d r) : F_common_divisor [some (.dat d)] = some (.ok (.dat (.int (gcdL r : Int))) [none]) := by
  obtain ⟨y, e⟩ := gcd_loop (s := some (.dat d)) r 0 none
  have e : loopS (tgN 2) b_common_divisor_1 (r.map D.int) [some (.dat d), some (.dat (.int 0)), none] = some (.nx [some (.dat d), some (.dat (.int (gcdL r : Int))), y]) := e
  cases h with
  | lst => unfold rowL at e ⊢; simp [F_common_divisor, g_common_divisor, e]
  | tup => unfold rowT at e ⊢; simp [F_common_divisor, g_common_divisor, e]
theorem gcdL_go : ∀ (r : List Int) (g : Nat), (r.foldl (fun g z => Nat.gcd g z.natAbs) g) ∣ g ∧ ∀ z ∈ r, (r.foldl (fun g z => Nat.gcd g z.natAbs) g) ∣ z.natAbs
  | [], g => ⟨Nat.dvd_refl _, fun z h => by cases h⟩
  | x :: r, g => by
    obtain ⟨a, b⟩ := gcdL_go r (Nat.gcd g x.natAbs)
    rw [List.foldl_cons]
    refine ⟨Nat.dvd_trans a (Nat.gcd_dvd_left _ _), fun z h => ?_⟩
    rcases List.mem_cons.mp h with rfl | h
    · exact Nat.dvd_trans a (Nat.gcd_dvd_right _ _)
    · exact b z h
theorem gcdL_dvd {r : List Int} {z : Int} (h : z ∈ r) : gcdL r ∣ z.natAbs := (gcdL_go r 0).2 z h
theorem gcdL_pos {r : List Int} {z : Int} (h : z ∈ r) (hz : 0 < z) : 0 < gcdL r := Nat.pos_of_ne_zero fun e => by
  have := gcdL_dvd h
  rw [e, Nat.zero_dvd] at this
  omega
theorem gcdL_le {r : List Int} {z : Int} (h : z ∈ r) (hz : 0 < z) : (gcdL r : Int) ≤ z := by
  have := Nat.le_of_dvd (by omega) (gcdL_dvd h)
  omega
theorem normal_row_ok {d : D} {r : List Int} {z : Int} (h : IsRow d r) (hm : z ∈ r) (h0 : 0 < z) (h1 : z < 2 ^ 200) (hl : r.length ≤ 10000) : F_normal_row [some (.dat d)] = some (.ok (.dat (rowT (norm r))) [none]) := by
  have g0 := gcdL_pos hm h0
  have g1 := gcdL_le hm h0
  have c : ∀ x, cDiv x (gcdL r : Int) = true := fun x => cDiv_ok (by omega) (Int.lt_of_le_of_lt g1 h1)
  have cd := common_divisor_ok h
  have lp := loopC_map (i := 2) (fe := froze (dBin gFdiv (dVar 2) (dVar 1))) (fun d => match d with | .int z => .int (z / (gcdL r : Int)) | _ => .non) (ρ := [some (.dat d), some (.dat (.int (gcdL r : Int))), none]) (fun x => rfl) (r.map D.int) [] (by
    intro d hd
    obtain ⟨z, hz, rfl⟩ := List.mem_map.mp hd
    simp [c]) (by simp; omega)
  have e : (r.map D.int).map (fun d => match d with | .int z => D.int (z / (gcdL r : Int)) | _ => .non) = (norm r).map D.int := by
    unfold norm
    rw [List.map_map, List.map_map]
    rfl
  rw [e] at lp
  cases h with
  | lst => unfold rowL at cd lp ⊢; simp [F_normal_row, g_normal_row, cd, lp, rowT]
  | tup => unfold rowT at cd lp ⊢; simp [F_normal_row, g_normal_row, cd, lp]
end Sh
set_option Elab.async false
set_option linter.all false
set_option maxRecDepth 100000
set_option maxHeartbeats 4000000
namespace Sh
open PySem PySem.Spec PyProof.Rows L2 Tk Pl
theorem init_talk_ok {s : SV} {ds : List D} {R : List (List Int)} (h : Sees s ds) (hr : IsRows ds R) (g : Good R) : F_Talk___init__ [some (.own (.ins 10 [])), some s] = some (.ok (.dat .non) [some (.own (.ins 10 [("rows", .tup ((R.map norm).map rowT))])), none]) := by
  have hl := hr.length
  have h1 := g.few
  have fw := first_wrong_ok h hr g
  have lp := loopC_list (i := 3) (fe := froze (dFn F_normal_row (dCons (dLend (dVar 3)) dNil))) (ρ := [some (.own (.ins 10 [])), some s, some (.dat .non), none]) (fun x => rfl) ds ((R.map norm).map rowT) [] (by simp [hl]) (by
    intro k d e hd he
    obtain ⟨r, hk, ir⟩ := hr.at hd
    rw [List.getElem?_map, List.getElem?_map, hk] at he
    cases he
    have hm := List.mem_of_getElem? hk
    obtain ⟨z, hz, z0⟩ := g.diag k r hk
    have zm := List.mem_of_getElem? hz
    have lr : r.length ≤ 10000 := by rw [g.len r hm]; omega
    have ok := normal_row_ok ir zm z0 (Int.lt_of_lt_of_le (g.nn r hm z zm).2 (by decide)) lr
    simp [ok]) (by simp; omega)
  cases h with
  | lst => simp [F_Talk___init__, g_Talk___init__, fw, lp]
  | tup => simp [F_Talk___init__, g_Talk___init__, fw, lp]
  | lck => simp [F_Talk___init__, g_Talk___init__, fw, lp]

/-! ### the law's own greatest common divisor -/
theorem part_loop : ∀ (n x y : Nat), y < n → loopW (asB (dBin gGt (dVar 1) (retE (.dat (.int 0))))) b__law_part_1 n [some (.dat (.int x)), some (.dat (.int y))] = some (.nx [some (.dat (.int (Nat.gcd x y : Nat))), some (.dat (.int 0))])
  | 0, _, _, h => absurd h (Nat.not_lt_zero _)
  | n + 1, x, y, h => by
    unfold loopW
    by_cases hy : y = 0
    · subst hy
      simp
    · have hp : (0 : Int) < (y : Int) := by omega
      have ih := part_loop n y (x % y) (by have := Nat.mod_lt x (show 0 < y by omega); omega)
      have hp' : 0 < y := by omega
      simp [b__law_part_1, hp, hp']
      unfold b__law_part_1 at ih
      have e : ((x : Int) % (y : Int)) = ((x % y : Nat) : Int) := by omega
      rw [e, ih, Nat.gcd_comm y, ← Nat.gcd_rec, Nat.gcd_comm]
theorem part_ok (x y : Nat) : F__law_part [some (.dat (.int x)), some (.dat (.int y))] = some (.ok (.dat (.int (Nat.gcd x y : Nat))) [none, none]) := by
  have lp := part_loop (y + 1) x y (Nat.lt_succ_self _)
  simp [F__law_part, g__law_part, natAt, lp]
theorem normal_loop {s : Option SV} : ∀ (r : List Int) (g : Nat) (x : Option SV), (∀ z ∈ r, 0 ≤ z) → ∃ y, loopS (tgN 2) b__law_normal_1 (r.map D.int) [s, some (.dat (.int (g : Int))), x] = some (.nx [s, some (.dat (.int (r.foldl (fun g z => Nat.gcd g z.natAbs) g : Nat))), y])
  | [], g, x, _ => ⟨x, rfl⟩
  | z :: r, g, x, h => by
    obtain ⟨n, rfl⟩ := Int.eq_ofNat_of_zero_le (h z List.mem_cons_self)
    obtain ⟨y, e⟩ := normal_loop (s := s) r (Nat.gcd g n) (some (.dat (.int n))) fun z hz => h z (List.mem_cons_of_mem _ hz)
    refine ⟨y, ?_⟩
    rw [List.map_cons, ev_loopS_cons]
    by_cases hg : 0 < g
    · have p := part_ok g n
      simp [b__law_normal_1, hg, p]
      simpa [b__law_normal_1] using e
    · obtain rfl : g = 0 := by omega
      simp [b__law_normal_1]
      simpa [b__law_normal_1] using e
theorem law_normal_ok {d : D} {r : List Int} {z : Int} (h : IsRow d r) (nn : ∀ z ∈ r, 0 ≤ z) (hm : z ∈ r) (h0 : 0 < z) (h1 : z < 2 ^ 200) (hl : r.length ≤ 10000) : F__law_normal [some (.dat d)] = some (.ok (.dat (rowT (norm r))) [none]) := by
  have g0 := gcdL_pos hm h0
  have g1 := gcdL_le hm h0
  have c : ∀ x, cDiv x (gcdL r : Int) = true := fun x => cDiv_ok (by omega) (Int.lt_of_le_of_lt g1 h1)
  obtain ⟨y, cd⟩ := normal_loop (s := some (.dat d)) r 0 none nn
  have cd : loopS (tgN 2) b__law_normal_1 (r.map D.int) [some (.dat d), some (.dat (.int 0)), none] = some (.nx [some (.dat d), some (.dat (.int (gcdL r : Int))), y]) := cd
  have lp := loopC_map (i := 2) (fe := froze (dBin gFdiv (dVar 2) (dVar 1))) (fun d => match d with | .int z => .int (z / (gcdL r : Int)) | _ => .non) (ρ := [some (.dat d), some (.dat (.int (gcdL r : Int))), none]) (fun x => rfl) (r.map D.int) [] (by
    intro d hd
    obtain ⟨z, hz, rfl⟩ := List.mem_map.mp hd
    simp [c]) (by simp; omega)
  have e : (r.map D.int).map (fun d => match d with | .int z => D.int (z / (gcdL r : Int)) | _ => .non) = (norm r).map D.int := by
    unfold norm
    rw [List.map_map, List.map_map]
    rfl
  rw [e] at lp
  cases h with
  | lst => unfold rowL at cd lp ⊢; simp [F__law_normal, g__law_normal, cd, lp, rowT]
  | tup => unfold rowT at cd lp ⊢; simp [F__law_normal, g__law_normal, cd, lp]
theorem good_row {R : List (List Int)} (g : Good R) {k : Nat} {r : List Int} (hk : R[k]? = some r) : (∀ z ∈ r, 0 ≤ z) ∧ (∃ z, z ∈ r ∧ 0 < z ∧ z < 2 ^ 200) ∧ r.length ≤ 1000 := by
  have hm := List.mem_of_getElem? hk
  obtain ⟨z, hz, z0⟩ := g.diag k r hk
  have zm := List.mem_of_getElem? hz
  exact ⟨fun z hz => (g.nn r hm z hz).1, ⟨z, zm, z0, Int.lt_of_lt_of_le (g.nn r hm z zm).2 (by decide)⟩, by rw [g.len r hm]; exact g.few⟩
theorem law_normals_ok {s : SV} {ds : List D} {R : List (List Int)} (h : Sees s ds) (hr : IsRows ds R) (g : Good R) : F__law_normals [some s] = some (.ok (.dat (.tup ((R.map norm).map rowT))) [none]) := by
  have hl := hr.length
  have h1 := g.few
  have lp := loopC_list (i := 1) (fe := froze (dFn F__law_normal (dCons (dLend (dVar 1)) dNil))) (ρ := [some s, none]) (fun x => rfl) ds ((R.map norm).map rowT) [] (by simp [hl]) (by
    intro k d e hd he
    obtain ⟨r, hk, ir⟩ := hr.at hd
    rw [List.getElem?_map, List.getElem?_map, hk] at he
    cases he
    obtain ⟨nn, ⟨z, zm, z0, z1⟩, lr⟩ := good_row g hk
    have ok := law_normal_ok ir nn zm z0 z1 (by omega)
    simp [ok]) (by simp; omega)
  cases h with
  | lst => simp [F__law_normals, g__law_normals, lp]
  | tup => simp [F__law_normals, g__law_normals, lp]
  | lck => simp [F__law_normals, g__law_normals, lp]
end Sh
set_option Elab.async false
set_option linter.all false
set_option maxRecDepth 100000
set_option maxHeartbeats 4000000
namespace Sh
open PySem PySem.Spec PyProof.Rows L2 Tk Pl
/-! ### texts of talks -/
theorem glue_go (a : Str) : ∀ (ys : List Str) (acc : Array Nat), (ys.foldl (fun acc p => acc ++ a.cps ++ p.cps) acc).size = acc.size + (ys.map (·.length)).sum + ys.length * a.length
  | [], acc => by simp
  | y :: ys, acc => by
    rw [List.foldl_cons, glue_go a ys]
    simp only [Array.size_append, List.map_cons, List.sum_cons, List.length_cons, Str.length, Nat.add_mul, Nat.one_mul]
    omega
theorem join_len (a : Str) (ys : List Str) : (Txt.join a ys).length ≤ (ys.map (·.length)).sum + ys.length * a.length := by
  cases ys with
  | nil => exact Nat.zero_le _
  | cons y ys =>
    show (ys.foldl (fun acc p => acc ++ a.cps ++ p.cps) y.cps).size ≤ _
    rw [glue_go]
    simp only [List.map_cons, List.sum_cons, List.length_cons, Str.length, Nat.add_mul, Nat.one_mul]
    omega
theorem sum_le {l : List Nat} {b : Nat} (h : ∀ x ∈ l, x ≤ b) : l.sum ≤ l.length * b := by
  induction l with
  | nil => simp
  | cons x r ih =>
    have h1 := h x List.mem_cons_self
    have h2 := ih fun y hy => h y (List.mem_cons_of_mem _ hy)
    simp only [List.sum_cons, List.length_cons, Nat.add_mul, Nat.one_mul]
    omega
/-- a whole number's text -/
def showI (z : Int) : Str := Str.ofString (toString z)
def txtRow (r : List Int) : Str := Txt.join " " (r.map showI)
def txt (R : List (List Int)) : Str := Txt.join ", " (R.map txtRow)
/-- few people, small weights -/
structure Tiny (R : List (List Int)) : Prop where
  few : R.length ≤ 10
  len : ∀ r ∈ R, r.length ≤ 10
  lt : ∀ r ∈ R, ∀ z ∈ r, z.natAbs < 10 ^ 20
theorem space_len : ((" " : String) : Str).length = 1 := by decide +kernel
theorem comma_len : ((", " : String) : Str).length = 2 := by decide +kernel
theorem row_sum {r : List Int} (h : r.length ≤ 10) (lt : ∀ z ∈ r, z.natAbs < 10 ^ 20) : ((r.map showI).map (·.length)).sum + (r.map showI).length * ((" " : String) : Str).length ≤ 220 := by
  have := sum_le (l := (r.map showI).map (·.length)) (b := 21) (by
    intro x hx
    rw [List.map_map] at hx
    obtain ⟨z, hz, rfl⟩ := List.mem_map.mp hx
    exact shown_int (lt z hz) (by decide))
  rw [space_len]
  simp only [List.length_map] at this ⊢
  omega
theorem txtRow_len {r : List Int} (h : r.length ≤ 10) (lt : ∀ z ∈ r, z.natAbs < 10 ^ 20) : (txtRow r).length ≤ 220 := Nat.le_trans (join_len _ _) (row_sum h lt)
theorem rows_sum {R : List (List Int)} (t : Tiny R) : ((R.map txtRow).map (·.length)).sum + (R.map txtRow).length * ((", " : String) : Str).length ≤ 2220 := by
  have := sum_le (l := (R.map txtRow).map (·.length)) (b := 220) (by
    intro x hx
    rw [List.map_map] at hx
    obtain ⟨r, hr, rfl⟩ := List.mem_map.mp hx
    exact txtRow_len (t.len r hr) (t.lt r hr))
  have := t.few
  rw [comma_len]
  simp only [List.length_map] at *
  omega
theorem txt_len {R : List (List Int)} (t : Tiny R) : (txt R).length ≤ 2220 := Nat.le_trans (join_len _ _) (rows_sum t)
theorem hStr_ok {z : Int} (h : z.natAbs < 10 ^ 20) : hStr (.int z) = some (.str (showI z)) := by
  have := small_log (k := 80) (Nat.lt_of_lt_of_le h (by decide)) (by decide)
  show (if z.natAbs.log2 < 1920 then some (D.str (showI z)) else none) = _
  rw [if_pos (by omega)]
theorem hJoin_row {r : List Int} (h : r.length ≤ 10) (lt : ∀ z ∈ r, z.natAbs < 10 ^ 20) : hJoin " " (.lst (r.map fun z => D.str (showI z))) = some (.dat (.str (txtRow r))) := by
  have e : D.strs (.lst (r.map fun z => D.str (showI z))) = some (r.map showI) := by
    have := Pl.strs_map (r.map showI)
    rw [List.map_map] at this
    exact this
  have := row_sum h lt
  unfold hJoin
  rw [e, Option.bind_some, if_pos (by omega)]
  rfl
theorem hJoin_rows {R : List (List Int)} (t : Tiny R) : hJoin ", " (.lst (R.map fun r => D.str (txtRow r))) = some (.dat (.str (txt R))) := by
  have e : D.strs (.lst (R.map fun r => D.str (txtRow r))) = some (R.map txtRow) := by
    have := Pl.strs_map (R.map txtRow)
    rw [List.map_map] at this
    exact this
  have := rows_sum t
  unfold hJoin
  rw [e, Option.bind_some, if_pos (by omega)]
  rfl
/-- the inner join -/
theorem row_txt {r : List Int} (h : r.length ≤ 10) (lt : ∀ z ∈ r, z.natAbs < 10 ^ 20) (x : Option SV) : dTx1 hJoin (retE (.dat (.str " "))) (dLc [2] (dItems (dVar 1)) (tgN 2) yesT (dCall (on1 hStr) (dCons (dVar 2) dNil))) [x, some (.dat (rowT r)), none] = some (.ok (.dat (.str (txtRow r))) [x, some (.dat (rowT r)), none]) := by
  have lp := loopC_map (i := 2) (fe := froze (dCall (on1 hStr) (dCons (dVar 2) dNil))) (fun d => match d with | .int z => .str (showI z) | _ => .non) (ρ := [x, some (.dat (rowT r)), none]) (fun x => rfl) (r.map D.int) [] (by
    intro d hd
    obtain ⟨z, hz, rfl⟩ := List.mem_map.mp hd
    simp [hStr_ok (lt z hz)]) (by simp; omega)
  have e : (r.map D.int).map (fun d => match d with | .int z => D.str (showI z) | _ => .non) = r.map fun z => D.str (showI z) := by rw [List.map_map]; rfl
  rw [e] at lp
  have j := hJoin_row h lt
  unfold rowT at lp ⊢
  simp [lp, j]
theorem rows_txt {R : List (List Int)} (t : Tiny R) (x : Option SV) : loopC [1] (tgN 1) yesT (froze (dTx1 hJoin (retE (.dat (.str " "))) (dLc [2] (dItems (dVar 1)) (tgN 2) yesT (dCall (on1 hStr) (dCons (dVar 2) dNil))))) (R.map rowT) [] [x, none, none] = some (.ok (.own (.lst (R.map fun r => D.str (txtRow r)))) [x, none, none]) := by
  have h1 := t.few
  have lp := loopC_list (i := 1) (fe := froze (dTx1 hJoin (retE (.dat (.str " "))) (dLc [2] (dItems (dVar 1)) (tgN 2) yesT (dCall (on1 hStr) (dCons (dVar 2) dNil))))) (ρ := [x, none, none]) (fun x => rfl) (R.map rowT) (R.map fun r => D.str (txtRow r)) [] (by simp) (by
    intro k d e hd he
    rw [List.getElem?_map] at hd he
    cases hk : R[k]? with
    | none => rw [hk] at hd; cases hd
    | some r =>
      rw [hk] at hd he
      cases hd
      cases he
      have hm := List.mem_of_getElem? hk
      simp only [ev_froze, ev_bind, List.set_cons_succ, List.set_cons_zero, row_txt (t.len r hm) (t.lt r hm), toDat_dat]) (by simp; omega)
  simpa using lp
theorem str_talk_ok {R : List (List Int)} (t : Tiny R) : F_Talk___str__ [some (.dat (talkD R))] = some (.ok (.dat (.str (txt R))) [none]) := by
  have lp := rows_txt t (some (.dat (talkD R)))
  have j := hJoin_rows t
  unfold talkD at lp ⊢
  simp [F_Talk___str__, g_Talk___str__, objFld, -ev_tx1]
  simp [ev_tx1, objFld]
  rw [lp]
  simp [j]
end Sh
set_option Elab.async false
set_option linter.all false
set_option maxRecDepth 100000
set_option maxHeartbeats 4000000
namespace Sh
open PySem PySem.Spec PyProof.Rows L2 Tk Pl
theorem law_text_ok {s : SV} {ds : List D} {R : List (List Int)} (h : Sees s ds) (hr : IsRows ds R) (g : Good R) (t : Tiny (R.map norm)) : F__law_text [some s] = some (.ok (.dat (.str (txt (R.map norm)))) [none]) := by
  have n := law_normals_ok h hr g
  have lp := rows_txt t (some s)
  have j := hJoin_rows t
  generalize R.map norm = R' at *
  cases h <;> simp [F__law_text, g__law_text, n, lp, j]
/-- a comprehension that keeps some and changes nothing else -/
theorem loopC_sel {vs : List Nat} {tg : D → Sl → Option Sl} {ft : Ef Bool} {fe : DE} {ρ : Sl} : ∀ (ds : List D) (es : List (Option D)) (acc : List D), ds.length = es.length →
    (∀ (k : Nat) (d : D) (e : Option D), ds[k]? = some d → es[k]? = some e → ∃ ρ1, tg d ρ = some ρ1 ∧ wipeR ρ1 vs = ρ ∧ (match e with
      | some x => ft ρ1 = some (.ok true ρ1) ∧ fe ρ1 = some (.ok (.dat x) ρ1)
      | none => ft ρ1 = some (.ok false ρ1))) → acc.length + ds.length ≤ 10000 →
    loopC vs tg ft fe ds acc ρ = some (.ok (.own (.lst (acc ++ es.filterMap id))) ρ)
  | [], [], acc, _, _, _ => by simp
  | [], _ :: _, _, h, _, _ => by cases h
  | _ :: _, [], _, h, _, _ => by cases h
  | d :: r, e :: es, acc, hl, hd, l => by
    obtain ⟨ρ1, h1, h2, h3⟩ := hd 0 d e rfl rfl
    rw [ev_loopC_cons, h1]
    simp only [List.length_cons] at l
    have l' : acc.length < 10000 := by omega
    have hd' := fun k d' e' h1 h2 => hd (k + 1) d' e' (by simpa using h1) (by simpa using h2)
    cases e with
    | none =>
      simp only [] at h3
      simp only [h3, h2]
      rw [loopC_sel r es acc (by simpa using hl) hd' (by omega)]
      simp
    | some x =>
      obtain ⟨h4, h5⟩ := h3
      simp only [h4, h5, if_pos l', h2]
      rw [loopC_sel r es (acc ++ [x]) (by simpa using hl) hd' (by rw [List.length_append, List.length_singleton]; omega)]
      simp
/-- whom one heeds -/
def heedO (r : List Int) : List (Option D) := (List.range r.length).map fun j => if 0 < r.getD j 0 then some (D.int (j : Nat)) else none
def heedD (r : List Int) : D := .tup ((heedO r).filterMap id)
theorem heedO_at {r : List Int} {k : Nat} {e : Option D} {z : Int} (h : (heedO r)[k]? = some e) (hz : r[k]? = some z) : e = if 0 < z then some (D.int (k : Nat)) else none := by
  unfold heedO at h
  rw [List.getElem?_map] at h
  have hk : k < r.length := (List.getElem?_eq_some_iff.mp hz).1
  rw [List.getElem?_range hk] at h
  simp only [Option.map_some, Option.some.injEq] at h
  rw [← h, List.getD_eq_getElem?_getD, hz]
  rfl
theorem heedO_length (r : List Int) : (heedO r).length = r.length := by simp [heedO]
theorem atI_row {R : List (List Int)} {i : Nat} {r : List Int} (f : List Int → D) (h : R[i]? = some r) : atI (R.map f) (i : Int) = some (f r) := atI_nat (by rw [List.getElem?_map, h]; rfl)
theorem heeds_ok {R : List (List Int)} {i : Nat} {r : List Int} (h : R[i]? = some r) (hl : r.length ≤ 1000) : F_Talk_heeds [some (.dat (talkD R)), some (.dat (.int i))] = some (.ok (.dat (heedD r)) [none, none]) := by
  have lp := loopC_sel (vs := [2, 3]) (tg := tgT [2, 3]) (ft := asB (dBin gGt (dVar 3) (retE (.dat (.int 0))))) (fe := froze (dVar 2)) (ρ := [some (.dat (talkD R)), some (.dat (.int i)), none, none]) (enumL (r.map D.int)) (heedO r) [] (by simp [enumL_length, heedO_length]) (by
    intro k d e hd he
    have hk : k < r.length := by
      have := (List.getElem?_eq_some_iff.mp hd).1
      rw [enumL_length, List.length_map] at this
      exact this
    have hz := List.getElem?_eq_getElem hk
    rw [enumL_at (d := .int r[k]) (by rw [List.getElem?_map, hz]; rfl)] at hd
    cases hd
    rw [heedO_at he hz]
    refine ⟨_, rfl, rfl, ?_⟩
    by_cases c : 0 < r[k]
    · rw [if_pos c]
      simp [c]
    · rw [if_neg c]
      simp [c]) (by simp [enumL_length]; omega)
  have a := atI_row rowT h
  unfold talkD at lp ⊢
  simp [F_Talk_heeds, g_Talk_heeds, objFld, a]
  simp [rowT, lp, heedD]
theorem heard_ok {s : SV} {ds : List D} {R : List (List Int)} {i : Nat} {r : List Int} (hs : Sees s ds) (hr : IsRows ds R) (g : Good R) (h : R[i]? = some r) : F__law_heard [some s, some (.dat (.int i))] = some (.ok (.dat (heedD r)) [none, none]) := by
  have hm := List.mem_of_getElem? h
  have l1 := g.len r hm
  have l2 := g.few
  have hl := hr.length
  have hi : i < ds.length := by rw [hl]; exact (List.getElem?_eq_some_iff.mp h).1
  obtain ⟨d0, hd0⟩ : ∃ d, ds[i]? = some d := ⟨_, List.getElem?_eq_getElem hi⟩
  obtain ⟨r', h2, ir⟩ := hr.at hd0
  rw [h] at h2
  cases h2
  have ai : atI ds (i : Int) = some d0 := atI_nat hd0
  have at2 : ∀ (k : Nat) (z : Int), r[k]? = some z → ixD d0 (k : Int) = some (.int z) := fun k z hz => by
    cases ir with
    | lst => exact atI_int hz
    | tup => exact atI_int hz
  have lp : loopC [2] (tgN 2) (asB (dBin gGt (dBin gIx (dBin gIx (dVar 0) (dVar 1)) (dVar 2)) (retE (.dat (.int 0))))) (froze (dVar 2)) (rangeL 0 ds.length) [] [some s, some (.dat (.int i)), none] = some (.ok (.own (.lst ([] ++ (heedO r).filterMap id))) [some s, some (.dat (.int i)), none]) :=
    loopC_sel (rangeL 0 ds.length) (heedO r) [] (by rw [rangeL_length, heedO_length, hl, l1]) (by
    intro k d e hd he
    have hk : k < r.length := by
      have := (List.getElem?_eq_some_iff.mp hd).1
      rw [rangeL_length] at this
      omega
    have hz := List.getElem?_eq_getElem hk
    rw [rangeL_at (by omega)] at hd
    cases hd
    rw [heedO_at he hz]
    refine ⟨_, rfl, rfl, ?_⟩
    have a2 := at2 k _ hz
    by_cases c : 0 < r[k]
    · rw [if_pos c]
      cases hs <;> simp [MO.see, ai, a2, c]
    · rw [if_neg c]
      cases hs <;> simp [MO.see, ai, a2, c]) (by rw [rangeL_length]; simp; omega)
  have n1 : ds.length ≤ 100000 := by omega
  cases hs <;> simp [F__law_heard, g__law_heard, MO.see, n1, lp, heedD]
end Sh
set_option Elab.async false
set_option linter.all false
set_option maxRecDepth 100000
set_option maxHeartbeats 4000000
namespace Sh
open PySem PySem.Spec PyProof.Rows L2 Tk Pl
/-! ### == of talks -/
theorem nums_ints (r : List Int) : D.nums_ (r.map D.int) = true ∧ D.pures (r.map D.int) = true ∧ D.deeps (r.map D.int) = 0 := by
  induction r with
  | nil => exact ⟨rfl, rfl, rfl⟩
  | cons z r ih =>
    obtain ⟨a, b, c⟩ := ih
    refine ⟨by simp [D.nums_, D.num, a], by simp [D.pures, D.pure, b], by simp [D.deeps, D.deep, c]⟩
theorem row_num (r : List Int) : (rowT r).num = true ∧ (rowT r).pure = true ∧ (rowT r).deep = 1 := by
  obtain ⟨a, b, c⟩ := nums_ints r
  exact ⟨a, b, by show D.deeps _ + 1 = 1; rw [c]⟩
theorem rows_num (R : List (List Int)) : D.nums_ (R.map rowT) = true ∧ D.pures (R.map rowT) = true ∧ D.deeps (R.map rowT) ≤ 1 := by
  induction R with
  | nil => exact ⟨rfl, rfl, Nat.zero_le _⟩
  | cons r R ih =>
    obtain ⟨a, b, c⟩ := ih
    obtain ⟨x, y, z⟩ := row_num r
    refine ⟨by simp [D.nums_, x, a], by simp [D.pures, y, b], ?_⟩
    simp only [List.map_cons, D.deeps, z]
    omega
theorem map_inj {α β : Type} {f : α → β} (h : ∀ a b, f a = f b → a = b) : ∀ {l l' : List α}, l.map f = l'.map f → l = l'
  | [], [], _ => rfl
  | [], _ :: _, e => by cases e
  | _ :: _, [], e => by cases e
  | a :: l, b :: l', e => by
    rw [List.map_cons, List.map_cons] at e
    injection e with e1 e2
    rw [h a b e1, map_inj h e2]
theorem rowT_inj (a b : List Int) (h : rowT a = rowT b) : a = b := by
  unfold rowT at h
  injection h with h
  exact map_inj (fun x y e => by injection e) h
theorem rows_inj {R R' : List (List Int)} (h : D.tup (R.map rowT) = D.tup (R'.map rowT)) : R = R' := by
  injection h with h
  exact map_inj rowT_inj h
theorem dEq_rows (R R' : List (List Int)) : dEq (.tup (R.map rowT)) (.tup (R'.map rowT)) = some (decide (R = R')) := by
  obtain ⟨a, b, c⟩ := rows_num R
  obtain ⟨a', b', c'⟩ := rows_num R'
  refine dEq_num (a := .tup (R.map rowT)) (b := .tup (R'.map rowT)) a a' b b' (by show D.deeps _ + 1 ≤ 64; omega) (by show D.deeps _ + 1 ≤ 64; omega) rfl ?_
  rw [decide_eq_true_eq]
  exact ⟨fun h => by rw [h], fun h => rows_inj h⟩
@[simp] theorem hIsiX_obj (cs : List Nat) (c c' : Nat) (l : List D) : hIsiX cs (.obj c l) (.cls c') = if cs.contains c && cs.contains c' then some (.bl (decide (c = c'))) else none := rfl
@[simp] theorem hIsiX_str (cs : List Nat) (x : Str) (c' : Nat) : hIsiX cs (.str x) (.cls c') = if cs.contains c' then some (.bl false) else none := rfl
@[simp] theorem hIsiX_lst (cs : List Nat) (x : List D) (c' : Nat) : hIsiX cs (.lst x) (.cls c') = if cs.contains c' then some (.bl false) else none := rfl
@[simp] theorem hIsiX_tup (cs : List Nat) (x : List D) (c' : Nat) : hIsiX cs (.tup x) (.cls c') = if cs.contains c' then some (.bl false) else none := rfl
@[simp] theorem hIsiX_int (cs : List Nat) (x : Int) (c' : Nat) : hIsiX cs (.int x) (.cls c') = if cs.contains c' then some (.bl false) else none := rfl
@[simp] theorem hIsiX_non (cs : List Nat) (c' : Nat) : hIsiX cs .non (.cls c') = if cs.contains c' then some (.bl false) else none := rfl
theorem eq_talk_ok (R R' : List (List Int)) : F_Talk___eq__ [some (.dat (talkD R)), some (.dat (talkD R'))] = some (.ok (.dat (.bl (decide (R = R')))) [none, none]) := by
  have e := dEq_rows R R'
  unfold talkD
  simp [F_Talk___eq__, g_Talk___eq__, objFld, e]
theorem eq_talk_str (R : List (List Int)) (x : Str) : F_Talk___eq__ [some (.dat (talkD R)), some (.dat (.str x))] = some (.ok (.dat (.bl false)) [none, none]) := by
  unfold talkD
  simp [F_Talk___eq__, g_Talk___eq__]
theorem eq_talk_tup (R : List (List Int)) (x : List D) : F_Talk___eq__ [some (.dat (talkD R)), some (.dat (.tup x))] = some (.ok (.dat (.bl false)) [none, none]) := by
  unfold talkD
  simp [F_Talk___eq__, g_Talk___eq__]
theorem eq_talk_own (R : List (List Int)) (x : List D) : F_Talk___eq__ [some (.dat (talkD R)), some (.own (.lst x))] = some (.ok (.dat (.bl false)) [none, some (.own (.lst x))]) := by
  unfold talkD
  simp [F_Talk___eq__, g_Talk___eq__]
theorem len_talk_ok (R : List (List Int)) : F_Talk___len__ [some (.dat (talkD R))] = some (.ok (.dat (.int R.length)) [none]) := by
  unfold talkD
  simp [F_Talk___len__, g_Talk___len__, objFld]
/-! ### what the laws draw -/
def bx (a b c : Int) : Option SV := some (.own (.lst [.int a, .int b, .int c]))
theorem take_ok (a b c m : Int) (h0 : 0 < m) (h1 : m < 2 ^ 40) : ∃ d a' b' c', 0 ≤ d ∧ d < m ∧ F__law_take [bx a b c, some (.dat (.int m))] = some (.ok (.dat (.int d)) [bx a' b' c', none]) := by
  have hd : ∀ x, cDiv x m = true := fun x => cDiv_ok h0 (by omega)
  by_cases ha : 0 < a
  · refine ⟨a % m, a / m, b, c, Int.emod_nonneg _ (by omega), Int.emod_lt_of_pos _ h0, ?_⟩
    simp [F__law_take, g__law_take, bx, ha, h0, hd]
  · obtain ⟨raw, hraw⟩ : ∃ x, x = (b + 96137 * (c + 1)) * 41399 % 2147483647 := ⟨_, rfl⟩
    obtain ⟨sd, hsd⟩ : ∃ x, x = (raw * 60493 + 25903) % 2147483629 + 1 := ⟨_, rfl⟩
    refine ⟨(raw * 2147483647 + sd) / 8191 % m, a, sd, c + 1, Int.emod_nonneg _ (by omega), Int.emod_lt_of_pos _ h0, ?_⟩
    simp [F__law_take, g__law_take, bx, ha, h0, hd, cMul_left, cMul_right, cDiv_ok, cPow, ← hraw, ← hsd]
theorem pick_ok (a b c : Int) (l : List D) (h0 : 0 < l.length) (h1 : l.length ≤ 10000) : ∃ x a' b' c', x ∈ l ∧ F__law_pick [bx a b c, some (.dat (.lst l))] = some (.ok (.dat x) [bx a' b' c', none]) := by
  obtain ⟨d, a', b', c', d0, d1, e⟩ := take_ok a b c l.length (by omega) (by omega)
  have hl : d.toNat < l.length := by omega
  refine ⟨l[d.toNat], a', b', c', List.getElem_mem hl, ?_⟩
  unfold bx at e ⊢
  simp [F__law_pick, g__law_pick, e, atI_of l d d0 hl]
end Sh
set_option Elab.async false
set_option linter.all false
set_option maxRecDepth 100000
set_option maxHeartbeats 4000000
namespace Sh
open PySem PySem.Spec PyProof.Rows L2 Tk Pl
/-- a comprehension over a list by its places -/
theorem loopC_at {vs : List Nat} {tg : D → Sl → Option Sl} {ft : Ef Bool} {fe : DE} (ds : List D) (I : Nat → List D → Sl → Prop)
    (step : ∀ i d acc ρ, ds[i]? = some d → I i acc ρ → ∃ ρ1 ρ2, tg d ρ = some ρ1 ∧ ((ft ρ1 = some (.ok true ρ2) ∧ ∃ e ρ3, fe ρ2 = some (.ok (.dat e) ρ3) ∧ acc.length < 10000 ∧ I (i + 1) (acc ++ [e]) (wipeR ρ3 vs)) ∨ (ft ρ1 = some (.ok false ρ2) ∧ I (i + 1) acc (wipeR ρ2 vs)))) {ρ : Sl} (h : I 0 [] ρ) :
    ∃ acc ρ', I ds.length acc ρ' ∧ loopC vs tg ft fe ds [] ρ = some (.ok (.own (.lst acc)) ρ') := by
  obtain ⟨acc', ρ', ⟨i, e, hi, h'⟩, q⟩ := loopC_inv (vs := vs) (tg := tg) (ft := ft) (fe := fe) (fun l acc ρ => ∃ i, l = ds.drop i ∧ i ≤ ds.length ∧ I i acc ρ) (by
    rintro d r acc ρ ⟨i, e, hi, h⟩
    have lt : i < ds.length := by
      refine Nat.lt_of_le_of_ne hi fun w => ?_
      subst w
      rw [List.drop_length] at e
      cases e
    rw [List.drop_eq_getElem_cons lt] at e
    injection e with e1 e2
    obtain ⟨ρ1, ρ2, h1, h2⟩ := step i d acc ρ (by rw [List.getElem?_eq_getElem lt, e1]) h
    refine ⟨ρ1, ρ2, h1, ?_⟩
    rcases h2 with ⟨h2, x, ρ3, h3, h4, h5⟩ | ⟨h2, h3⟩
    · exact .inl ⟨h2, x, ρ3, h3, h4, i + 1, e2, lt, h5⟩
    · exact .inr ⟨h2, i + 1, e2, lt, h3⟩) ds [] ρ ⟨0, rfl, Nat.zero_le _, h⟩
  have : i = ds.length := by
    have := congrArg List.length e
    simp at this
    omega
  subst this
  exact ⟨acc', ρ', h', q⟩
theorem snoc_int (r : List Int) (z : Int) : r.map D.int ++ [.int z] = (r ++ [z]).map D.int := by simp
theorem ixN_of {n i : Nat} (h : i < n) : ixN n (i : Int) = some i := by
  unfold ixN
  have h1 : ¬ ((i : Int) < 0) := by omega
  simp [h1]
  omega
/-- one row -/
theorem law_row_ok (a b c : Int) (p top : Nat) (x3 x4 x5 : Option SV) (hp : p ≤ 1000) (ht : top < 2 ^ 30) : ∃ (r : List Int) (a' b' c' : Int), r.length = p ∧ (∀ z ∈ r, 0 ≤ z ∧ z ≤ top ∨ z = 1) ∧
    loopC [6] (tgN 6) yesT (froze e__law_rows_1) (rangeL 0 p) [] [bx a b c, some (.dat (.int p)), some (.dat (.int top)), x3, x4, x5, none] = some (.ok (.own (.lst (r.map D.int))) [bx a' b' c', some (.dat (.int p)), some (.dat (.int top)), x3, x4, x5, none]) := by
  obtain ⟨acc, ρ', ⟨r, a', b', c', rfl, rfl, h1, h2⟩, e⟩ := loopC_at (vs := [6]) (tg := tgN 6) (ft := yesT) (fe := froze e__law_rows_1) (rangeL 0 p)
    (fun i acc ρ => ∃ (r : List Int) (a' b' c' : Int), acc = r.map D.int ∧ ρ = [bx a' b' c', some (.dat (.int p)), some (.dat (.int top)), x3, x4, x5, none] ∧ r.length = i ∧ ∀ z ∈ r, 0 ≤ z ∧ z ≤ top ∨ z = 1) (by
    rintro i d acc ρ hd ⟨r, a1, b1, c1, rfl, rfl, h1, h2⟩
    have hi : i < p := by
      have := (List.getElem?_eq_some_iff.mp hd).1
      rwa [rangeL_length] at this
    obtain ⟨t, a2, b2, c2, t0, t1, et⟩ := take_ok a1 b1 c1 (top + 1) (by omega) (by omega)
    obtain ⟨x, a3, b3, c3, hx, ep⟩ := pick_ok a2 b2 c2 [.int 0, .int 0, .int 1, .int t] (by simp) (by simp)
    obtain ⟨z, rfl, hz⟩ : ∃ z, x = .int z ∧ (0 ≤ z ∧ z ≤ (top : Int) ∨ z = 1) := by
      simp only [List.mem_cons, List.not_mem_nil, or_false] at hx
      rcases hx with rfl | rfl | rfl | rfl
      · exact ⟨0, rfl, .inl ⟨by omega, by omega⟩⟩
      · exact ⟨0, rfl, .inl ⟨by omega, by omega⟩⟩
      · exact ⟨1, rfl, .inr rfl⟩
      · exact ⟨t, rfl, .inl ⟨t0, by omega⟩⟩
    refine ⟨_, _, rfl, .inl ⟨rfl, .int z, [bx a3 b3 c3, some (.dat (.int p)), some (.dat (.int top)), x3, x4, x5, some (.dat d)], ?_, by simp; omega, r ++ [z], a3, b3, c3, snoc_int r z, rfl, by simp [h1], ?_⟩⟩
    · unfold bx at et ep ⊢
      simp [e__law_rows_1, et, ep]
    · intro y hy
      rcases List.mem_append.mp hy with hy | hy
      · exact h2 y hy
      · rw [List.mem_singleton.mp hy]; exact hz) (ρ := [bx a b c, some (.dat (.int p)), some (.dat (.int top)), x3, x4, x5, none]) ⟨[], a, b, c, rfl, rfl, rfl, fun z h => by cases h⟩
  rw [rangeL_length] at h1
  exact ⟨r, a', b', c', h1, h2, e⟩
/-- rows that a law draws -/
structure Drawn (R : List (List Int)) (p top : Nat) : Prop where
  many : R.length = p
  len : ∀ r ∈ R, r.length = p
  nn : ∀ r ∈ R, ∀ z ∈ r, 0 ≤ z ∧ z ≤ top ∨ z = 1
  diag : ∀ (i : Nat) (r : List Int), R[i]? = some r → ∃ z, r[i]? = some z ∧ 0 < z
theorem law_rows_ok (a b c : Int) (p top : Nat) (hp : p ≤ 1000) (h0 : 0 < top) (ht : top < 2 ^ 30) : ∃ (R : List (List Int)) (a' b' c' : Int), Drawn R p top ∧ F__law_rows [bx a b c, some (.dat (.int p)), some (.dat (.int top))] = some (.ok (.own (.lst (R.map rowL))) [bx a' b' c', none, none]) := by
  obtain ⟨ρ', ⟨R, a', b', c', v4, v5, rfl, h1, h2, h3, h4⟩, e⟩ := loopS_at (tg := tgN 4) (body := b__law_rows_2) (rangeL 0 p) (fun i ρ => ∃ (R : List (List Int)) (a' b' c' : Int) (v4 v5 : Option SV), ρ = [bx a' b' c', some (.dat (.int p)), some (.dat (.int top)), some (.own (.lst (R.map rowL))), v4, v5, none] ∧ R.length = i ∧ (∀ r ∈ R, r.length = p) ∧ (∀ r ∈ R, ∀ z ∈ r, 0 ≤ z ∧ z ≤ (top : Int) ∨ z = 1) ∧ ∀ (j : Nat) (r : List Int), R[j]? = some r → ∃ z, r[j]? = some z ∧ 0 < z) (by
    rintro i d ρ hd ⟨R, a1, b1, c1, v4, v5, rfl, h1, h2, h3, h4⟩
    have hi : i < p := by
      have := (List.getElem?_eq_some_iff.mp hd).1
      rwa [rangeL_length] at this
    rw [rangeL_at hi] at hd
    cases hd
    obtain ⟨r, a2, b2, c2, r1, r2, er⟩ := law_row_ok a1 b1 c1 p top (some (.own (.lst (R.map rowL)))) (some (.dat (.int (0 + (i : Nat))))) v5 hp ht
    obtain ⟨t, a3, b3, c3, t0, t1, et⟩ := take_ok a2 b2 c2 top (by omega) (by omega)
    have ix := ixN_of (n := r.length) (i := i) (by omega)
    have bi : (R.map rowL).length < 10000 := by simp; omega
    have e2 : (r.map D.int).set i (.int (1 + t)) = (r.set i (1 + t)).map D.int := by rw [List.map_set]
    have pa : p ≤ 100000 := by omega
    have ri : R.length < 10000 := by omega
    refine ⟨_, [bx a3 b3 c3, some (.dat (.int p)), some (.dat (.int top)), some (.own (.lst ((R ++ [r.set i (1 + t)]).map rowL))), some (.dat (.int (0 + (i : Nat)))), some (.dat (rowL (r.set i (1 + t)))), none], rfl, .inl ?_, R ++ [r.set i (1 + t)], a3, b3, c3, _, _, rfl, ?_, ?_, ?_, ?_⟩
    · unfold bx at er et ⊢
      simp at er
      simp [b__law_rows_2, er, et, ix, ri, pa, rowL]
    · simp [h1]
    · intro q hq
      rcases List.mem_append.mp hq with hq | hq
      · exact h2 q hq
      · rw [List.mem_singleton.mp hq, List.length_set]; exact r1
    · intro q hq z hz
      rcases List.mem_append.mp hq with hq | hq
      · exact h3 q hq z hz
      · rw [List.mem_singleton.mp hq] at hz
        rcases List.mem_or_eq_of_mem_set hz with hz | rfl
        · exact r2 z hz
        · omega
    · intro j q hq
      by_cases hj : j < R.length
      · rw [List.getElem?_append_left hj] at hq
        exact h4 j q hq
      · have hj' : j = R.length := by
          have := (List.getElem?_eq_some_iff.mp hq).1
          simp at this
          omega
        subst hj'
        rw [List.getElem?_append_right (Nat.le_refl _)] at hq
        simp at hq
        subst hq
        exact ⟨1 + t, by rw [h1, List.getElem?_set_self (by omega)], by omega⟩) (ρ := [bx a b c, some (.dat (.int p)), some (.dat (.int top)), some (.own (.lst [])), none, none, none]) ⟨[], a, b, c, none, none, rfl, rfl, fun r h => (by cases h), fun r h => (by cases h), fun j r h => (by simp at h)⟩
  rw [rangeL_length] at h1
  refine ⟨R, a', b', c', ⟨h1, h2, h3, h4⟩, ?_⟩
  have pa : p ≤ 100000 := by omega
  unfold bx at e ⊢
  simp [F__law_rows, g__law_rows, pa, e]
end Sh
set_option Elab.async false
set_option linter.all false
set_option maxRecDepth 100000
set_option maxHeartbeats 4000000
namespace Sh
open PySem PySem.Spec PyProof.Rows L2 Tk Pl
/-! ### talks made -/
theorem make_dat {d : D} {ds : List D} {R : List (List Int)} (h : Sees (.dat d) ds) (hr : IsRows ds R) (g : Good R) (ρ : Sl) : gMake att 10 F_Talk___init__ [] [.dat d] ρ = some (.ok (.dat (talkD (R.map norm))) ρ) := by
  have i := init_talk_ok h hr g
  simp [-ev_make, gMake, gMakeI, i, talkD, List.set_append_right]
theorem make_shr {i : Nat} {ds : List D} {R : List (List Int)} {ρ : Sl} (h : ρ[i]? = some (some (.own (.lst ds)))) (hr : IsRows ds R) (g : Good R) : gMake att 10 F_Talk___init__ [] [.shr i] ρ = some (.ok (.dat (talkD (R.map norm))) ρ) := by
  have k := init_talk_ok (.lck ds) hr g
  have hi : i < ρ.length := (List.getElem?_eq_some_iff.mp h).1
  have e : (ρ ++ [none])[i]? = some (some (.own (.lst ds))) := by rw [List.getElem?_append_left hi, h]
  simp [-ev_make, gMake, gMakeI, k, talkD, List.set_append_right, e]
/-! ### weights times a number -/
theorem gcd_scale (m : Nat) : ∀ (r : List Int) (g : Nat), (r.map fun z => z * (m : Int)).foldl (fun g z => Nat.gcd g z.natAbs) (g * m) = (r.foldl (fun g z => Nat.gcd g z.natAbs) g) * m
  | [], g => rfl
  | z :: r, g => by
    rw [List.map_cons, List.foldl_cons, List.foldl_cons, Int.natAbs_mul, Int.natAbs_natCast, Nat.gcd_mul_right, gcd_scale m r]
theorem norm_scale {m : Nat} (hm : 0 < m) (r : List Int) : norm (r.map fun z => z * (m : Int)) = norm r := by
  have e : gcdL (r.map fun z => z * (m : Int)) = gcdL r * m := by
    have := gcd_scale m r 0
    rwa [Nat.zero_mul] at this
  unfold norm
  rw [e, List.map_map]
  refine List.map_congr_left fun z _ => ?_
  show z * (m : Int) / ((gcdL r * m : Nat) : Int) = z / (gcdL r : Int)
  rw [Int.natCast_mul, Int.mul_ediv_mul_of_pos_left _ _ (by omega)]
theorem norm_norm {r : List Int} {z : Int} (hm : z ∈ r) (h0 : 0 < z) : norm (norm r) = norm r := by
  have g0 := gcdL_pos hm h0
  have e : norm r = norm ((norm r).map fun z => z * (gcdL r : Int)) := by
    congr 1
    unfold norm
    rw [List.map_map]
    conv => lhs; rw [← List.map_id r]
    refine List.map_congr_left fun x hx => ?_
    show x = x / (gcdL r : Int) * (gcdL r : Int)
    rw [Int.ediv_mul_cancel (Int.ofNat_dvd_left.mpr (gcdL_dvd hx))]
  rw [norm_scale g0] at e
  exact e.symm
theorem Drawn.good {R : List (List Int)} {p top : Nat} (d : Drawn R p top) (h0 : 0 < p) (hp : p ≤ 1000) (ht : top < 2 ^ 30) : Good R :=
  ⟨by rw [d.many]; exact h0, by rw [d.many]; exact hp, fun r hr => by rw [d.len r hr, d.many], fun r hr z hz => by rcases d.nn r hr z hz with h | h <;> omega, d.diag⟩
theorem norm_le {r : List Int} {z : Int} (h : z ∈ norm r) (nn : ∀ z ∈ r, 0 ≤ z) : ∃ y ∈ r, 0 ≤ z ∧ z ≤ y := by
  obtain ⟨y, hy, rfl⟩ := List.mem_map.mp h
  have h0 := nn y hy
  exact ⟨y, hy, Int.ediv_nonneg h0 (Int.natCast_nonneg _), Int.ediv_le_self _ h0⟩
theorem Drawn.tiny {R : List (List Int)} {p top : Nat} (d : Drawn R p top) (hp : p ≤ 10) (ht : top < 2 ^ 30) : Tiny (R.map norm) := by
  refine ⟨by rw [List.length_map, d.many]; exact hp, fun r hr => ?_, fun r hr z hz => ?_⟩
  · obtain ⟨q, hq, rfl⟩ := List.mem_map.mp hr
    unfold norm
    rw [List.length_map, d.len q hq]
    exact hp
  · obtain ⟨q, hq, rfl⟩ := List.mem_map.mp hr
    obtain ⟨y, hy, h0, h1⟩ := norm_le hz fun z hz => by rcases d.nn q hq z hz with h | h <;> omega
    have := d.nn q hq y hy
    have : z.natAbs < 2 ^ 30 := by omega
    exact Nat.lt_trans this (by decide)
/-- the rows of a talk are rows of a talk -/
theorem Good.norm {R : List (List Int)} (g : Good R) : Good (R.map norm) := by
  refine ⟨by rw [List.length_map]; exact g.pos, by rw [List.length_map]; exact g.few, fun r hr => ?_, fun r hr z hz => ?_, fun i r hi => ?_⟩
  · obtain ⟨q, hq, rfl⟩ := List.mem_map.mp hr
    unfold Sh.norm
    rw [List.length_map, List.length_map, g.len q hq]
  · obtain ⟨q, hq, rfl⟩ := List.mem_map.mp hr
    obtain ⟨y, hy, h0, h1⟩ := norm_le hz fun z hz => (g.nn q hq z hz).1
    exact ⟨h0, Int.lt_of_le_of_lt h1 (g.nn q hq y hy).2⟩
  · rw [List.getElem?_map] at hi
    cases hq : R[i]? with
    | none => rw [hq] at hi; cases hi
    | some q =>
      rw [hq] at hi
      cases hi
      obtain ⟨z, hz, z0⟩ := g.diag i q hq
      have zm := List.mem_of_getElem? hz
      refine ⟨z / (gcdL q : Int), by unfold Sh.norm; rw [List.getElem?_map, hz]; rfl, ?_⟩
      have gp := gcdL_pos zm z0
      have gl := gcdL_le zm z0
      exact Int.ediv_pos_of_pos_of_dvd z0 (by omega) (Int.ofNat_dvd_left.mpr (gcdL_dvd zm))
theorem norm_twice {R : List (List Int)} (g : Good R) : (R.map norm).map norm = R.map norm := by
  rw [List.map_map]
  refine List.map_congr_left fun r hr => ?_
  obtain ⟨i, hi⟩ := List.getElem?_of_mem hr
  obtain ⟨z, hz, z0⟩ := g.diag i r hi
  exact norm_norm (List.mem_of_getElem? hz) z0
/-- rows times a number -/
def wide (m : Nat) (R : List (List Int)) : List (List Int) := R.map fun r => r.map fun z => z * (m : Int)
theorem wide_norm {m : Nat} (hm : 0 < m) (R : List (List Int)) : (wide m R).map norm = R.map norm := by
  unfold wide
  rw [List.map_map]
  exact List.map_congr_left fun r _ => norm_scale hm r
theorem wide_good {R : List (List Int)} {p top m : Nat} (d : Drawn R p top) (h0 : 0 < p) (hp : p ≤ 1000) (ht : top < 2 ^ 30) (hm : 0 < m) (hm1 : m < 2 ^ 20) : Good (wide m R) := by
  have g := d.good h0 hp ht
  unfold wide
  refine ⟨by rw [List.length_map]; exact g.pos, by rw [List.length_map]; exact g.few, fun r hr => ?_, fun r hr z hz => ?_, fun i r hi => ?_⟩
  · obtain ⟨q, hq, rfl⟩ := List.mem_map.mp hr
    rw [List.length_map, List.length_map, g.len q hq]
  · obtain ⟨q, hq, rfl⟩ := List.mem_map.mp hr
    obtain ⟨y, hy, rfl⟩ := List.mem_map.mp hz
    have hy1 := d.nn q hq y hy
    have y0 : 0 ≤ y := by omega
    have y1 : y ≤ 2 ^ 30 := by omega
    refine ⟨Int.mul_nonneg y0 (by omega), ?_⟩
    have : y * (m : Int) ≤ 2 ^ 30 * (m : Int) := Int.mul_le_mul_of_nonneg_right y1 (by omega)
    omega
  · rw [List.getElem?_map] at hi
    cases hq : R[i]? with
    | none => rw [hq] at hi; cases hi
    | some q =>
      rw [hq] at hi
      cases hi
      obtain ⟨z, hz, z0⟩ := g.diag i q hq
      exact ⟨z * (m : Int), by rw [List.getElem?_map, hz]; rfl, Int.mul_pos z0 (by omega)⟩
end Sh
set_option Elab.async false
set_option linter.all false
set_option maxRecDepth 100000
set_option maxHeartbeats 4000000
namespace Sh
open PySem PySem.Spec PyProof.Rows L2 Tk Pl
/-- _law_box: a box -/
theorem box_ok (ns : List Int) (k : Nat) (hk : k ≤ 63) : ∃ a b c, F__law_box [some (.dat (.wri (ns.map D.int))), some (.dat (.int k))] = some (.ok (.own (.lst [.int a, .int b, .int c])) [none, none]) := by
  have fin : ∀ cell : Int, ∃ z, (if 1000000000000000000 ≤ cell then (some (.ok (.dat (.int cell)) []) : Option (Res RV)) else some (.ok (.dat (.int 0)) [])) = some (.ok (.dat (.int z)) []) := by
    intro cell
    split <;> exact ⟨_, rfl⟩
  by_cases h1 : k < ns.length
  · have e : atI (ns.map D.int) (k : Int) = some (.int ns[k]) := by
      apply atI_nat
      simp [h1]
    have h1' : (k : Int) < (ns.length : Int) := by omega
    obtain ⟨cell, hcell⟩ : ∃ x, x = (if ns[k] < 0 then -ns[k] else ns[k]) := ⟨_, rfl⟩
    by_cases hc : 1000000000000000000 ≤ cell
    · refine ⟨cell, (cell % 2147483629 * 63463 + 34703 * k + 7) % 2147483629 + 1, 0, ?_⟩
      simp [F__law_box, g__law_box, cMul_left, cMul_right, h1, e, cPow, ← hcell, hc]
    · refine ⟨0, (cell % 2147483629 * 63463 + 34703 * k + 7) % 2147483629 + 1, 0, ?_⟩
      simp [F__law_box, g__law_box, cMul_left, cMul_right, h1, e, cPow, ← hcell, hc]
  · by_cases h2 : 0 < ns.length
    · have hp : (0 : Int) < (ns.length : Int) := by omega
      have lt : k % ns.length < ns.length := Nat.mod_lt _ h2
      have e : atI (ns.map D.int) ((k : Int) % (ns.length : Int)) = some (.int ns[k % ns.length]) := by
        rw [← Int.natCast_emod]
        apply atI_nat
        simp [lt]
      obtain ⟨cell, hcell⟩ : ∃ x, x = 6451 * (k : Int) + 107 + ns[k % ns.length] % 2147483629 * 94811 := ⟨_, rfl⟩
      by_cases hc : 1000000000000000000 ≤ cell
      · refine ⟨cell, (cell % 2147483629 * 63463 + 34703 * k + 7) % 2147483629 + 1, 0, ?_⟩
        simp [F__law_box, g__law_box, cMul_left, cMul_right, h1, h2, hp, e, cPow, ← hcell, hc]
      · refine ⟨0, (cell % 2147483629 * 63463 + 34703 * k + 7) % 2147483629 + 1, 0, ?_⟩
        simp [F__law_box, g__law_box, cMul_left, cMul_right, h1, h2, hp, e, cPow, ← hcell, hc]
    · obtain ⟨cell, hcell⟩ : ∃ x, x = 6451 * (k : Int) + 107 := ⟨_, rfl⟩
      by_cases hc : 1000000000000000000 ≤ cell
      · refine ⟨cell, (cell % 2147483629 * 63463 + 34703 * k + 7) % 2147483629 + 1, 0, ?_⟩
        simp [F__law_box, g__law_box, cMul_left, cMul_right, h1, h2, cPow, ← hcell, hc]
      · refine ⟨0, (cell % 2147483629 * 63463 + 34703 * k + 7) % 2147483629 + 1, 0, ?_⟩
        simp [F__law_box, g__law_box, cMul_left, cMul_right, h1, h2, cPow, ← hcell, hc]
end Sh
set_option Elab.async false
set_option linter.all false
set_option maxRecDepth 100000
set_option maxHeartbeats 4000000
namespace Sh
open PySem PySem.Spec PyProof.Rows L2 Tk Pl
/-! ### shown -/
theorem fine_ints {r : List Int} (h : r.length ≤ 10) (lt : ∀ z ∈ r, z.natAbs < 10 ^ 20) : Fine 232 1 (rowT r).py ∧ (rowT r).isPy = true := by
  have f : ∀ d ∈ D.pys (r.map D.int), Fine 21 0 d := by
    have go : ∀ (l : List Int), (∀ z ∈ l, z.natAbs < 10 ^ 20) → ∀ d ∈ D.pys (l.map D.int), Fine 21 0 d := by
      intro l
      induction l with
      | nil => intro _ d hd; cases hd
      | cons z l ih =>
        intro lt d hd
        rcases List.mem_cons.mp hd with rfl | hd
        · exact fine_whole (k := 20) (lt z List.mem_cons_self) (by decide) (by decide)
        · exact ih (fun z hz => lt z (List.mem_cons_of_mem _ hz)) d hd
    exact go r lt
  have hl : (D.pys (r.map D.int)).length = r.length := by
    have go : ∀ l : List D, (D.pys l).length = l.length := by
      intro l
      induction l with
      | nil => rfl
      | cons d l ih => exact congrArg Nat.succ ih
    rw [go, List.length_map]
  refine ⟨(Fine.tuple f).mono (by rw [hl]; omega) (Nat.le_refl _), (num_plain (rowT r) (row_num r).1).1⟩
theorem hRepr_row {r : List Int} (h : r.length ≤ 10) (lt : ∀ z ∈ r, z.natAbs < 10 ^ 20) : ∃ z, hRepr (rowT r) = some (.str z) := by
  obtain ⟨f, p⟩ := fine_ints h lt
  exact ⟨_, hRepr_ok p f (by decide) (by decide)⟩
theorem pys_length : ∀ l : List D, (D.pys l).length = l.length
  | [] => rfl
  | _ :: l => congrArg Nat.succ (pys_length l)
theorem hRepr_rows {R : List (List Int)} (t : Tiny R) : ∃ z, hRepr (.tup (R.map rowT)) = some (.str z) := by
  have f : ∀ d ∈ D.pys (R.map rowT), Fine 232 1 d := by
    have go : ∀ (l : List (List Int)), (∀ r ∈ l, r.length ≤ 10 ∧ ∀ z ∈ r, z.natAbs < 10 ^ 20) → ∀ d ∈ D.pys (l.map rowT), Fine 232 1 d := by
      intro l
      induction l with
      | nil => intro _ d hd; cases hd
      | cons r l ih =>
        intro lt d hd
        rcases List.mem_cons.mp hd with rfl | hd
        · have := lt r List.mem_cons_self
          exact (fine_ints this.1 this.2).1
        · exact ih (fun z hz => lt z (List.mem_cons_of_mem _ hz)) d hd
    exact go R fun r hr => ⟨t.len r hr, t.lt r hr⟩
  have few := t.few
  have ff : Fine 2342 2 (D.tup (R.map rowT)).py := (Fine.tuple f).mono (by rw [pys_length, List.length_map]; omega) (Nat.le_refl _)
  exact ⟨_, hRepr_ok (num_plain (.tup (R.map rowT)) (rows_num R).1).1 ff (by decide) (by decide)⟩
theorem filterMap_ints : ∀ (l : List Nat) (p : Nat → Bool), ((l.map fun j => if p j = true then some (D.int (j : Nat)) else none).filterMap id) = ((l.filter p).map fun j => ((j : Nat) : Int)).map D.int
  | [], _ => rfl
  | j :: l, p => by
    rw [List.map_cons, List.filterMap_cons]
    cases h : p j with
    | true => simp [h, filterMap_ints l p]
    | false => simp [h, filterMap_ints l p]
theorem heedD_row (r : List Int) : heedD r = rowT (((List.range r.length).filter fun j => decide (0 < r.getD j 0)).map fun j => ((j : Nat) : Int)) := by
  unfold heedD rowT heedO
  congr 1
  have := filterMap_ints (List.range r.length) fun j => decide (0 < r.getD j 0)
  simpa using this
theorem hRepr_heed {r : List Int} (h : r.length ≤ 10) : ∃ z, hRepr (heedD r) = some (.str z) := by
  rw [heedD_row]
  refine hRepr_row ?_ ?_
  · rw [List.length_map]
    exact Nat.le_trans (List.length_filter_le _ _) (by rw [List.length_range]; exact h)
  · intro z hz
    obtain ⟨j, hj, rfl⟩ := List.mem_map.mp hz
    have := List.mem_range.mp (List.mem_filter.mp hj).1
    have : ((j : Int)).natAbs < 10 := by omega
    exact Nat.lt_trans this (by decide)
theorem heed_norm {r : List Int} {z : Int} (hm : z ∈ r) (h0 : 0 < z) : heedD (norm r) = heedD r := by
  have g0 := gcdL_pos hm h0
  unfold heedD heedO
  congr 2
  have e : (norm r).length = r.length := by simp [norm]
  rw [e]
  refine List.map_congr_left fun j hj => ?_
  have lj := List.mem_range.mp hj
  have e1 : (norm r).getD j 0 = r[j] / (gcdL r : Int) := by
    rw [List.getD_eq_getElem?_getD]
    unfold norm
    rw [List.getElem?_map, List.getElem?_eq_getElem lj]
    rfl
  have e2 : r.getD j 0 = r[j] := by
    rw [List.getD_eq_getElem?_getD, List.getElem?_eq_getElem lj]
    rfl
  rw [e1, e2]
  have dv : (gcdL r : Int) ∣ r[j] := Int.ofNat_dvd_left.mpr (gcdL_dvd (List.getElem_mem lj))
  have : 0 < r[j] / (gcdL r : Int) ↔ 0 < r[j] := by
    constructor
    · intro h
      have := Int.ediv_mul_cancel dv
      have := Int.mul_pos h (show (0 : Int) < (gcdL r : Int) by omega)
      omega
    · intro h
      exact Int.ediv_pos_of_pos_of_dvd h (by omega) dv
  simp only [this]
end Sh
set_option Elab.async false
set_option linter.all false
set_option maxRecDepth 100000
set_option maxHeartbeats 4000000
/-! The frame of a law: cells, a box, turns. -/
namespace Sh
open PySem PySem.Spec PyProof.Rows L2 Tk Pl
theorem seq_nx {g1 g2 : DS} {ρ ρ' : Sl} (h : g1 ρ = some (.nx ρ')) : seqS g1 g2 ρ = g2 ρ' := by
  show (match g1 ρ with | some (.nx ρ') => g2 ρ' | o => o) = _
  rw [h]
theorem seq_ex {g1 g2 : DS} {ρ ρ1 : Sl} {Q : Sl → Prop} (h : g1 ρ = some (.nx ρ1)) (h2 : ∃ ρ', g2 ρ1 = some (.nx ρ') ∧ Q ρ') : ∃ ρ', seqS g1 g2 ρ = some (.nx ρ') ∧ Q ρ' := by
  obtain ⟨ρ', e, q⟩ := h2
  exact ⟨ρ', (seq_nx h).trans e, q⟩
theorem seq_rt {g1 g2 : DS} {ρ ρ1 : Sl} {r : RV} (h : g1 ρ = some (.nx ρ1)) (h2 : ∃ ρ', g2 ρ1 = some (.rt r ρ')) : ∃ ρ', seqS g1 g2 ρ = some (.rt r ρ') := by
  obtain ⟨ρ', e⟩ := h2
  exact ⟨ρ', (seq_nx h).trans e⟩
theorem take_nat (a b c m : Int) (h0 : 0 < m) (h1 : m < 2 ^ 40) : ∃ (d : Nat) (a' b' c' : Int), (d : Int) < m ∧ F__law_take [bx a b c, some (.dat (.int m))] = some (.ok (.dat (.int d)) [bx a' b' c', none]) := by
  obtain ⟨d, a', b', c', d0, d1, e⟩ := take_ok a b c m h0 h1
  obtain ⟨n, rfl⟩ := Int.eq_ofNat_of_zero_le d0
  exact ⟨n, a', b', c', d1, e⟩
/-- slots of a law: the first ones, then `n` others, then `m` empty ones -/
def Slots (pre : Sl) (n m : Nat) (ρ : Sl) : Prop := ∃ ys : Sl, ys.length = n ∧ ρ = pre ++ (ys ++ List.replicate m none)
/-- turns: the box goes on, what stands before it stays -/
theorem turns_ok {pre : Sl} {n m i : Nat} {body : DS} (ds : List D) (hi : i = pre.length + 1)
    (step : ∀ (d : D) (a b c : Int) (ys : Sl), d ∈ ds → ys.length = n → ∃ ρ', body (pre ++ (bx a b c :: some (.dat d) :: (ys ++ List.replicate m none))) = some (.nx ρ') ∧ ∃ a' b' c', Slots (pre ++ [bx a' b' c', some (.dat d)]) n m ρ') :
    ∀ (a b c : Int) (y : Option SV) (ys : Sl), ys.length = n → ∃ ρ', loopS (tgN i) body ds (pre ++ (bx a b c :: y :: (ys ++ List.replicate m none))) = some (.nx ρ') ∧ ∃ a' b' c' y', Slots (pre ++ [bx a' b' c', y']) n m ρ' := by
  intro a b c y ys hy
  obtain ⟨ρ', ⟨a', b', c', y', h⟩, e⟩ := loopS_at (tg := tgN i) (body := body) ds (fun i ρ => ∃ a' b' c' y', Slots (pre ++ [bx a' b' c', y']) n m ρ) (by
    rintro j d ρ hd ⟨a, b, c, y, ys, hy, rfl⟩
    obtain ⟨ρ2, e, a', b', c', h⟩ := step d a b c ys (List.mem_of_getElem? hd) hy
    refine ⟨_, ρ2, rfl, .inl ?_, a', b', c', _, h⟩
    subst hi
    rw [← e]
    congr 1
    simp [List.set_append_right, List.append_assoc]) (ρ := pre ++ (bx a b c :: y :: (ys ++ List.replicate m none))) ⟨a, b, c, y, ys, hy, by simp⟩
  exact ⟨ρ', e, a', b', c', y', h⟩
/-- cells: the script stays -/
theorem cells_ok {s : SV} {n m : Nat} {body : DS} (c : Nat)
    (step : ∀ (k : Nat) (ys : Sl), k < c → ys.length = n → ∃ ρ', body (some s :: some (.dat (.int (k : Int))) :: (ys ++ List.replicate m none)) = some (.nx ρ') ∧ Slots [some s, some (.dat (.int (k : Int)))] n m ρ') :
    ∀ (y : Option SV) (ys : Sl), ys.length = n → ∃ ρ', loopS (tgN 1) body (rangeL 0 c) (some s :: y :: (ys ++ List.replicate m none)) = some (.nx ρ') ∧ ∃ y', Slots [some s, y'] n m ρ' := by
  intro y ys hy
  obtain ⟨ρ', ⟨y', h⟩, e⟩ := loopS_at (tg := tgN 1) (body := body) (rangeL 0 c) (fun i ρ => ∃ y', Slots [some s, y'] n m ρ) (by
    rintro j d ρ hd ⟨y, ys, hy, rfl⟩
    have hj : j < c := by
      have := (List.getElem?_eq_some_iff.mp hd).1
      rwa [rangeL_length] at this
    rw [rangeL_at hj] at hd
    cases hd
    obtain ⟨ρ2, e, h⟩ := step j ys hj hy
    refine ⟨_, ρ2, rfl, .inl ?_, _, h⟩
    rw [← e]
    congr 1
    simp) (ρ := some s :: y :: (ys ++ List.replicate m none)) ⟨y, ys, hy, by simp⟩
  exact ⟨ρ', e, y', h⟩
/-- the whole law -/
theorem frame_ok {s : SV} {n m c : Nat} {body fin : DS} {fi : Ef Wk}
    (hfi : ∀ ys : Sl, fi (some s :: ys) = some (.ok (rangeL 0 c, []) (some s :: ys)))
    (hfin : ∀ (y : Option SV) (ys : Sl), ys.length = n → ∃ ρ', fin (some s :: y :: (ys ++ List.replicate m none)) = some (.rt (.dat (.bl true)) ρ'))
    (step : ∀ (k : Nat) (ys : Sl), k < c → ys.length = n → ∃ ρ', body (some s :: some (.dat (.int (k : Int))) :: (ys ++ List.replicate m none)) = some (.nx ρ') ∧ Slots [some s, some (.dat (.int (k : Int)))] n m ρ') :
    ∃ ρ', seqS (sFor fi (tgN 1) body) fin (some s :: List.replicate (n + m + 1) none) = some (.rt (.dat (.bl true)) ρ') := by
  have e0 : List.replicate (n + m + 1) none = (none : Option SV) :: (List.replicate n none ++ List.replicate m none) := by
    rw [List.replicate_append_replicate, List.replicate_succ]
  rw [e0]
  obtain ⟨ρ1, e1, y, ys, hy, rfl⟩ := cells_ok (s := s) c step none (List.replicate n none) (List.length_replicate ..)
  refine seq_rt (ρ1 := [some s, y] ++ (ys ++ List.replicate m none)) ?_ (hfin y ys hy)
  rw [ev_for, ev_bindS, hfi]
  exact e1
/-- a cell: a box, then turns -/
theorem cell_ok {s sk : Option SV} {n m : Nat} {body : DS} {fb : DE} {fi : Ef Wk} {ds : List D}
    (hb : ∀ ys : Sl, ∃ a b c, fb (s :: sk :: ys) = some (.ok (.own (.lst [.int a, .int b, .int c])) (s :: sk :: ys)))
    (hfi : ∀ ys : Sl, fi (s :: sk :: ys) = some (.ok (ds, []) (s :: sk :: ys)))
    (step : ∀ (d : D) (a b c : Int) (ys : Sl), d ∈ ds → ys.length = n → ∃ ρ', body (s :: sk :: bx a b c :: some (.dat d) :: (ys ++ List.replicate m none)) = some (.nx ρ') ∧ ∃ a' b' c', Slots [s, sk, bx a' b' c', some (.dat d)] n m ρ')
    (ys : Sl) (hy : ys.length = n + 2) :
    ∃ ρ', seqS (sSet 2 1 fb) (sFor fi (tgN 3) body) (s :: sk :: (ys ++ List.replicate m none)) = some (.nx ρ') ∧ Slots [s, sk] (n + 2) m ρ' := by
  obtain ⟨a, b, c, e⟩ := hb (ys ++ List.replicate m none)
  match ys, hy with
  | y2 :: y3 :: ys, hy =>
    have hy' : ys.length = n := by simpa using hy
    obtain ⟨ρ1, e1, a', b', c', y', zs, hz, rfl⟩ := turns_ok (pre := [s, sk]) (n := n) (m := m) (i := 3) (body := body) ds rfl (by
      intro d a b c ys hd hy
      exact step d a b c ys hd hy) a b c y3 ys hy'
    refine seq_ex (ρ1 := s :: sk :: bx a b c :: y3 :: (ys ++ List.replicate m none)) ?_ ⟨[s, sk] ++ [bx a' b' c', y'] ++ (zs ++ List.replicate m none), ?_, bx a' b' c' :: y' :: zs, by simp [hz], by simp⟩
    · rw [ev_sSet, ev_bindS, e]
      rfl
    · rw [ev_for, ev_bindS, hfi]
      exact e1
/-- how many cells -/
theorem cells_fi (mt : Nat → Option DE) (j : Nat) (ns : List Int) (h : ns.length ≤ 63) (hj : j ≤ 10) (ys : Sl) :
    dRange1 (dCall (on2 hMax2) (dCons (retE (.dat (.int 1))) (dCons (dCall (on2 hMin2) (dCons (retE (.dat (.int (j : Int)))) (dCons (dCall (gLenX mt) (dCons (dVar 0) dNil)) dNil))) dNil))) (some (.dat (.wri (ns.map D.int))) :: ys) =
      some (.ok (rangeL 0 (max 1 (min j ns.length)), []) (some (.dat (.wri (ns.map D.int))) :: ys)) := by
  have e : (if (if (ns.length : Int) < (j : Int) then (ns.length : Int) else (j : Int)) > 1 then (if (ns.length : Int) < (j : Int) then (ns.length : Int) else (j : Int)) else 1) = ((max 1 (min j ns.length) : Nat) : Int) := by
    split <;> split <;> omega
  have l : ((max 1 (min j ns.length) : Nat) : Int).natAbs ≤ 100000 := by omega
  simp only [ev_range1, ev_dCall, ev_dCons, ev_bind, ev_ret, ev_dNil, ev_var]
  simp only [List.getElem?_cons_zero]
  simp only [gLenX, clsOf_wri, ev_on1, see_dat, hLen_wri, ev_on2, hMin2_int, hMax2_int, List.length_map]
  rw [e]
  simp only [if_pos l, Int.toNat_natCast]
theorem cells_fi' (j : Nat) (ns : List Int) (h : ns.length ≤ 63) (hj : j ≤ 10) (ys : Sl) :
    dRange1 (dCall (on2 hMax2) (dCons (retE (.dat (.int 1))) (dCons (dCall (on2 hMin2) (dCons (retE (.dat (.int (j : Int)))) (dCons (dCall (on1 hLen) (dCons (dVar 0) dNil)) dNil))) dNil))) (some (.dat (.wri (ns.map D.int))) :: ys) =
      some (.ok (rangeL 0 (max 1 (min j ns.length)), []) (some (.dat (.wri (ns.map D.int))) :: ys)) := by
  have := cells_fi (fun _ => none) j ns h hj ys
  exact this
theorem turns_fi (T : Nat) (h : T ≤ 1000) (ρ : Sl) : dRange1 (retE (.dat (.int (T : Int)))) ρ = some (.ok (rangeL 0 T, []) ρ) := by
  have : T ≤ 100000 := by omega
  simp [this]
theorem box_call (ns : List Int) (k : Nat) (hk : k ≤ 63) (ys : Sl) : ∃ a b c, dFn F__law_box (dCons (dLend (dVar 0)) (dCons (dLend (dVar 1)) dNil)) (some (.dat (.wri (ns.map D.int))) :: some (.dat (.int (k : Int))) :: ys) =
    some (.ok (.own (.lst [.int a, .int b, .int c])) (some (.dat (.wri (ns.map D.int))) :: some (.dat (.int (k : Int))) :: ys)) := by
  obtain ⟨a, b, c, e⟩ := box_ok ns k hk
  exact ⟨a, b, c, by simp [e]⟩
end Sh
set_option Elab.async false
set_option linter.all false
set_option maxRecDepth 100000
set_option maxHeartbeats 4000000
/-! Texts among texts; pairs of texts; rows of names. -/
namespace Sh
open PySem PySem.Spec PyProof.Rows L2 Tk Pl
/-- short texts -/
def shortS (x : Str) : Bool := PyData.strOk x && decide (x.length ≤ 100)
def pairS (p : Str × Str) : D := .tup [.str p.1, .str p.2]
theorem canLay_strs : ∀ {l : List Str}, (∀ x ∈ l, shortS x = true) → PyData.canLayAll0 (D.pys (l.map D.str)) = true ∧ PyData.depthAll (D.pys (l.map D.str)) = 0 ∧ D.arePy (l.map D.str) = true
  | [], _ => ⟨rfl, rfl, rfl⟩
  | x :: l, h => by
    obtain ⟨a, b, c⟩ := canLay_strs fun y hy => h y (List.mem_cons_of_mem _ hy)
    have hx := h x List.mem_cons_self
    unfold shortS at hx
    rw [Bool.and_eq_true] at hx
    simp only [List.map_cons, D.pys, D.arePy]
    exact ⟨by rw [PyData.canLayAll0, a]; simpa [D.py, PyData.canLay0] using hx.1, by rw [PyData.depthAll, b]; rfl, by rw [c]; rfl⟩
theorem plain_str {x : Str} (h : shortS x = true) : (D.str x).plain = true := by
  unfold shortS at h
  rw [Bool.and_eq_true] at h
  unfold D.plain SeqAt.shaped
  simp [D.isPy, D.py, PyData.canLay0, PyData.depth, h.1]
theorem any_strs (x : Str) (l : List Str) : (l.map D.str).any (fun d => PyData.eqv d.py (D.str x).py) = decide (x ∈ l) := by
  rw [Bool.eq_iff_iff, List.any_map, List.any_eq_true, decide_eq_true_eq]
  constructor
  · rintro ⟨y, hy, e⟩
    have : D.str y = D.str x := (eqv_pure (.str y) (.str x) rfl rfl).mp e
    injection this with this
    exact this ▸ hy
  · intro h
    exact ⟨x, h, (eqv_pure (.str x) (.str x) rfl rfl).mpr rfl⟩
theorem in_lst {x : Str} {l : List Str} (hx : shortS x = true) (hl : ∀ y ∈ l, shortS y = true) : dIn (.str x) (.lst (l.map D.str)) = some (decide (x ∈ l)) := by
  obtain ⟨a, b, c⟩ := canLay_strs hl
  have p : (D.lst (l.map D.str)).plain = true := by
    unfold D.plain SeqAt.shaped
    simp [D.isPy, D.py, PyData.canLay0, PyData.depth, a, b, c]
  unfold dIn
  simp only [seqD, plain_str hx, p, Bool.and_self, if_true, any_strs]
theorem in_tup {x : Str} {l : List Str} (hx : shortS x = true) (hl : ∀ y ∈ l, shortS y = true) : dIn (.str x) (.tup (l.map D.str)) = some (decide (x ∈ l)) := by
  obtain ⟨a, b, c⟩ := canLay_strs hl
  have p : (D.tup (l.map D.str)).plain = true := by
    unfold D.plain SeqAt.shaped
    simp [D.isPy, D.py, PyData.canLay0, PyData.depth, a, b, c]
  unfold dIn
  simp only [seqD, plain_str hx, p, Bool.and_self, if_true, any_strs]
/-! ### pairs -/
def shortP (p : Str × Str) : Bool := shortS p.1 && shortS p.2
theorem pair_py {p : Str × Str} (h : shortP p = true) : (pairS p).isPy = true ∧ (pairS p).py.canLay0 = true ∧ (pairS p).py.depth = 1 := by
  unfold shortP at h
  rw [Bool.and_eq_true] at h
  obtain ⟨a, b, c⟩ := canLay_strs (l := [p.1, p.2]) (by simp [h.1, h.2])
  exact ⟨c, by show PyData.canLayAll0 _ = true; exact a, by show PyData.depthAll _ + 1 = 1; rw [show PyData.depthAll (D.pys [D.str p.1, D.str p.2]) = 0 from b]⟩
theorem pairs_py : ∀ {l : List (Str × Str)}, (∀ p ∈ l, shortP p = true) → PyData.canLayAll0 (D.pys (l.map pairS)) = true ∧ PyData.depthAll (D.pys (l.map pairS)) ≤ 1 ∧ D.arePy (l.map pairS) = true
  | [], _ => ⟨rfl, Nat.zero_le _, rfl⟩
  | p :: l, h => by
    obtain ⟨a, b, c⟩ := pairs_py fun y hy => h y (List.mem_cons_of_mem _ hy)
    obtain ⟨x, y, z⟩ := pair_py (h p List.mem_cons_self)
    simp only [List.map_cons, D.pys, D.arePy]
    exact ⟨by rw [PyData.canLayAll0, a, y]; rfl, by rw [PyData.depthAll, z]; omega, by rw [c, x]; rfl⟩
theorem pairS_inj {p q : Str × Str} (h : pairS p = pairS q) : p = q := by
  obtain ⟨a, b⟩ := p
  obtain ⟨c, d⟩ := q
  unfold pairS at h
  simp at h
  rw [h.1, h.2]
theorem any_pairs (p : Str × Str) (l : List (Str × Str)) : (l.map pairS).any (fun d => PyData.eqv d.py (pairS p).py) = decide (p ∈ l) := by
  rw [Bool.eq_iff_iff, List.any_map, List.any_eq_true, decide_eq_true_eq]
  constructor
  · rintro ⟨y, hy, e⟩
    exact pairS_inj ((eqv_pure (pairS y) (pairS p) rfl rfl).mp e) ▸ hy
  · intro h
    exact ⟨p, h, (eqv_pure (pairS p) (pairS p) rfl rfl).mpr rfl⟩
theorem plain_pair {p : Str × Str} (h : shortP p = true) : (pairS p).plain = true := by
  obtain ⟨a, b, c⟩ := pair_py h
  unfold D.plain SeqAt.shaped
  simp [a, b, c]
theorem in_pairs {p : Str × Str} {l : List (Str × Str)} (hp : shortP p = true) (hl : ∀ q ∈ l, shortP q = true) : dIn (pairS p) (.lst (l.map pairS)) = some (decide (p ∈ l)) := by
  obtain ⟨a, b, c⟩ := pairs_py hl
  have pl : (D.lst (l.map pairS)).plain = true := by
    unfold D.plain SeqAt.shaped
    simp [D.isPy, D.py, PyData.canLay0, PyData.depth, a, c]
    omega
  have e : dIn (pairS p) (.lst (l.map pairS)) = if (pairS p).plain && (D.lst (l.map pairS)).plain then some ((l.map pairS).any fun d => PyData.eqv d.py (pairS p).py) else none := rfl
  rw [e, plain_pair hp, pl, any_pairs]
  rfl
end Sh
set_option Elab.async false
set_option linter.all false
set_option maxRecDepth 100000
set_option maxHeartbeats 4000000
/-! Books: names, what can come behind, rows, rings. -/
namespace Sh
open PySem PySem.Spec PyProof.Rows L2 Tk Pl
def tpD (p : Str × D) : D := .tup [.str p.1, p.2]
def bookD (tps : List (Str × D)) (st : List (Str × Str)) : D := .obj 11 [.tup (tps.map tpD), .tup (st.map pairS)]
abbrev namesOf (tps : List (Str × D)) : List Str := tps.map (·.1)
def fst0 : D → D
  | .tup (x :: _) => x
  | _ => .non
theorem fst0_tp (tps : List (Str × D)) : (tps.map tpD).map fst0 = (namesOf tps).map D.str := by
  rw [List.map_map, List.map_map]
  rfl
/-- names, texts short -/
structure BookOk (tps : List (Str × D)) (st : List (Str × Str)) : Prop where
  few : tps.length ≤ 100
  fewS : st.length ≤ 1000
  short : ∀ x ∈ namesOf tps, shortS x = true
  steps : ∀ p ∈ st, p.1 ∈ namesOf tps ∧ p.2 ∈ namesOf tps
theorem BookOk.shortP {tps : List (Str × D)} {st : List (Str × Str)} (b : BookOk tps st) : ∀ p ∈ st, shortP p = true := fun p hp => by
  obtain ⟨h1, h2⟩ := b.steps p hp
  unfold Sh.shortP
  rw [b.short _ h1, b.short _ h2]
  rfl
theorem names_ok {tps : List (Str × D)} {st : List (Str × Str)} (b : BookOk tps st) : F_Book_names [some (.dat (bookD tps st))] = some (.ok (.dat (.tup ((namesOf tps).map D.str))) [none]) := by
  have few := b.few
  have lp := loopC_map (i := 1) (fe := froze (dBin gIx (dVar 1) (retE (.dat (.int 0))))) fst0 (ρ := [some (.dat (bookD tps st)), none]) (fun x => rfl) (tps.map tpD) [] (by
    intro d hd
    obtain ⟨p, hp, rfl⟩ := List.mem_map.mp hd
    simp [tpD, fst0]) (by simp; omega)
  rw [fst0_tp] at lp
  unfold bookD at lp ⊢
  simp [F_Book_names, g_Book_names, objFld, lp]
@[simp] theorem fld_talks (a b : D) : objFld att "talks" (.obj 11 [a, b]) = some a := by simp [objFld]
@[simp] theorem fld_steps (a b : D) : objFld att "steps" (.obj 11 [a, b]) = some b := by
  simp only [objFld, att_B]
  rfl
@[simp] theorem mt_names_11 : mt_names_B 11 = some F_Book_names := rfl
@[simp] theorem mt_behind_11 : mt_behind_B 11 = some F_Book_behind := rfl
theorem check_name_ok {tps : List (Str × D)} {st : List (Str × Str)} (b : BookOk tps st) {x : Str} (hx : x ∈ namesOf tps) : F_check_name [some (.dat (bookD tps st)), some (.dat (.str x))] = some (.ok (.dat .non) [none, none]) := by
  have n := names_ok b
  have i := in_tup (b.short x hx) b.short
  rw [decide_eq_true hx] at i
  unfold bookD at n ⊢
  generalize (namesOf tps).map D.str = ns at n i
  simp [F_check_name, g_check_name, n, i]
/-- the names behind x -/
def behindL (st : List (Str × Str)) (x : Str) : List Str := (st.filter fun p => decide (p.1 = x)).map (·.2)
theorem behind_loop {tps : List (Str × D)} {st : List (Str × Str)} {x : Str} (hl : st.length ≤ 1000) (B : D) : loopC [2, 3] (tgT [2, 3]) (asB (dBin gEq (dVar 2) (dVar 1))) (froze (dVar 3)) (st.map pairS) [] [some (.dat B), some (.dat (.str x)), none, none] =
    some (.ok (.own (.lst ((behindL st x).map D.str))) [some (.dat B), some (.dat (.str x)), none, none]) := by
  have go : ∀ (st : List (Str × Str)) (acc : List D), acc.length + st.length ≤ 10000 → loopC [2, 3] (tgT [2, 3]) (asB (dBin gEq (dVar 2) (dVar 1))) (froze (dVar 3)) (st.map pairS) acc [some (.dat B), some (.dat (.str x)), none, none] =
      some (.ok (.own (.lst (acc ++ (behindL st x).map D.str))) [some (.dat B), some (.dat (.str x)), none, none]) := by
    intro st
    induction st with
    | nil => intro acc _; simp [behindL]
    | cons p st ih =>
      intro acc hl
      have hl : acc.length + (st.length + 1) ≤ 10000 := hl
      have la : acc.length < 10000 := by omega
      rw [List.map_cons, ev_loopC_cons]
      by_cases e : p.1 = x
      · have ih2 := ih (acc ++ [.str p.2]) (by simp; omega)
        have eb : behindL (p :: st) x = p.2 :: behindL st x := by simp [behindL, List.filter_cons, e]
        rw [eb]
        simp [pairS, e, la, ih2]
      · have ih2 := ih acc (by omega)
        have eb : behindL (p :: st) x = behindL st x := by simp [behindL, List.filter_cons, e]
        rw [eb]
        simp [pairS, e, ih2]
  have := go st [] (by simp; omega)
  simpa using this
theorem behind_ok {tps : List (Str × D)} {st : List (Str × Str)} (b : BookOk tps st) {x : Str} (hx : x ∈ namesOf tps) : F_Book_behind [some (.dat (bookD tps st)), some (.dat (.str x))] = some (.ok (.dat (.tup ((behindL st x).map D.str))) [none, none]) := by
  have c := check_name_ok b hx
  have lp := behind_loop (tps := tps) (x := x) b.fewS (bookD tps st)
  unfold bookD at c lp ⊢
  generalize (behindL st x).map D.str = ns at lp ⊢
  simp [F_Book_behind, g_Book_behind, c, lp]
theorem mem_behind {st : List (Str × Str)} {x y : Str} : y ∈ behindL st x ↔ (x, y) ∈ st := by
  unfold behindL
  rw [List.mem_map]
  constructor
  · rintro ⟨⟨a, b⟩, h, rfl⟩
    rw [List.mem_filter, decide_eq_true_eq] at h
    obtain ⟨h1, h2⟩ := h
    have h2 : a = x := h2
    exact h2 ▸ h1
  · intro h
    exact ⟨(x, y), List.mem_filter.mpr ⟨h, decide_eq_true rfl⟩, rfl⟩
theorem in_behind {tps : List (Str × D)} {st : List (Str × Str)} (b : BookOk tps st) {x y : Str} (hy : shortS y = true) : dIn (.str y) (.tup ((behindL st x).map D.str)) = some (decide ((x, y) ∈ st)) := by
  rw [in_tup hy fun z hz => b.short z (b.steps _ (mem_behind.mp hz)).2]
  exact congrArg some (decide_eq_decide.mpr mem_behind)
/-- a loop that may hand back -/
theorem loopS_upto {tg : D → Sl → Option Sl} {body : DS} (ds : List D) (I : Nat → Sl → Prop) (R : Nat → RV → Sl → Prop)
    (step : ∀ i d ρ, ds[i]? = some d → I i ρ → ∃ ρ1, tg d ρ = some ρ1 ∧ ((∃ ρ2, body ρ1 = some (.nx ρ2) ∧ I (i + 1) ρ2) ∨ ∃ r ρ2, body ρ1 = some (.rt r ρ2) ∧ R i r ρ2)) {ρ : Sl} (h : I 0 ρ) :
    (∃ ρ', loopS tg body ds ρ = some (.nx ρ') ∧ I ds.length ρ') ∨ ∃ i r ρ', loopS tg body ds ρ = some (.rt r ρ') ∧ R i r ρ' ∧ i < ds.length := by
  have go : ∀ (k i : Nat) (ρ : Sl), i + k = ds.length → I i ρ → (∃ ρ', loopS tg body (ds.drop i) ρ = some (.nx ρ') ∧ I ds.length ρ') ∨ ∃ j r ρ', loopS tg body (ds.drop i) ρ = some (.rt r ρ') ∧ R j r ρ' ∧ j < ds.length := by
    intro k
    induction k with
    | zero =>
      intro i ρ e h
      obtain rfl : i = ds.length := by omega
      rw [List.drop_length]
      exact .inl ⟨ρ, rfl, h⟩
    | succ k ih =>
      intro i ρ e h
      have lt : i < ds.length := by omega
      rw [List.drop_eq_getElem_cons lt, ev_loopS_cons]
      obtain ⟨ρ1, h1, h2⟩ := step i _ ρ (List.getElem?_eq_getElem lt) h
      rw [h1]
      dsimp only
      rcases h2 with ⟨ρ2, h2, h3⟩ | ⟨r, ρ2, h2, h3⟩
      · rw [h2]
        exact ih (i + 1) ρ2 (by omega) h3
      · rw [h2]
        exact .inr ⟨i, r, ρ2, rfl, h3, lt⟩
  have := go ds.length 0 ρ (by omega) h
  rwa [List.drop_zero] at this
/-- a row of names -/
def Fit (ns : List Str) (st : List (Str × Str)) (row : List Str) : Prop := ∀ i x, row[i]? = some x → x ∈ ns ∧ ∀ y, 0 < i → row[i - 1]? = some y → (y, x) ∈ st
noncomputable instance (ns : List Str) (st : List (Str × Str)) (row : List Str) : Decidable (Fit ns st row) := Classical.propDecidable _
theorem atI_str {l : List Str} {i : Nat} {x : Str} (h : l[i]? = some x) : atI (l.map D.str) (i : Int) = some (.str x) := atI_nat (by rw [List.getElem?_map, h]; rfl)
theorem atI_pred {l : List Str} {i : Nat} {x : Str} (h0 : 0 < i) (h : l[i - 1]? = some x) : atI (l.map D.str) ((i : Int) - 1) = some (.str x) := by
  have e : ((i : Int) - 1) = ((i - 1 : Nat) : Int) := by omega
  rw [e]
  exact atI_str h
theorem first_wrong_name_ok {tps : List (Str × D)} {st : List (Str × Str)} (b : BookOk tps st) {s : SV} {row : List Str} (hs : Sees s (row.map D.str)) (sh : ∀ x ∈ row, shortS x = true) :
    ∃ d, F_first_wrong_name [some (.dat (bookD tps st)), some s] = some (.ok (.dat d) [none, none]) ∧ (Fit (namesOf tps) st row → d = .non) ∧ (¬ Fit (namesOf tps) st row → ∃ i : Nat, d = .int i) := by
  have nm := names_ok b
  have sq := is_sequence_ok hs
  have body : ∀ s' : SV, Sees s' (row.map D.str) → ∀ (i : Nat) (x : Str), row[i]? = some x → (∀ j y, j < i → row[j]? = some y → y ∈ namesOf tps) →
      (x ∈ namesOf tps ∧ (∀ y, 0 < i → row[i - 1]? = some y → (y, x) ∈ st) ∧ b_first_wrong_name_1 [some (.dat (bookD tps st)), some s', some (.dat (.int i)), some (.dat (.str x))] = some (.nx [some (.dat (bookD tps st)), some s', some (.dat (.int i)), some (.dat (.str x))])) ∨
      (¬ (x ∈ namesOf tps ∧ ∀ y, 0 < i → row[i - 1]? = some y → (y, x) ∈ st) ∧ b_first_wrong_name_1 [some (.dat (bookD tps st)), some s', some (.dat (.int i)), some (.dat (.str x))] = some (.rt (.dat (.int i)) [some (.dat (bookD tps st)), some s', some (.dat (.int i)), some (.dat (.str x))])) := by
    intro s' hs' i x hx before
    have ix := in_tup (sh x (List.mem_of_getElem? hx)) b.short
    by_cases m : x ∈ namesOf tps
    · rw [decide_eq_true m] at ix
      by_cases h0 : 0 < i
      · have il : i - 1 < row.length := by have := (List.getElem?_eq_some_iff.mp hx).1; omega
        have ey : row[i - 1]? = some row[i - 1] := List.getElem?_eq_getElem il
        generalize row[i - 1] = y at ey
        have my := before (i - 1) y (by omega) ey
        have bh := behind_ok b my
        have ib := in_behind b (x := y) (sh x (List.mem_of_getElem? hx))
        have at1 := atI_pred h0 ey
        by_cases c : (y, x) ∈ st
        · refine .inl ⟨m, fun z _ ez => by rw [ey] at ez; cases ez; exact c, ?_⟩
          rw [decide_eq_true c] at ib
          unfold bookD at nm bh ⊢
          generalize (namesOf tps).map D.str = ns at nm ix
          generalize (behindL st y).map D.str = bs at bh ib
          generalize row.map D.str = rs at hs' at1
          cases hs' <;> simp [b_first_wrong_name_1, nm, ix, bh, ib, at1, h0, MO.see]
        · refine .inr ⟨fun z => c (z.2 y h0 ey), ?_⟩
          rw [decide_eq_false c] at ib
          unfold bookD at nm bh ⊢
          generalize (namesOf tps).map D.str = ns at nm ix
          generalize (behindL st y).map D.str = bs at bh ib
          generalize row.map D.str = rs at hs' at1
          cases hs' <;> simp [b_first_wrong_name_1, nm, ix, bh, ib, at1, h0, MO.see]
      · refine .inl ⟨m, fun y h => absurd h h0, ?_⟩
        obtain rfl : i = 0 := by omega
        unfold bookD at nm ⊢
        generalize (namesOf tps).map D.str = ns at nm ix
        simp [b_first_wrong_name_1, nm, ix]
    · refine .inr ⟨fun z => m z.1, ?_⟩
      rw [decide_eq_false m] at ix
      unfold bookD at nm ⊢
      generalize (namesOf tps).map D.str = ns at nm ix
      simp [b_first_wrong_name_1, nm, ix]
  have lp : ∀ s' : SV, Sees s' (row.map D.str) → (∃ x y, loopS (tgT [2, 3]) b_first_wrong_name_1 (enumL (row.map D.str)) [some (.dat (bookD tps st)), some s', none, none] = some (.nx [some (.dat (bookD tps st)), some s', x, y]) ∧ Fit (namesOf tps) st row) ∨
      ∃ (i : Nat) (x y : Option SV), loopS (tgT [2, 3]) b_first_wrong_name_1 (enumL (row.map D.str)) [some (.dat (bookD tps st)), some s', none, none] = some (.rt (.dat (.int i)) [some (.dat (bookD tps st)), some s', x, y]) ∧ ¬ Fit (namesOf tps) st row := by
    intro s' hs'
    have := loopS_upto (tg := tgT [2, 3]) (body := b_first_wrong_name_1) (enumL (row.map D.str)) (fun i ρ => (∃ x y, ρ = [some (.dat (bookD tps st)), some s', x, y]) ∧ ∀ j x, j < i → row[j]? = some x → x ∈ namesOf tps ∧ ∀ y, 0 < j → row[j - 1]? = some y → (y, x) ∈ st)
      (fun i r ρ => (∃ x y, ρ = [some (.dat (bookD tps st)), some s', x, y]) ∧ r = .dat (.int (i : Nat)) ∧ ¬ Fit (namesOf tps) st row) (by
      rintro i d ρ hd ⟨⟨x0, y0, rfl⟩, before⟩
      have hi : i < row.length := by
        have := (List.getElem?_eq_some_iff.mp hd).1
        rwa [enumL_length, List.length_map] at this
      have ex : row[i]? = some row[i] := List.getElem?_eq_getElem hi
      generalize row[i] = x at ex
      rw [enumL_at (d := .str x) (by rw [List.getElem?_map, ex]; rfl)] at hd
      cases hd
      refine ⟨[some (.dat (bookD tps st)), some s', some (.dat (.int (i : Int))), some (.dat (.str x))], rfl, ?_⟩
      rcases body s' hs' i x ex (fun j y hj hy => (before j y hj hy).1) with ⟨h1, h2, h3⟩ | ⟨h1, h2⟩
      · refine .inl ⟨_, h3, ⟨_, _, rfl⟩, fun j y hj hy => ?_⟩
        by_cases e : j = i
        · subst e
          rw [ex] at hy
          cases hy
          exact ⟨h1, h2⟩
        · exact before j y (by omega) hy
      · exact .inr ⟨_, _, h2, ⟨_, _, rfl⟩, rfl, fun f => h1 (f i x ex)⟩) (ρ := [some (.dat (bookD tps st)), some s', none, none]) ⟨⟨none, none, rfl⟩, fun j x h => by omega⟩
    rcases this with ⟨ρ', e, ⟨x, y, rfl⟩, all⟩ | ⟨i, r, ρ', e, ⟨⟨x, y, rfl⟩, rfl, nf⟩, _⟩
    · refine .inl ⟨x, y, e, fun i x hx => all i x ?_ hx⟩
      rw [enumL_length, List.length_map]
      exact (List.getElem?_eq_some_iff.mp hx).1
    · exact .inr ⟨i, x, y, e, nf⟩
  generalize hB : bookD tps st = B at nm body lp
  cases hs with
  | lst =>
    rcases lp _ (.lst (row.map D.str)) with ⟨x, y, e, f⟩ | ⟨i, x, y, e, f⟩
    · exact ⟨.non, by generalize row.map D.str = rs at e sq; simp [F_first_wrong_name, g_first_wrong_name, sq, e], fun _ => rfl, fun n => absurd f n⟩
    · exact ⟨.int i, by generalize row.map D.str = rs at e sq; simp [F_first_wrong_name, g_first_wrong_name, sq, e], fun n => absurd n f, fun _ => ⟨i, rfl⟩⟩
  | tup =>
    rcases lp _ (.tup (row.map D.str)) with ⟨x, y, e, f⟩ | ⟨i, x, y, e, f⟩
    · exact ⟨.non, by generalize row.map D.str = rs at e sq; simp [F_first_wrong_name, g_first_wrong_name, sq, e], fun _ => rfl, fun n => absurd f n⟩
    · exact ⟨.int i, by generalize row.map D.str = rs at e sq; simp [F_first_wrong_name, g_first_wrong_name, sq, e], fun n => absurd n f, fun _ => ⟨i, rfl⟩⟩
  | lck =>
    rcases lp _ (.lck (row.map D.str)) with ⟨x, y, e, f⟩ | ⟨i, x, y, e, f⟩
    · exact ⟨.non, by generalize row.map D.str = rs at e sq; simp [F_first_wrong_name, g_first_wrong_name, sq, e, MO.see], fun _ => rfl, fun n => absurd f n⟩
    · exact ⟨.int i, by generalize row.map D.str = rs at e sq; simp [F_first_wrong_name, g_first_wrong_name, sq, e, MO.see], fun n => absurd n f, fun _ => ⟨i, rfl⟩⟩
end Sh
set_option Elab.async false
set_option linter.all false
set_option maxRecDepth 100000
set_option maxHeartbeats 4000000
/-! What the laws of books draw. -/
namespace Sh
open PySem PySem.Spec PyProof.Rows L2 Tk Pl
theorem box2_ok (ns : List Int) (k : Nat) (o : Nat) (hk : k ≤ 63) (ho : o ≤ 1000) : ∃ a b c, F__law_box_v2 [some (.dat (.wri (ns.map D.int))), some (.dat (.int k)), some (.dat (.int (o : Nat)))] = some (.ok (.own (.lst [.int a, .int b, .int c])) [none, none, none]) := by
  by_cases h1 : k < ns.length
  · have e : atI (ns.map D.int) (k : Int) = some (.int ns[k]) := by
      apply atI_nat
      simp [h1]
    have h1' : (k : Int) < (ns.length : Int) := by omega
    obtain ⟨cell, hcell⟩ : ∃ x, x = (if ns[k] < 0 then -ns[k] else ns[k]) := ⟨_, rfl⟩
    by_cases hc : 1000000000000000000 ≤ cell
    · refine ⟨cell, (cell % 2147483629 * 48271 + 40692 * (k + 11 * o)) % 2147483629 + 1, 0, ?_⟩
      simp [F__law_box_v2, g__law_box_v2, cMul_left, cMul_right, h1, e, cPow, ← hcell, hc]
    · refine ⟨0, (cell % 2147483629 * 48271 + 40692 * (k + 11 * o)) % 2147483629 + 1, 0, ?_⟩
      simp [F__law_box_v2, g__law_box_v2, cMul_left, cMul_right, h1, e, cPow, ← hcell, hc]
  · by_cases h2 : 0 < ns.length
    · have hp : (0 : Int) < (ns.length : Int) := by omega
      have lt : k % ns.length < ns.length := Nat.mod_lt _ h2
      have e : atI (ns.map D.int) ((k : Int) % (ns.length : Int)) = some (.int ns[k % ns.length]) := by
        rw [← Int.natCast_emod]
        apply atI_nat
        simp [lt]
      obtain ⟨cell, hcell⟩ : ∃ x, x = 9001 * (k : Int) + 104827 * o + 89 + (if ns[k % ns.length] < 0 then -ns[k % ns.length] else ns[k % ns.length]) % 2147483629 * 69827 := ⟨_, rfl⟩
      by_cases hc : 1000000000000000000 ≤ cell
      · refine ⟨cell, (cell % 2147483629 * 48271 + 40692 * (k + 11 * o)) % 2147483629 + 1, 0, ?_⟩
        simp [F__law_box_v2, g__law_box_v2, cMul_left, cMul_right, h1, h2, hp, e, cPow, ← hcell, hc]
      · refine ⟨0, (cell % 2147483629 * 48271 + 40692 * (k + 11 * o)) % 2147483629 + 1, 0, ?_⟩
        simp [F__law_box_v2, g__law_box_v2, cMul_left, cMul_right, h1, h2, hp, e, cPow, ← hcell, hc]
    · obtain ⟨cell, hcell⟩ : ∃ x, x = 9001 * (k : Int) + 104827 * o + 89 := ⟨_, rfl⟩
      by_cases hc : 1000000000000000000 ≤ cell
      · refine ⟨cell, (cell % 2147483629 * 48271 + 40692 * (k + 11 * o)) % 2147483629 + 1, 0, ?_⟩
        simp [F__law_box_v2, g__law_box_v2, cMul_left, cMul_right, h1, h2, cPow, ← hcell, hc]
      · refine ⟨0, (cell % 2147483629 * 48271 + 40692 * (k + 11 * o)) % 2147483629 + 1, 0, ?_⟩
        simp [F__law_box_v2, g__law_box_v2, cMul_left, cMul_right, h1, h2, cPow, ← hcell, hc]
theorem take2_ok (a b c m : Int) (h0 : 0 < m) (h1 : m < 2 ^ 40) : ∃ (d : Nat) (a' b' c' : Int), (d : Int) < m ∧ F__law_take_v2 [bx a b c, some (.dat (.int m))] = some (.ok (.dat (.int d)) [bx a' b' c', none]) := by
  have hd : ∀ x, cDiv x m = true := fun x => cDiv_ok h0 (by omega)
  have go : ∃ d a' b' c', 0 ≤ d ∧ d < m ∧ F__law_take_v2 [bx a b c, some (.dat (.int m))] = some (.ok (.dat (.int d)) [bx a' b' c', none]) := by
    by_cases ha : 0 < a
    · refine ⟨a % m, a / m, b, c, Int.emod_nonneg _ (by omega), Int.emod_lt_of_pos _ h0, ?_⟩
      simp [F__law_take_v2, g__law_take_v2, bx, ha, h0, hd]
    · obtain ⟨raw, hraw⟩ : ∃ x, x = (b + 104729 * (c + 1)) * 69827 % 2147483647 := ⟨_, rfl⟩
      obtain ⟨sd, hsd⟩ : ∃ x, x = (raw * 48271 + 30103) % 2147483629 + 1 := ⟨_, rfl⟩
      have h2 : m < 1099511627776 := by omega
      refine ⟨(raw * 2147483647 + sd) / 8191 % m, a, sd, c + 1, Int.emod_nonneg _ (by omega), Int.emod_lt_of_pos _ h0, ?_⟩
      simp [F__law_take_v2, g__law_take_v2, bx, ha, h0, hd, cMul_left, cMul_right, cDiv_ok, cPow, h2, ← hraw, ← hsd]
  obtain ⟨d, a', b', c', d0, d1, e⟩ := go
  obtain ⟨n, rfl⟩ := Int.eq_ofNat_of_zero_le d0
  exact ⟨n, a', b', c', d1, e⟩
theorem pick2_ok (a b c : Int) (l : List D) (h0 : 0 < l.length) (h1 : l.length ≤ 10000) : ∃ x a' b' c', x ∈ l ∧ F__law_pick_v2 [bx a b c, some (.dat (.lst l))] = some (.ok (.dat x) [bx a' b' c', none]) := by
  obtain ⟨d, a', b', c', d1, e⟩ := take2_ok a b c l.length (by omega) (by omega)
  have hl : d < l.length := by omega
  refine ⟨l[d], a', b', c', List.getElem_mem hl, ?_⟩
  have at1 : atI l (d : Int) = some l[d] := atI_nat (List.getElem?_eq_getElem hl)
  unfold bx at e ⊢
  simp [F__law_pick_v2, g__law_pick_v2, e, at1]
theorem seqIndex_nat {k n : Nat} (h : k < n) : seqIndex? (k : Int) n = some k := by
  unfold seqIndex?
  have h1 : ¬ ((k : Int) < 0) := by omega
  simp [h1]
  omega
@[simp] theorem ev_popAt (r r' : RV) (ρ : Sl) : gPopAt r [r'] ρ = (match ownL r ρ with
  | some (i, l) => match r'.see ρ with
    | some (.int k) => if k.natAbs ≤ 100000 then match seqIndex? k l.length with
      | some j => match l[j]? with
        | some d => some (.ok (.dat d) (ρ.set i (some (.own (.lst (l.eraseIdx j))))))
        | none => none
      | none => none
      else none
    | _ => none
  | _ => none) := by
  unfold gPopAt
  cases ownL r ρ <;> rfl
theorem cons_erase {α : Type} {l : List α} {k : Nat} (h : k < l.length) : (l[k] :: l.eraseIdx k).Perm l := by
  rw [List.eraseIdx_eq_take_drop_succ]
  have e : l = l.take k ++ l[k] :: l.drop (k + 1) := by
    rw [← List.drop_eq_getElem_cons h, List.take_append_drop]
  exact List.Perm.trans List.perm_middle.symm (.of_eq e.symm)
/-- _law_mixed: the same ones in any order -/
theorem mixed_ok (a b c : Int) {s : SV} (l : List D) (hs : Sees s l) (hl : l.length ≤ 1000) : ∃ (l' : List D) (a' b' c' : Int), l'.Perm l ∧ F__law_mixed [bx a b c, some s] = some (.ok (.own (.lst l')) [bx a' b' c', none]) := by
  obtain ⟨ρ', ⟨l1, l2, a1, b1, c1, y, rfl, p, n⟩, e⟩ := loopS_at (tg := tgN 4) (body := b__law_mixed_1) (rangeL 0 l.length) (fun i ρ => ∃ (l1 l2 : List D) (a b c : Int) (y : Option SV), ρ = [bx a b c, some s, some (.own (.lst l1)), some (.own (.lst l2)), y] ∧ (l2 ++ l1).Perm l ∧ l2.length = i) (by
    rintro i d ρ hd ⟨l1, l2, a, b, c, y, rfl, p, n⟩
    have hi : i < l.length := by
      have := (List.getElem?_eq_some_iff.mp hd).1
      rwa [rangeL_length] at this
    have pl := p.length_eq
    rw [List.length_append] at pl
    obtain ⟨k, a', b', c', hk, ek⟩ := take2_ok a b c l1.length (by omega) (by omega)
    have hk' : k < l1.length := by omega
    have ks := seqIndex_nat hk'
    have k1 : k ≤ 100000 := by omega
    have l2n : l2.length < 10000 := by omega
    refine ⟨_, [bx a' b' c', some s, some (.own (.lst (l1.eraseIdx k))), some (.own (.lst (l2 ++ [l1[k]]))), some (.dat d)], rfl, .inl ?_, _, _, _, _, _, _, rfl, ?_, ?_⟩
    · unfold bx at ek ⊢
      simp [b__law_mixed_1, ek, ks, k1, l2n, hk']
    · rw [List.append_assoc]
      exact (List.Perm.append_left l2 (by
        rw [List.singleton_append]
        exact cons_erase hk')).trans p
    · rw [List.length_append, n]; rfl) (ρ := [bx a b c, some s, some (.own (.lst l)), some (.own (.lst [])), none]) ⟨l, [], a, b, c, none, rfl, List.Perm.refl _, rfl⟩
  rw [rangeL_length] at n
  have pl := p.length_eq
  rw [List.length_append] at pl
  obtain rfl : l1 = [] := List.eq_nil_of_length_eq_zero (by omega)
  rw [List.append_nil] at p
  have ll : l.length ≤ 100000 := by omega
  refine ⟨l2, a1, b1, c1, p, ?_⟩
  unfold bx at e ⊢
  cases hs <;> simp [F__law_mixed, g__law_mixed, e, ll, MO.see]
end Sh
set_option Elab.async false
set_option linter.all false
set_option maxRecDepth 100000
set_option maxHeartbeats 4000000
/-! Weights and books that the laws draw. -/
namespace Sh
open PySem PySem.Spec PyProof.Rows L2 Tk Pl
theorem weights_row_ok (a b c : Int) (p : Nat) (x2 x3 x4 : Option SV) (hp : p ≤ 1000) : ∃ (r : List Int) (a' b' c' : Int), r.length = p ∧ (∀ z ∈ r, 0 ≤ z ∧ z ≤ 3) ∧
    loopC [5] (tgN 5) yesT (froze e__law_weights_1) (rangeL 0 p) [] [bx a b c, some (.dat (.int p)), x2, x3, x4, none] = some (.ok (.own (.lst (r.map D.int))) [bx a' b' c', some (.dat (.int p)), x2, x3, x4, none]) := by
  obtain ⟨acc, ρ', ⟨r, a', b', c', rfl, rfl, h1, h2⟩, e⟩ := loopC_at (vs := [5]) (tg := tgN 5) (ft := yesT) (fe := froze e__law_weights_1) (rangeL 0 p)
    (fun i acc ρ => ∃ (r : List Int) (a' b' c' : Int), acc = r.map D.int ∧ ρ = [bx a' b' c', some (.dat (.int p)), x2, x3, x4, none] ∧ r.length = i ∧ ∀ z ∈ r, 0 ≤ z ∧ z ≤ 3) (by
    rintro i d acc ρ hd ⟨r, a1, b1, c1, rfl, rfl, h1, h2⟩
    have hi : i < p := by
      have := (List.getElem?_eq_some_iff.mp hd).1
      rwa [rangeL_length] at this
    obtain ⟨x, a3, b3, c3, hx, ep⟩ := pick2_ok a1 b1 c1 [.int 0, .int 0, .int 1, .int 1, .int 2, .int 3] (by simp) (by simp)
    obtain ⟨z, rfl, hz⟩ : ∃ z, x = .int z ∧ (0 ≤ z ∧ z ≤ (3 : Int)) := by
      simp only [List.mem_cons, List.not_mem_nil, or_false] at hx
      rcases hx with rfl | rfl | rfl | rfl | rfl | rfl <;> exact ⟨_, rfl, by decide, by decide⟩
    refine ⟨_, _, rfl, .inl ⟨rfl, .int z, [bx a3 b3 c3, some (.dat (.int p)), x2, x3, x4, some (.dat d)], ?_, by simp; omega, r ++ [z], a3, b3, c3, snoc_int r z, rfl, by simp [h1], ?_⟩⟩
    · unfold bx at ep ⊢
      simp [e__law_weights_1, ep]
    · intro y hy
      rcases List.mem_append.mp hy with hy | hy
      · exact h2 y hy
      · rw [List.mem_singleton.mp hy]; exact hz) (ρ := [bx a b c, some (.dat (.int p)), x2, x3, x4, none]) ⟨[], a, b, c, rfl, rfl, rfl, fun z h => by cases h⟩
  rw [rangeL_length] at h1
  exact ⟨r, a', b', c', h1, h2, e⟩
theorem weights_ok (a b c : Int) (p : Nat) (hp : p ≤ 1000) : ∃ (R : List (List Int)) (a' b' c' : Int), Drawn R p 3 ∧ F__law_weights [bx a b c, some (.dat (.int p))] = some (.ok (.own (.lst (R.map rowL))) [bx a' b' c', none]) := by
  obtain ⟨ρ', ⟨R, a', b', c', v3, v4, rfl, h1, h2, h3, h4⟩, e⟩ := loopS_at (tg := tgN 3) (body := b__law_weights_2) (rangeL 0 p) (fun i ρ => ∃ (R : List (List Int)) (a' b' c' : Int) (v3 v4 : Option SV), ρ = [bx a' b' c', some (.dat (.int p)), some (.own (.lst (R.map rowL))), v3, v4, none] ∧ R.length = i ∧ (∀ r ∈ R, r.length = p) ∧ (∀ r ∈ R, ∀ z ∈ r, 0 ≤ z ∧ z ≤ 3) ∧ ∀ (j : Nat) (r : List Int), R[j]? = some r → ∃ z, r[j]? = some z ∧ 0 < z) (by
    rintro i d ρ hd ⟨R, a1, b1, c1, v3, v4, rfl, h1, h2, h3, h4⟩
    have hi : i < p := by
      have := (List.getElem?_eq_some_iff.mp hd).1
      rwa [rangeL_length] at this
    rw [rangeL_at hi] at hd
    cases hd
    obtain ⟨r, a2, b2, c2, r1, r2, er⟩ := weights_row_ok a1 b1 c1 p (some (.own (.lst (R.map rowL)))) (some (.dat (.int (0 + (i : Nat))))) v4 hp
    obtain ⟨t, a3, b3, c3, t1, et⟩ := take2_ok a2 b2 c2 3 (by omega) (by omega)
    have ix := ixN_of (n := r.length) (i := i) (by omega)
    have pa : p ≤ 100000 := by omega
    have ri : R.length < 10000 := by omega
    refine ⟨_, [bx a3 b3 c3, some (.dat (.int p)), some (.own (.lst ((R ++ [r.set i (1 + (t : Int))]).map rowL))), some (.dat (.int (0 + (i : Nat)))), some (.dat (rowL (r.set i (1 + (t : Int))))), none], rfl, .inl ?_, R ++ [r.set i (1 + (t : Int))], a3, b3, c3, _, _, rfl, ?_, ?_, ?_, ?_⟩
    · unfold bx at er et ⊢
      simp at er
      simp [b__law_weights_2, er, et, ix, ri, pa, rowL]
    · simp [h1]
    · intro q hq
      rcases List.mem_append.mp hq with hq | hq
      · exact h2 q hq
      · rw [List.mem_singleton.mp hq, List.length_set]; exact r1
    · intro q hq z hz
      rcases List.mem_append.mp hq with hq | hq
      · exact h3 q hq z hz
      · rw [List.mem_singleton.mp hq] at hz
        rcases List.mem_or_eq_of_mem_set hz with hz | rfl
        · exact r2 z hz
        · omega
    · intro j q hq
      by_cases hj : j < R.length
      · rw [List.getElem?_append_left hj] at hq
        exact h4 j q hq
      · have hj' : j = R.length := by
          have := (List.getElem?_eq_some_iff.mp hq).1
          simp at this
          omega
        subst hj'
        rw [List.getElem?_append_right (Nat.le_refl _), Nat.sub_self] at hq
        cases hq
        refine ⟨1 + (t : Int), ?_, by omega⟩
        rw [h1, List.getElem?_set_self (by omega)]) (ρ := [bx a b c, some (.dat (.int p)), some (.own (.lst [])), none, none, none]) ⟨[], a, b, c, none, none, rfl, rfl, fun r h => (by cases h), fun r h => (by cases h), fun j r h => (by cases h)⟩
  rw [rangeL_length] at h1
  have pa : p ≤ 100000 := by omega
  refine ⟨R, a', b', c', ⟨h1, h2, fun r hr z hz => .inl (h3 r hr z hz), h4⟩, ?_⟩
  unfold bx at e ⊢
  simp [F__law_weights, g__law_weights, e, pa]
end Sh
set_option Elab.async false
set_option linter.all false
set_option maxRecDepth 100000
set_option maxHeartbeats 4000000
namespace Sh
open PySem PySem.Spec PyProof.Rows L2 Tk Pl
theorem perm_map_inv {α β : Type} {f : α → β} {a b : List β} (h : a.Perm b) : ∀ l : List α, b = l.map f → ∃ l2 : List α, l2.Perm l ∧ a = l2.map f := by
  induction h with
  | nil => intro l e; exact ⟨[], by rw [List.map_eq_nil_iff.mp e.symm], rfl⟩
  | cons x h ih =>
    intro l e
    cases l with
    | nil => cases e
    | cons y l =>
      injection e with e1 e2
      obtain ⟨l2, p, e3⟩ := ih l e2
      exact ⟨y :: l2, p.cons y, by rw [e1, e3]; rfl⟩
  | swap x y l0 =>
    intro l e
    match l, e with
    | u :: v :: l, e =>
      injection e with e1 e2
      injection e2 with e2 e3
      exact ⟨v :: u :: l, List.Perm.swap _ _ _, by rw [e1, e2, e3]; rfl⟩
  | trans h1 h2 ih1 ih2 =>
    intro l e
    obtain ⟨l2, p2, e2⟩ := ih2 l e
    obtain ⟨l3, p3, e3⟩ := ih1 l2 e2
    exact ⟨l3, p3.trans p2, e3⟩
theorem cut_to (l : List D) (k : Nat) : Pl.cutD l none (some (k : Int)) = l.take k := by
  unfold Pl.cutD
  rw [HT.sIx_nat]
  show (l.drop 0).take (min k l.length - 0) = l.take k
  rw [List.drop_zero, Nat.sub_zero, List.take_eq_take_iff]
  omega
theorem cut_from (l : List D) (k : Nat) : Pl.cutD l (some (k : Int)) none = l.drop k := by
  unfold Pl.cutD
  rw [HT.sIx_nat]
  show (l.drop (min k l.length)).take (l.length - min k l.length) = l.drop k
  rw [List.take_of_length_le (by rw [List.length_drop]; exact Nat.le_refl _)]
  by_cases h : k ≤ l.length
  · rw [Nat.min_eq_left h]
  · rw [Nat.min_eq_right (by omega), List.drop_length, List.drop_eq_nil_of_le (by omega)]
abbrev Tks := List (Str × List (List Int))
def five : List Str := ["left", "right", "a", "up", "talks"]
def drT (t : Str × List (List Int)) : D := .tup [.str t.1, .lst (t.2.map rowL)]
def drawnD (tks : Tks) (sts : List (Str × Str)) : D := .tup [.lst (tks.map drT), .lst (sts.map pairS)]
abbrev nmsOf (tks : Tks) : List Str := tks.map (·.1)
structure BDrawn (tks : Tks) (sts : List (Str × Str)) (p : Nat) : Prop where
  ne : tks ≠ []
  few : tks.length ≤ 5
  nod : (nmsOf tks).Nodup
  five_ : ∀ x ∈ nmsOf tks, x ∈ five
  rows : ∀ t ∈ tks, Drawn t.2 p 3
  fewS : sts.length ≤ 25
  nodS : sts.Nodup
  st : ∀ q ∈ sts, q.1 ∈ nmsOf tks ∧ q.2 ∈ nmsOf tks
theorem book_talks (a b c : Int) (p m : Nat) (hp : p ≤ 1000) (nl : List Str) (hn : nl.length ≤ 5) : ∃ (tks : Tks) (a' b' c' : Int) (y : Option SV), nmsOf tks = nl ∧ (∀ t ∈ tks, Drawn t.2 p 3) ∧
    loopS (tgN 4) b__law_book_1 (nl.map D.str) [bx a b c, some (.dat (.int p)), some (.dat (.int m)), some (.own (.lst [])), none, none, none, none, none, none] = some (.nx [bx a' b' c', some (.dat (.int p)), some (.dat (.int m)), some (.own (.lst (tks.map drT))), y, none, none, none, none, none]) := by
  obtain ⟨ρ', ⟨tks, a', b', c', y, rfl, h1, h2⟩, e⟩ := loopS_at (tg := tgN 4) (body := b__law_book_1) (nl.map D.str) (fun i ρ => ∃ (tks : Tks) (a' b' c' : Int) (y : Option SV), ρ = [bx a' b' c', some (.dat (.int p)), some (.dat (.int m)), some (.own (.lst (tks.map drT))), y, none, none, none, none, none] ∧ nmsOf tks = nl.take i ∧ ∀ t ∈ tks, Drawn t.2 p 3) (by
    rintro i d ρ hd ⟨tks, a, b, c, y, rfl, h1, h2⟩
    have hi : i < nl.length := by
      have := (List.getElem?_eq_some_iff.mp hd).1
      rwa [List.length_map] at this
    rw [List.getElem?_map, List.getElem?_eq_getElem hi] at hd
    cases hd
    obtain ⟨R, a', b', c', dr, e⟩ := weights_ok a b c p hp
    have lt : tks.length < 10000 := by
      have := congrArg List.length h1
      simp at this
      omega
    refine ⟨_, [bx a' b' c', some (.dat (.int p)), some (.dat (.int m)), some (.own (.lst ((tks ++ [(nl[i], R)]).map drT))), some (.dat (.str nl[i])), none, none, none, none, none], rfl, .inl ?_, tks ++ [(nl[i], R)], a', b', c', _, rfl, ?_, ?_⟩
    · unfold bx at e ⊢
      simp [b__law_book_1, e, lt, drT]
    · show (tks ++ [(nl[i], R)]).map (·.1) = _
      rw [List.map_append]
      show nmsOf tks ++ [nl[i]] = _
      rw [h1, List.take_succ, List.getElem?_eq_getElem hi]
      rfl
    · intro t ht
      rcases List.mem_append.mp ht with ht | ht
      · exact h2 t ht
      · rw [List.mem_singleton.mp ht]; exact dr) (ρ := [bx a b c, some (.dat (.int p)), some (.dat (.int m)), some (.own (.lst [])), none, none, none, none, none, none]) ⟨[], a, b, c, none, rfl, rfl, fun t h => (by cases h)⟩
  rw [List.length_map, List.take_length] at h1
  exact ⟨tks, a', b', c', y, h1, h2, e⟩
theorem book_some (a b c : Int) {x1 x2 x3 x4 x5 x7 : Option SV} (x : Str) (tks : Tks) (hn : tks.length ≤ 5) : ∃ (xs : List Str) (a' b' c' : Int), xs.Sublist (nmsOf tks) ∧
    loopC [8, 9] (tgT [8, 9]) (asB (dBin gGt (dFn F__law_take_v2 (dCons (dVar 0) (dCons (retE (.dat (.int 3))) (dNil)))) (retE (.dat (.int 0))))) (froze (dTup (dCons (froze (dVar 6)) (dCons (froze (dVar 8)) (dNil))))) (tks.map drT) [] [bx a b c, x1, x2, x3, x4, x5, some (.dat (.str x)), x7, none, none] =
      some (.ok (.own (.lst (xs.map fun y => pairS (x, y)))) [bx a' b' c', x1, x2, x3, x4, x5, some (.dat (.str x)), x7, none, none]) := by
  obtain ⟨acc, ρ', ⟨xs, a', b', c', rfl, rfl, sl, lx⟩, e⟩ := loopC_at (vs := [8, 9]) (tg := tgT [8, 9]) (ft := asB (dBin gGt (dFn F__law_take_v2 (dCons (dVar 0) (dCons (retE (.dat (.int 3))) (dNil)))) (retE (.dat (.int 0))))) (fe := froze (dTup (dCons (froze (dVar 6)) (dCons (froze (dVar 8)) (dNil))))) (tks.map drT)
    (fun i acc ρ => ∃ (xs : List Str) (a' b' c' : Int), acc = (xs.map fun y => pairS (x, y)) ∧ ρ = [bx a' b' c', x1, x2, x3, x4, x5, some (.dat (.str x)), x7, none, none] ∧ xs.Sublist ((nmsOf tks).take i) ∧ xs.length ≤ i) (by
    rintro i d acc ρ hd ⟨xs, a, b, c, rfl, rfl, sl, lx⟩
    have hi : i < tks.length := by
      have := (List.getElem?_eq_some_iff.mp hd).1
      rwa [List.length_map] at this
    rw [List.getElem?_map, List.getElem?_eq_getElem hi] at hd
    cases hd
    obtain ⟨t, a', b', c', ht, et⟩ := take2_ok a b c 3 (by decide) (by decide)
    have nx : (nmsOf tks).take (i + 1) = (nmsOf tks).take i ++ [tks[i].1] := by
      rw [List.take_succ, List.getElem?_map, List.getElem?_eq_getElem hi]
      rfl
    have lt : xs.length < 10000 := by omega
    refine ⟨[bx a b c, x1, x2, x3, x4, x5, some (.dat (.str x)), x7, some (.dat (.str tks[i].1)), some (.dat (.lst (tks[i].2.map rowL)))], [bx a' b' c', x1, x2, x3, x4, x5, some (.dat (.str x)), x7, some (.dat (.str tks[i].1)), some (.dat (.lst (tks[i].2.map rowL)))], rfl, ?_⟩
    by_cases h0 : 0 < t
    · refine .inl ⟨?_, pairS (x, tks[i].1), [bx a' b' c', x1, x2, x3, x4, x5, some (.dat (.str x)), x7, some (.dat (.str tks[i].1)), some (.dat (.lst (tks[i].2.map rowL)))], ?_, by simpa using lt, xs ++ [tks[i].1], a', b', c', by simp, rfl, ?_, by simp; omega⟩
      · unfold bx at et ⊢
        simp [et, h0]
      · simp [pairS]
      · rw [nx]
        exact sl.append (List.Sublist.refl _)
    · refine .inr ⟨?_, xs, a', b', c', rfl, rfl, ?_, by omega⟩
      · unfold bx at et ⊢
        simp [et, h0]
      · rw [nx]
        exact sl.trans (List.sublist_append_left _ _)) (ρ := [bx a b c, x1, x2, x3, x4, x5, some (.dat (.str x)), x7, none, none]) ⟨[], a, b, c, rfl, rfl, List.nil_sublist _, Nat.le_refl _⟩
  rw [List.length_map] at sl
  exact ⟨xs, a', b', c', sl.trans (List.take_sublist _ _), e⟩
theorem book_steps (a b c : Int) (x1 x2 x4 : Option SV) (tks : Tks) (hn : tks.length ≤ 5) (nod : (nmsOf tks).Nodup) : ∃ (sts : List (Str × Str)) (a' b' c' : Int) (y z : Option SV), sts.length ≤ 25 ∧ sts.Nodup ∧ (∀ q ∈ sts, q.1 ∈ nmsOf tks ∧ q.2 ∈ nmsOf tks) ∧
    loopS (tgT [6, 7]) b__law_book_2 (tks.map drT) [bx a b c, x1, x2, some (.lck (.lst (tks.map drT))), x4, some (.own (.lst [])), none, none, none, none] = some (.nx [bx a' b' c', x1, x2, some (.lck (.lst (tks.map drT))), x4, some (.own (.lst (sts.map pairS))), y, z, none, none]) := by
  obtain ⟨ρ', ⟨sts, a', b', c', y, z, rfl, h1, h2, h3⟩, e⟩ := loopS_at (tg := tgT [6, 7]) (body := b__law_book_2) (tks.map drT) (fun i ρ => ∃ (sts : List (Str × Str)) (a' b' c' : Int) (y z : Option SV), ρ = [bx a' b' c', x1, x2, some (.lck (.lst (tks.map drT))), x4, some (.own (.lst (sts.map pairS))), y, z, none, none] ∧ sts.length ≤ 5 * i ∧ sts.Nodup ∧ ∀ q ∈ sts, q.1 ∈ (nmsOf tks).take i ∧ q.2 ∈ nmsOf tks) (by
    rintro i d ρ hd ⟨sts, a, b, c, y, z, rfl, h1, h2, h3⟩
    have hi : i < tks.length := by
      have := (List.getElem?_eq_some_iff.mp hd).1
      rwa [List.length_map] at this
    rw [List.getElem?_map, List.getElem?_eq_getElem hi] at hd
    cases hd
    obtain ⟨xs, a', b', c', sl, e⟩ := book_some a b c (x1 := x1) (x2 := x2) (x3 := some (.lck (.lst (tks.map drT)))) (x4 := x4) (x5 := some (.own (.lst (sts.map pairS)))) (x7 := some (.dat (.lst (tks[i].2.map rowL)))) tks[i].1 tks hn
    have nx : (nmsOf tks).take (i + 1) = (nmsOf tks).take i ++ [tks[i].1] := by
      rw [List.take_succ, List.getElem?_map, List.getElem?_eq_getElem hi]
      rfl
    have lx : xs.length ≤ 5 := by
      have := sl.length_le
      rw [List.length_map] at this
      omega
    have small : sts.length + xs.length ≤ 10000 := by omega
    have em : (sts ++ xs.map fun y => (tks[i].1, y)).map pairS = sts.map pairS ++ xs.map fun y => pairS (tks[i].1, y) := by
      rw [List.map_append, List.map_map]
      rfl
    refine ⟨[bx a b c, x1, x2, some (.lck (.lst (tks.map drT))), x4, some (.own (.lst (sts.map pairS))), some (.dat (.str tks[i].1)), some (.dat (.lst (tks[i].2.map rowL))), none, none], [bx a' b' c', x1, x2, some (.lck (.lst (tks.map drT))), x4, some (.own (.lst ((sts ++ xs.map fun y => (tks[i].1, y)).map pairS))), some (.dat (.str tks[i].1)), some (.dat (.lst (tks[i].2.map rowL))), none, none], rfl, .inl ?_, _, a', b', c', _, _, rfl, ?_, ?_, ?_⟩
    · rw [em]
      unfold bx at e ⊢
      generalize tks.map drT = ds at e
      generalize hes : (xs.map fun y => pairS (tks[i].1, y)) = es at e
      have small : (sts.map pairS).length + es.length ≤ 10000 := by rw [← hes]; simpa using small
      generalize sts.map pairS = ss at e small
      simp [b__law_book_2, e, small]
    · rw [List.length_append, List.length_map]
      omega
    · refine List.nodup_append.mpr ⟨h2, ?_, ?_⟩
      · exact List.Pairwise.map _ (fun a b h w => h (by injection w)) (sl.nodup nod)
      · intro q hq r hr w
        obtain ⟨y, _, rfl⟩ := List.mem_map.mp hr
        subst w
        have nd := nod.sublist (List.take_sublist (i + 1) _)
        rw [nx] at nd
        exact (List.nodup_append.mp nd).2.2 _ (h3 _ hq).1 _ (List.mem_singleton.mpr rfl) rfl
    · intro q hq
      rw [nx]
      rcases List.mem_append.mp hq with hq | hq
      · exact ⟨List.mem_append_left _ (h3 q hq).1, (h3 q hq).2⟩
      · obtain ⟨y, hy, rfl⟩ := List.mem_map.mp hq
        exact ⟨List.mem_append_right _ (List.mem_singleton.mpr rfl), sl.subset hy⟩) (ρ := [bx a b c, x1, x2, some (.lck (.lst (tks.map drT))), x4, some (.own (.lst [])), none, none, none, none]) ⟨[], a, b, c, none, none, rfl, Nat.zero_le _, List.nodup_nil, fun q h => (by cases h)⟩
  rw [List.length_map] at h1 h3
  rw [List.take_of_length_le (by rw [List.length_map]; exact Nat.le_refl _)] at h3
  exact ⟨sts, a', b', c', y, z, by omega, h2, h3, e⟩
theorem five_ok : five.Nodup ∧ ∀ x ∈ five, shortS x = true := by decide +kernel
/-- _law_book -/
theorem law_book_ok (a b c : Int) (p m : Nat) (h0 : 0 < p) (hp : p ≤ 1000) (m0 : 0 < m) (m5 : m ≤ 5) : ∃ (tks : Tks) (sts : List (Str × Str)) (a' b' c' : Int), BDrawn tks sts p ∧
    F__law_book [bx a b c, some (.dat (.int p)), some (.dat (.int m))] = some (.ok (.dat (drawnD tks sts)) [bx a' b' c', none, none]) := by
  obtain ⟨l', a1, b1, c1, pl, e1⟩ := mixed_ok a b c (five.map D.str) (.lst _) (by decide)
  obtain ⟨fl, pf, rfl⟩ := perm_map_inv pl five rfl
  obtain ⟨t, a2, b2, c2, ht, e2⟩ := take2_ok a1 b1 c1 m (by omega) (by omega)
  obtain ⟨k, hk⟩ : ∃ k : Nat, k = 1 + t := ⟨_, rfl⟩
  have kI : (1 : Int) + (t : Int) = (k : Int) := by omega
  have fl5 : fl.length = 5 := pf.length_eq
  obtain ⟨tks, a3, b3, c3, y3, n3, r3, e3⟩ := book_talks a2 b2 c2 p m hp (fl.take k) (by rw [List.length_take]; omega)
  have lt : tks.length ≤ 5 := by
    have := congrArg List.length n3
    rw [List.length_map, List.length_take] at this
    omega
  have tne : tks ≠ [] := by
    rintro rfl
    have := congrArg List.length n3
    rw [List.length_take, fl5] at this
    have : min k 5 = 0 := this.symm
    omega
  have sub : (nmsOf tks).Sublist fl := by rw [n3]; exact List.take_sublist _ _
  have nod : (nmsOf tks).Nodup := sub.nodup (pf.nodup_iff.mpr five_ok.1)
  obtain ⟨sts, a4, b4, c4, y4, z4, s4, d4, i4, e4⟩ := book_steps a3 b3 c3 (some (.dat (.int p))) (some (.dat (.int m))) y3 tks lt nod
  obtain ⟨l5, a5, b5, c5, p5, e5⟩ := mixed_ok a4 b4 c4 (sts.map pairS) (.lck _) (by rw [List.length_map]; omega)
  obtain ⟨sts', p6, rfl⟩ := perm_map_inv p5 sts rfl
  refine ⟨tks, sts', a5, b5, c5, ⟨tne, lt, nod, fun x hx => pf.subset (sub.subset hx), r3, by rw [p6.length_eq]; omega, p6.nodup_iff.mpr d4, fun q hq => i4 q (p6.subset hq)⟩, ?_⟩
  have e1' : F__law_mixed [bx a b c, some (.dat (.lst [.str "left", .str "right", .str "a", .str "up", .str "talks"]))] = some (.ok (.own (.lst (fl.map D.str))) [bx a1 b1 c1, none]) := e1
  have ct : Pl.cutD (fl.map D.str) none (some (k : Int)) = (fl.take k).map D.str := by rw [cut_to, List.map_take]
  unfold drawnD
  generalize (fl.take k).map D.str = ns at ct e3
  generalize fl.map D.str = gs at e1' ct
  generalize tks.map drT = ds at e3 e4 ⊢
  generalize sts.map pairS = ss at e4 e5
  generalize sts'.map pairS = qs at e5 ⊢
  unfold bx at e1' e2 e3 e4 e5 ⊢
  simp [F__law_book, g__law_book, e1', e2, e3, e4, e5, kI, ct]
end Sh
set_option Elab.async false
set_option linter.all false
set_option maxRecDepth 100000
set_option maxHeartbeats 4000000
/-! Books made. -/
namespace Sh
open PySem PySem.Spec PyProof.Rows L2 Tk Pl
/-! ### sets of names, of steps -/
theorem keysD_strs : ∀ l : List Str, keysD (l.map D.str) = some (l.map .inr)
  | [] => rfl
  | x :: l => by
    rw [List.map_cons, keysD, keysD_strs l]
    rfl
theorem once_map {α β : Type} [DecidableEq α] [DecidableEq β] {f : α → β} (h : ∀ a b, f a = f b → a = b) {l : List α} (n : l.Nodup) : (Ns.once (l.map f)).length = l.length := by
  rw [(Ns.once_eq _).mpr (List.Pairwise.map f (fun a b w e => w (h _ _ e)) n), List.length_map]
theorem kSet_strs {l : List Str} (n : l.Nodup) (hl : l.length ≤ 1000) (ρ : Sl) : kSet (.own (.lst (l.map D.str))) ρ = some (.ok (.dat (.int (l.length : Nat))) ρ) := by
  rw [ev_kSet, keysD_strs]
  dsimp only
  rw [if_pos (by rw [List.length_map]; exact hl)]
  rw [once_map (fun a b e => by injection e) n]
def pairK (p : Str × Str) : NestedKey := .tup [.text p.1, .text p.2]
theorem nestsD_pairs : ∀ l : List (Str × Str), nestsD (l.map pairS) = some (l.map pairK)
  | [] => rfl
  | x :: l => by
    rw [List.map_cons, nestsD, nestsD_pairs l]
    rfl
theorem lenSet_pairs {l : List (Str × Str)} (n : l.Nodup) (hl : l.length < 64) : lenSet (l.map pairS) = some l.length := by
  cases l with
  | nil => rfl
  | cons p l =>
    have k : keysD ((p :: l).map pairS) = none := rfl
    unfold lenSet
    rw [k, nestsD_pairs]
    dsimp only
    have tk : (((p :: l).map pairK).all Ns.tupKey = true) := by
      rw [List.all_map, List.all_eq_true]
      intro q _
      show decide (NestedKey.depth (pairK q) ≤ 8) = true
      simp [pairK, NestedKey.depth, NestedKey.depthAll]
    rw [if_pos ⟨tk, by rw [List.length_map]; exact hl⟩]
    congr 1
    refine once_map (fun a b e => ?_) n
    obtain ⟨a1, a2⟩ := a
    obtain ⟨b1, b2⟩ := b
    unfold pairK at e
    injection e with e
    injection e with e1 e2
    injection e2 with e2 _
    injection e1 with e1
    injection e2 with e2
    exact Prod.ext e1 e2
theorem sortable_pairs {l : List (Str × Str)} (h : ∀ p ∈ l, shortP p = true) : sortable (l.map pairS) = true := by
  unfold sortable
  rw [Bool.and_eq_true]
  refine ⟨?_, ?_⟩
  · unfold cmpAll
    rw [List.all_eq_true]
    intro a ha
    obtain ⟨p, hp, rfl⟩ := List.mem_map.mp ha
    obtain ⟨z1, z2, z3⟩ := pair_py (h p hp)
    rw [z1, z3]
    simp only [Bool.true_and, Bool.and_eq_true, List.all_eq_true]
    refine ⟨by decide, fun b hb => ?_⟩
    obtain ⟨q, hq, rfl⟩ := List.mem_map.mp hb
    rfl
  · have : (l.map pairS).all tup1 = true := by
      rw [List.all_map, List.all_eq_true]
      intro q _
      rfl
    rw [this]
    rfl
end Sh
set_option Elab.async false
set_option linter.all false
set_option maxRecDepth 100000
set_option maxHeartbeats 4000000
/-! Books made. -/
namespace Sh
open PySem PySem.Spec PyProof.Rows L2 Tk Pl
def trueB : Option (Res RV) → Bool
  | some (.ok (.dat (.bl true)) [none]) => true
  | _ => false
theorem trueB_eq {o : Option (Res RV)} (h : trueB o = true) : o = some (.ok (.dat (.bl true)) [none]) := by
  unfold trueB at h
  split at h
  · rfl
  · cases h
def nameB (x : Str) : Bool := trueB (F_is_name [some (.dat (.str x))])
theorem five_names : ∀ x ∈ five, nameB x = true := by decide +kernel
@[simp] theorem mt_len_T_10' : mt_len_T 10 = some F_Talk___len__ := rfl
def tkD (t : Str × List (List Int)) : D := .tup [.str t.1, talkD t.2]
theorem is_pair_ok (x y : D) : F_is_pair [some (.dat (.tup [x, y]))] = some (.ok (.dat (.bl true)) [none]) := by
  simp [F_is_pair, g_is_pair, isKind]
theorem is_named_ok {t : Str × List (List Int)} (h : nameB t.1 = true) : F_is_named_talk [some (.dat (tkD t))] = some (.ok (.dat (.bl true)) [none]) := by
  have n := trueB_eq h
  have q := is_pair_ok (.str t.1) (talkD t.2)
  unfold tkD
  unfold talkD at q ⊢
  simp [F_is_named_talk, g_is_named_talk, q, n]
theorem all_trues {α : Type} (l : List α) : (D.bools.go (l.map fun _ => D.bl true)).map (fun bs => D.bl (bs.all id)) = some (.bl true) := by
  have : (l.map fun _ => D.bl true) = (l.map fun _ => true).map D.bl := by rw [List.map_map]; rfl
  rw [this, bools_map]
  simp
theorem are_talks_ok {tks : Tks} {p : Nat} (ne : tks ≠ []) (few : tks.length ≤ 100) (nod : (nmsOf tks).Nodup) (nm : ∀ x ∈ nmsOf tks, nameB x = true) (len : ∀ t ∈ tks, t.2.length = p) (hp : p ≤ 1000) :
    F_are_talks [some (.dat (.lst (tks.map tkD)))] = some (.ok (.dat (.bl true)) [none]) := by
  have l1 := loopC_map (i := 1) (fe := froze (dFn F_is_named_talk (dCons (dLend (dVar 1)) dNil))) (fun _ => .bl true) (ρ := [some (.dat (.lst (tks.map tkD))), none]) (fun x => rfl) (tks.map tkD) [] (by
    intro d hd
    obtain ⟨t, ht, rfl⟩ := List.mem_map.mp hd
    have := is_named_ok (nm t.1 (List.mem_map_of_mem ht))
    unfold tkD at this ⊢
    simp [this]) (by simp; omega)
  have l2 := loopC_map (i := 1) (fe := froze e_are_talks_1) (fun _ => .bl true) (ρ := [some (.dat (.lst (tks.map tkD))), none]) (fun x => rfl) (tks.map tkD) [] (by
    intro d hd
    obtain ⟨t, ht, rfl⟩ := List.mem_map.mp hd
    obtain ⟨u, r, hur⟩ : ∃ u r, tks = u :: r := by cases h : tks with | nil => exact absurd h ne | cons u r => exact ⟨u, r, rfl⟩
    have eu : (tks.map tkD)[0]? = some (tkD u) := by rw [hur]; rfl
    have at0 : atI (tks.map tkD) 0 = some (tkD u) := atI_nat (j := 0) eu
    have lt := len t ht
    have lu := len u (by rw [hur]; exact List.mem_cons_self)
    have q1 := len_talk_ok t.2
    have q2 := len_talk_ok u.2
    rw [lt] at q1
    rw [lu] at q2
    generalize tks.map tkD = ds at at0
    unfold tkD talkD at *
    have hp' : (p : Int) ≤ 100000 := by omega
    simp [e_are_talks_1, at0, q1, q2, hp']) (by simp; omega)
  have l3 := loopC_map (i := 1) (fe := froze (dBin gIx (dVar 1) (retE (.dat (.int 0))))) fst0 (ρ := [some (.dat (.lst (tks.map tkD))), none]) (fun x => rfl) (tks.map tkD) [] (by
    intro d hd
    obtain ⟨p, hp, rfl⟩ := List.mem_map.mp hd
    simp [tkD, fst0]) (by simp; omega)
  have a1 := all_trues (tks.map tkD)
  have k3 : (tks.map tkD).map fst0 = (nmsOf tks).map D.str := by
    rw [List.map_map, List.map_map]
    rfl
  have ks := fun ρ => kSet_strs nod (by rw [List.length_map]; omega) ρ
  rw [k3] at l3
  have n0 : ¬ tks.length = 0 := fun h => ne (List.eq_nil_of_length_eq_zero h)
  have sq := is_sequence_ok (.lst (tks.map tkD))
  have ln : (nmsOf tks).length = tks.length := List.length_map ..
  have lds : (tks.map tkD).length = tks.length := List.length_map ..
  rw [ln] at ks
  generalize (nmsOf tks).map D.str = ns at l3 ks
  generalize tks.map tkD = ds at *
  generalize ds.map (fun _ => D.bl true) = bs at *
  simp at a1
  obtain ⟨bb, hb, ab⟩ := a1
  simp [F_are_talks, g_are_talks, sq, lds, n0, l1, l2, l3, hb, ab, ks, -ev_kSet]
theorem are_steps_ok {nms : List Str} {sts : List (Str × Str)} {s : SV} (hs : Sees s (nms.map D.str)) (sh : ∀ x ∈ nms, shortS x = true) (few : sts.length < 64) (nod : sts.Nodup) (st : ∀ q ∈ sts, q.1 ∈ nms ∧ q.2 ∈ nms) :
    F_are_steps [some (.dat (.lst (sts.map pairS))), some s] = some (.ok (.dat (.bl true)) [none, none]) := by
  have l1 := loopC_map (i := 2) (fe := froze e_are_steps_1) (fun _ => .bl true) (ρ := [some (.dat (.lst (sts.map pairS))), some s, none]) (fun x => rfl) (sts.map pairS) [] (by
    intro d hd
    obtain ⟨q, hq, rfl⟩ := List.mem_map.mp hd
    obtain ⟨h1, h2⟩ := st q hq
    have ip := is_pair_ok (.str q.1) (.str q.2)
    have i1 := in_lst (sh _ h1) sh
    have i2 := in_lst (sh _ h2) sh
    have j1 := in_tup (sh _ h1) sh
    have j2 := in_tup (sh _ h2) sh
    rw [decide_eq_true h1] at i1 j1
    rw [decide_eq_true h2] at i2 j2
    unfold pairS
    generalize nms.map D.str = ns at *
    cases hs <;> simp [e_are_steps_1, ip, i1, i2, j1, j2, MO.see]) (by simp; omega)
  have a1 := all_trues (sts.map pairS)
  have ls := lenSet_pairs nod few
  have sq := is_sequence_ok (.lst (sts.map pairS))
  have lds : (sts.map pairS).length = sts.length := List.length_map ..
  generalize sts.map pairS = ds at *
  generalize ds.map (fun _ => D.bl true) = bs at *
  simp at a1
  obtain ⟨bb, hb, ab⟩ := a1
  cases hs <;> simp [F_are_steps, g_are_steps, sq, lds, l1, hb, ab, ls]
theorem init_book_ok {tks : Tks} {sts : List (Str × Str)} {p : Nat} (ne : tks ≠ []) (few : tks.length ≤ 100) (nod : (nmsOf tks).Nodup) (nm : ∀ x ∈ nmsOf tks, nameB x = true) (sh : ∀ x ∈ nmsOf tks, shortS x = true) (len : ∀ t ∈ tks, t.2.length = p) (hp : p ≤ 1000)
    (fewS : sts.length < 64) (nodS : sts.Nodup) (st : ∀ q ∈ sts, q.1 ∈ nmsOf tks ∧ q.2 ∈ nmsOf tks) :
    F_Book___init__ [some (.own (.ins 11 [])), some (.dat (.lst (tks.map tkD))), some (.dat (.lst (sts.map pairS)))] =
      some (.ok (.dat .non) [some (.own (.ins 11 [("talks", .tup (tks.map tkD)), ("steps", .tup (sortD (sts.map pairS)))])), none, none]) := by
  have at_ := are_talks_ok ne few nod nm len hp
  have l3 := loopC_map (i := 3) (fe := froze (dBin gIx (dVar 3) (retE (.dat (.int 0))))) fst0 (ρ := [some (.own (.ins 11 [])), some (.dat (.lst (tks.map tkD))), some (.dat (.lst (sts.map pairS))), none]) (fun x => rfl) (tks.map tkD) [] (by
    intro d hd
    obtain ⟨p, hp, rfl⟩ := List.mem_map.mp hd
    simp [tkD, fst0]) (by simp; omega)
  have k3 : (tks.map tkD).map fst0 = (nmsOf tks).map D.str := by
    rw [List.map_map, List.map_map]
    rfl
  rw [k3] at l3
  have as_ := are_steps_ok (.lst _) sh fewS nodS st
  have so := sortable_pairs (l := sts) fun q hq => by
    unfold shortP
    rw [sh _ (st q hq).1, sh _ (st q hq).2]
    rfl
  generalize (nmsOf tks).map D.str = ns at *
  generalize sts.map pairS = ss at *
  generalize tks.map tkD = ds at *
  have ts : ¬ (Str.ofString "talks" = Str.ofString "steps") := by decide +kernel
  simp [F_Book___init__, g_Book___init__, at_, l3, as_, so, putD, ts]
end Sh
set_option Elab.async false
set_option linter.all false
set_option maxRecDepth 100000
set_option maxHeartbeats 4000000
/-! Books of what is drawn. -/
namespace Sh
open PySem PySem.Spec PyProof.Rows L2 Tk Pl
def nrm (t : Str × List (List Int)) : Str × List (List Int) := (t.1, t.2.map norm)
theorem nmsOf_nrm (tks : Tks) : nmsOf (tks.map nrm) = nmsOf tks := by
  show (tks.map nrm).map (·.1) = tks.map (·.1)
  rw [List.map_map]
  rfl
/-- the book of talks (names, rows) and steps -/
def bkD (tks : Tks) (st : List (Str × Str)) : D := .obj 11 [.tup (tks.map tkD), .tup (st.map pairS)]
theorem make_book {tks : Tks} {sts : List (Str × Str)} {p : Nat} (ne : tks ≠ []) (few : tks.length ≤ 100) (nod : (nmsOf tks).Nodup) (nm : ∀ x ∈ nmsOf tks, nameB x = true) (sh : ∀ x ∈ nmsOf tks, shortS x = true) (len : ∀ t ∈ tks, t.2.length = p) (hp : p ≤ 1000)
    (fewS : sts.length < 64) (nodS : sts.Nodup) (st : ∀ q ∈ sts, q.1 ∈ nmsOf tks ∧ q.2 ∈ nmsOf tks) : ∃ sts' : List (Str × Str), sts'.Perm sts ∧ ∀ ρ, gMake att 11 F_Book___init__ [] [.dat (.lst (tks.map tkD)), .dat (.lst (sts.map pairS))] ρ = some (.ok (.dat (bkD tks sts')) ρ) := by
  have i := init_book_ok ne few nod nm sh len hp fewS nodS st
  obtain ⟨sts', ps, es⟩ := perm_map_inv (sortD_perm (sts.map pairS)) sts rfl
  refine ⟨sts', ps, fun ρ => ?_⟩
  rw [es] at i
  unfold bkD
  generalize tks.map tkD = ds at *
  generalize sts.map pairS = ss at *
  generalize sts'.map pairS = s2 at *
  simp [-ev_make, gMake, gMakeI, i, List.set_append_right]
theorem talks_loop {s : Option SV} : ∀ (tks : Tks) (acc : List D), (∀ t ∈ tks, Good t.2) → acc.length + tks.length ≤ 10000 →
    loopC [1, 2] (tgT [1, 2]) yesT (froze (dTup (dCons (froze (dVar 1)) (dCons (bindE (dCons (dLend (dVar 2)) (dNil)) (gMake att 10 F_Talk___init__ [])) (dNil))))) (tks.map drT) acc [s, none, none] =
      some (.ok (.own (.lst (acc ++ (tks.map nrm).map tkD))) [s, none, none])
  | [], acc, _, _ => by simp
  | t :: tks, acc, g, hl => by
    have hl : acc.length + (tks.length + 1) ≤ 10000 := hl
    have la : acc.length < 10000 := by omega
    have ih := talks_loop (s := s) tks (acc ++ [tkD (nrm t)]) (fun u hu => g u (List.mem_cons_of_mem _ hu)) (by simp; omega)
    have mk := fun ρ => make_dat (.lst (t.2.map rowL)) (isRows_lst t.2) (g t List.mem_cons_self) ρ
    have e : acc ++ ((t :: tks).map nrm).map tkD = acc ++ [tkD (nrm t)] ++ (tks.map nrm).map tkD := by simp
    rw [List.map_cons, ev_loopC_cons, e]
    generalize (tks.map nrm).map tkD = qs at ih ⊢
    generalize tks.map drT = ds at ih ⊢
    unfold drT tkD nrm at *
    generalize t.2.map rowL = rs at mk ⊢
    unfold talkD at *
    simp only [List.map_map] at mk ih ⊢
    simp [-ev_make, mk, la, ih, -List.map_map]
theorem law_book_of_ok {tks : Tks} {sts : List (Str × Str)} {p : Nat} (b : BDrawn tks sts p) (h0 : 0 < p) (hp : p ≤ 1000) : ∃ sts' : List (Str × Str), sts'.Perm sts ∧
    F__law_book_of [some (.dat (drawnD tks sts))] = some (.ok (.dat (bkD (tks.map nrm) sts')) [none]) := by
  have few := b.few
  have fewS := b.fewS
  have sh : ∀ x ∈ nmsOf (tks.map nrm), shortS x = true := fun x hx => five_ok.2 x (b.five_ x (by rwa [nmsOf_nrm] at hx))
  obtain ⟨sts', ps, mk⟩ := make_book (tks := tks.map nrm) (sts := sts) (p := p) (by simpa using b.ne) (by rw [List.length_map]; omega) (by rw [nmsOf_nrm]; exact b.nod) (fun x hx => five_names x (b.five_ x (by rwa [nmsOf_nrm] at hx))) sh (fun t ht => by
    obtain ⟨u, hu, rfl⟩ := List.mem_map.mp ht
    show (u.2.map norm).length = p
    rw [List.length_map, (b.rows u hu).many]) hp (by omega) b.nodS (by rw [nmsOf_nrm]; exact b.st)
  have lp := talks_loop (s := some (.dat (drawnD tks sts))) tks [] (fun t ht => (b.rows t ht).good h0 hp (by decide)) (by simp; omega)
  refine ⟨sts', ps, ?_⟩
  unfold drawnD at *
  generalize (tks.map nrm).map tkD = qs at *
  generalize tks.map drT = ds at *
  generalize sts.map pairS = ss at *
  unfold bkD at *
  simp [F__law_book_of, g__law_book_of, -ev_make, lp, mk]
end Sh
set_option Elab.async false
set_option linter.all false
set_option maxRecDepth 100000
set_option maxHeartbeats 4000000
/-! Rows and rings of a book. -/
namespace Sh
open PySem PySem.Spec PyProof.Rows L2 Tk Pl
theorem pures_strs : ∀ l : List Str, D.pures (l.map D.str) = true
  | [] => rfl
  | x :: l => by
    rw [List.map_cons, D.pures, pures_strs l]
    rfl
theorem str_inj {a b : List Str} (h : a.map D.str = b.map D.str) : a = b := map_inj (fun _ _ e => by injection e) h
theorem plain_lst {l : List Str} (hl : ∀ y ∈ l, shortS y = true) : (D.lst (l.map D.str)).plain = true := by
  obtain ⟨a, b, c⟩ := canLay_strs hl
  unfold D.plain SeqAt.shaped
  simp [D.isPy, D.py, PyData.canLay0, PyData.depth, a, b, c]
theorem dEq_lstrs {a b : List Str} (ha : ∀ y ∈ a, shortS y = true) (hb : ∀ y ∈ b, shortS y = true) : dEq (.lst (a.map D.str)) (.lst (b.map D.str)) = some (decide (a = b)) := by
  have n : sEq (.lst (a.map D.str)) (.lst (b.map D.str)) = none := rfl
  unfold dEq
  rw [n]
  dsimp only
  rw [plain_lst ha, plain_lst hb]
  simp only [Bool.and_self, if_true]
  congr 1
  rw [Bool.eq_iff_iff, eqv_pure (.lst (a.map D.str)) (.lst (b.map D.str)) (pures_strs a) (pures_strs b), decide_eq_true_eq]
  exact ⟨fun h => str_inj (by injection h), fun h => by rw [h]⟩
theorem dEq_nil {a : List Str} (ha : ∀ y ∈ a, shortS y = true) : dEq (.lst (a.map D.str)) (.lst []) = some (decide (a = [])) := dEq_lstrs ha (b := []) (fun y h => by cases h)
theorem atI_last {α : Type} {l : List α} {x : α} (h : l.getLast? = some x) : atI l (-1) = some x := by
  have ne : l ≠ [] := fun e => by subst e; cases h
  have hl : 0 < l.length := List.length_pos_iff.mpr ne
  rw [List.getLast?_eq_getElem?] at h
  have := (List.getElem?_eq_some_iff.mp h)
  unfold atI ixN
  rw [if_neg (by decide), if_pos (by omega)]
  show l[(-1 + (l.length : Int)).toNat]? = some x
  rw [← h]
  congr 1
  omega
theorem last_map {l : List Str} {x : Str} (h : l.getLast? = some x) : (l.map D.str).getLast? = some (.str x) := by
  rw [List.getLast?_map, h]
  rfl
theorem last_ex {l : List Str} (h : l ≠ []) : ∃ x, l.getLast? = some x ∧ x ∈ l := ⟨_, List.getLast?_eq_some_getLast h, List.getLast_mem h⟩
theorem fit_nil (ns : List Str) (st : List (Str × Str)) : Fit ns st [] := fun i x h => by cases h
theorem fit_snoc {ns : List Str} {st : List (Str × Str)} {r : List Str} {x : Str} : Fit ns st (r ++ [x]) ↔ Fit ns st r ∧ x ∈ ns ∧ ∀ y, r.getLast? = some y → (y, x) ∈ st := by
  constructor
  · intro f
    refine ⟨fun i z hz => ?_, (f r.length x (by rw [List.getElem?_append_right (Nat.le_refl _)]; simp)).1, fun y hy => ?_⟩
    · have hi := (List.getElem?_eq_some_iff.mp hz).1
      have := f i z (by rw [List.getElem?_append_left hi]; exact hz)
      refine ⟨this.1, fun y h0 hy => this.2 y h0 ?_⟩
      rw [List.getElem?_append_left (by omega)]
      exact hy
    · rw [List.getLast?_eq_getElem?] at hy
      have hl := (List.getElem?_eq_some_iff.mp hy).1
      refine (f r.length x (by rw [List.getElem?_append_right (Nat.le_refl _)]; simp)).2 y (by omega) ?_
      rw [List.getElem?_append_left hl]
      exact hy
  · rintro ⟨f, m, l⟩ i z hz
    by_cases hi : i < r.length
    · rw [List.getElem?_append_left hi] at hz
      refine ⟨(f i z hz).1, fun y h0 hy => ?_⟩
      rw [List.getElem?_append_left (by omega)] at hy
      exact (f i z hz).2 y h0 hy
    · have hl := (List.getElem?_eq_some_iff.mp hz).1
      rw [List.length_append, List.length_singleton] at hl
      obtain rfl : i = r.length := by omega
      rw [List.getElem?_append_right (Nat.le_refl _)] at hz
      simp at hz
      subst hz
      refine ⟨m, fun y h0 hy => l y ?_⟩
      rw [List.getElem?_append_left (by omega)] at hy
      rw [List.getLast?_eq_getElem?]
      exact hy
theorem fit_perm {ns : List Str} {st st' : List (Str × Str)} (p : st'.Perm st) (r : List Str) : Fit ns st' r ↔ Fit ns st r :=
  ⟨fun f i x h => ⟨(f i x h).1, fun y h0 hy => p.subset ((f i x h).2 y h0 hy)⟩, fun f i x h => ⟨(f i x h).1, fun y h0 hy => p.symm.subset ((f i x h).2 y h0 hy)⟩⟩
theorem is_row_ok {tps : List (Str × D)} {st : List (Str × Str)} (b : BookOk tps st) {s : SV} {row : List Str} (hs : Sees s (row.map D.str)) (sh : ∀ x ∈ row, shortS x = true) :
    F_is_row [some (.dat (bookD tps st)), some s] = some (.ok (.dat (.bl (decide (Fit (namesOf tps) st row)))) [none, none]) := by
  obtain ⟨d, e, h1, h2⟩ := first_wrong_name_ok b hs sh
  by_cases f : Fit (namesOf tps) st row
  · rw [decide_eq_true f]
    obtain rfl := h1 f
    generalize row.map D.str = rs at *
    generalize bookD tps st = B at *
    cases hs <;> simp [F_is_row, g_is_row, e, Pl.isNon]
  · rw [decide_eq_false f]
    obtain ⟨i, rfl⟩ := h2 f
    generalize row.map D.str = rs at *
    generalize bookD tps st = B at *
    cases hs <;> simp [F_is_row, g_is_row, e, Pl.isNon]
def Ring (ns : List Str) (st : List (Str × Str)) (row : List Str) : Prop := Fit ns st row ∧ ∃ x y, row[0]? = some x ∧ row.getLast? = some y ∧ (y, x) ∈ st
noncomputable instance (ns : List Str) (st : List (Str × Str)) (row : List Str) : Decidable (Ring ns st row) := Classical.propDecidable _
theorem is_ring_ok {tps : List (Str × D)} {st : List (Str × Str)} (b : BookOk tps st) {s : SV} {row : List Str} (hs : Sees s (row.map D.str)) (sh : ∀ x ∈ row, shortS x = true) :
    F_is_ring [some (.dat (bookD tps st)), some s] = some (.ok (.dat (.bl (decide (Ring (namesOf tps) st row)))) [none, none]) := by
  have e := is_row_ok b hs sh
  by_cases f : Fit (namesOf tps) st row
  · rw [decide_eq_true f] at e
    by_cases n : row = []
    · have : ¬ Ring (namesOf tps) st row := fun ⟨_, x, y, h, _⟩ => by subst n; cases h
      rw [decide_eq_false this]
      subst n
      generalize bookD tps st = B at *
      cases hs <;> simp at e <;> simp [F_is_ring, g_is_ring, e, MO.see]
    · obtain ⟨y, hy, my⟩ := last_ex n
      obtain ⟨x, hx⟩ : ∃ x, row[0]? = some x := ⟨_, List.getElem?_eq_getElem (List.length_pos_iff.mpr n)⟩
      have l0 : 0 < row.length := List.length_pos_iff.mpr n
      have mx := List.mem_of_getElem? hx
      have ny : y ∈ namesOf tps := by
        rw [List.getLast?_eq_getElem?] at hy
        exact (f _ _ hy).1
      have a0 : atI (row.map D.str) 0 = some (.str x) := atI_str (i := 0) hx
      have a1 := atI_last (last_map hy)
      have bh := behind_ok b ny
      have ib := in_behind b (x := y) (sh x mx)
      have : Ring (namesOf tps) st row ↔ (y, x) ∈ st := ⟨fun ⟨_, x', y', h1, h2, h3⟩ => by rw [hx] at h1; rw [hy] at h2; cases h1; cases h2; exact h3, fun h => ⟨f, x, y, hx, hy, h⟩⟩
      rw [show decide (Ring (namesOf tps) st row) = decide ((y, x) ∈ st) from decide_eq_decide.mpr this]
      have ll : (row.map D.str).length = row.length := List.length_map ..
      unfold bookD at e bh ⊢
      generalize row.map D.str = rs at hs a0 a1 ll e
      generalize (behindL st y).map D.str = bs at bh ib
      cases hs <;> simp [F_is_ring, g_is_ring, e, ll, l0, a0, a1, bh, ib, MO.see]
  · rw [decide_eq_false f] at e
    rw [decide_eq_false fun h => f h.1]
    generalize row.map D.str = rs at *
    generalize bookD tps st = B at *
    cases hs <;> simp [F_is_ring, g_is_ring, e]
end Sh
set_option Elab.async false
set_option linter.all false
set_option maxRecDepth 100000
set_option maxHeartbeats 4000000
/-! Rows that the laws draw. -/
namespace Sh
open PySem PySem.Spec PyProof.Rows L2 Tk Pl
/-- a comprehension over encoded things that changes nothing else -/
theorem loopC_enc {α : Type} {vs : List Nat} {tg : D → Sl → Option Sl} {ft : Ef Bool} {fe : DE} {ρ : Sl} (enc : α → D) (t : α → Bool) (h : α → D) : ∀ (l : List α) (acc : List D),
    (∀ x ∈ l, ∃ ρ1, tg (enc x) ρ = some ρ1 ∧ wipeR ρ1 vs = ρ ∧ ft ρ1 = some (.ok (t x) ρ1) ∧ (t x = true → fe ρ1 = some (.ok (.dat (h x)) ρ1))) → acc.length + l.length ≤ 10000 →
    loopC vs tg ft fe (l.map enc) acc ρ = some (.ok (.own (.lst (acc ++ (l.filter t).map h))) ρ)
  | [], acc, _, _ => by simp
  | x :: l, acc, hx, hl => by
    obtain ⟨ρ1, h1, h2, h3, h4⟩ := hx x List.mem_cons_self
    have hl : acc.length + (l.length + 1) ≤ 10000 := hl
    have la : acc.length < 10000 := by omega
    rw [List.map_cons, ev_loopC_cons, h1]
    cases e : t x with
    | true =>
      have ih := loopC_enc enc t h l (acc ++ [h x]) (fun y hy => hx y (List.mem_cons_of_mem _ hy)) (by simp; omega)
      have h5 := h4 e
      rw [e] at h3
      simp only [h3, h5, if_pos la, h2, ih]
      simp [List.filter_cons, e]
    | false =>
      have ih := loopC_enc enc t h l acc (fun y hy => hx y (List.mem_cons_of_mem _ hy)) (by omega)
      rw [e] at h3
      simp only [h3, h2, ih]
      simp [List.filter_cons, e]
/-- one of some things, a list or a tuple -/
theorem pick2_sees (a b c : Int) {s : SV} {l : List D} (hs : Sees s l) (h0 : 0 < l.length) (h1 : l.length ≤ 10000) : ∃ x a' b' c', x ∈ l ∧ F__law_pick_v2 [bx a b c, some s] = some (.ok (.dat x) [bx a' b' c', none]) := by
  obtain ⟨d, a', b', c', d1, e⟩ := take2_ok a b c l.length (by omega) (by omega)
  have hl : d < l.length := by omega
  refine ⟨l[d], a', b', c', List.getElem_mem hl, ?_⟩
  have at1 : atI l (d : Int) = some l[d] := atI_nat (List.getElem?_eq_getElem hl)
  unfold bx at e ⊢
  cases hs <;> simp [F__law_pick_v2, g__law_pick_v2, e, at1, MO.see]
/-- can this name come behind these -/
def canCome (sts : List (Str × Str)) (f : List Str) (x : Str) : Bool := decide (f = []) || (match f.getLast? with
  | some y => decide ((y, x) ∈ sts)
  | none => false)
def comes (tks : Tks) (sts : List (Str × Str)) (f : List Str) : List Str := (tks.filter fun t => canCome sts f t.1).map (·.1)
theorem BDrawn.short {tks : Tks} {sts : List (Str × Str)} {p : Nat} (b : BDrawn tks sts p) : ∀ x ∈ nmsOf tks, shortS x = true := fun x hx => five_ok.2 x (b.five_ x hx)
theorem BDrawn.shortP {tks : Tks} {sts : List (Str × Str)} {p : Nat} (b : BDrawn tks sts p) : ∀ q ∈ sts, shortP q = true := fun q hq => by
  unfold Sh.shortP
  rw [b.short _ (b.st q hq).1, b.short _ (b.st q hq).2]
  rfl
theorem row_some {tks : Tks} {sts : List (Str × Str)} {p : Nat} (b : BDrawn tks sts p) (f : List Str) (hf : ∀ x ∈ f, x ∈ nmsOf tks) (x0 x2 x4 x5 : Option SV) :
    loopC [6, 7] (tgT [6, 7]) (dOrT (asB (dBin gEq (dVar 3) (dLst (dNil)))) (asB (dBin gIn (dTup (dCons (dBin gIx (dVar 3) (dUn hNeg (retE (.dat (.int 1))))) (dCons (froze (dVar 6)) (dNil)))) (dBin gIx (dVar 1) (retE (.dat (.int 1))))))) (froze (dVar 6)) (tks.map drT) [] [x0, some (.dat (drawnD tks sts)), x2, some (.own (.lst (f.map D.str))), x4, x5, none, none] =
      some (.ok (.own (.lst ((comes tks sts f).map D.str))) [x0, some (.dat (drawnD tks sts)), x2, some (.own (.lst (f.map D.str))), x4, x5, none, none]) := by
  have few := b.few
  have lp := loopC_enc (vs := [6, 7]) (tg := tgT [6, 7]) (ft := dOrT (asB (dBin gEq (dVar 3) (dLst (dNil)))) (asB (dBin gIn (dTup (dCons (dBin gIx (dVar 3) (dUn hNeg (retE (.dat (.int 1))))) (dCons (froze (dVar 6)) (dNil)))) (dBin gIx (dVar 1) (retE (.dat (.int 1))))))) (fe := froze (dVar 6)) (ρ := [x0, some (.dat (drawnD tks sts)), x2, some (.own (.lst (f.map D.str))), x4, x5, none, none]) drT (fun t => canCome sts f t.1) (fun t => .str t.1) tks [] (by
    intro t ht
    refine ⟨[x0, some (.dat (drawnD tks sts)), x2, some (.own (.lst (f.map D.str))), x4, x5, some (.dat (.str t.1)), some (.dat (.lst (t.2.map rowL)))], rfl, rfl, ?_, fun _ => by simp⟩
    have sf : ∀ y ∈ f, shortS y = true := fun y hy => b.short y (hf y hy)
    have e1 := dEq_nil sf
    by_cases n : f = []
    · subst n
      have e1 : dEq (.lst []) (.lst []) = some true := by simpa using e1
      simp [canCome, e1]
    · obtain ⟨y, hy, my⟩ := last_ex n
      have a1 := atI_last (last_map hy)
      have st := b.short t.1 (List.mem_map_of_mem ht)
      have ip := in_pairs (p := (y, t.1)) (l := sts) (by unfold Sh.shortP; rw [sf y my, st]; rfl) b.shortP
      rw [decide_eq_false n] at e1
      have ec : canCome sts f t.1 = decide ((y, t.1) ∈ sts) := by simp [canCome, n, hy]
      rw [ec]
      unfold pairS at ip
      unfold drawnD
      generalize tks.map drT = ds
      generalize f.map D.str = fs at e1 a1 ⊢
      unfold pairS
      generalize (sts.map fun p => D.tup [.str p.1, .str p.2]) = ss at ip ⊢
      simp [e1, a1, ip]) (by simp; omega)
  rw [lp]
  simp [comes]
theorem mem_comes {tks : Tks} {sts : List (Str × Str)} {f : List Str} {x : Str} (h : x ∈ comes tks sts f) : x ∈ nmsOf tks ∧ ∀ y, f.getLast? = some y → (y, x) ∈ sts := by
  obtain ⟨t, ht, rfl⟩ := List.mem_map.mp h
  obtain ⟨h1, h2⟩ := List.mem_filter.mp ht
  refine ⟨List.mem_map_of_mem h1, fun y hy => ?_⟩
  have n : f ≠ [] := fun e => by subst e; cases hy
  simpa [canCome, n, hy] using h2
theorem comes_few {tks : Tks} {sts : List (Str × Str)} {f : List Str} : (comes tks sts f).length ≤ tks.length := by
  unfold comes
  rw [List.length_map]
  exact List.length_filter_le _ _
/-- _law_row -/
theorem law_row_ok2 (a b c : Int) {tks : Tks} {sts : List (Str × Str)} {p : Nat} (bd : BDrawn tks sts p) (m : Nat) (hm : m ≤ 1000) : ∃ (row : List Str) (a' b' c' : Int), Fit (nmsOf tks) sts row ∧ row.length ≤ m ∧ (∀ x ∈ row, x ∈ nmsOf tks) ∧
    F__law_row [bx a b c, some (.dat (drawnD tks sts)), some (.dat (.int m))] = some (.ok (.own (.lst (row.map D.str))) [bx a' b' c', none, none]) := by
  obtain ⟨n, a1, b1, c1, hn, e1⟩ := take2_ok a b c ((m : Int) + 1) (by omega) (by omega)
  obtain ⟨ρ', ⟨row, a', b', c', y4, y5, rfl, h1, h2, h3⟩, e⟩ := loopS_at (tg := tgN 4) (body := b__law_row_1) (rangeL 0 n) (fun i ρ => ∃ (row : List Str) (a' b' c' : Int) (y4 y5 : Option SV), ρ = [bx a' b' c', some (.dat (drawnD tks sts)), some (.dat (.int m)), some (.own (.lst (row.map D.str))), y4, y5, none, none] ∧ Fit (nmsOf tks) sts row ∧ row.length ≤ i ∧ ∀ x ∈ row, x ∈ nmsOf tks) (by
    rintro i d ρ hd ⟨row, a, b, c, y4, y5, rfl, h1, h2, h3⟩
    have hi : i < n := by
      have := (List.getElem?_eq_some_iff.mp hd).1
      rwa [rangeL_length] at this
    have few := bd.few
    have rs := row_some bd row h3 (bx a b c) (some (.dat (.int m))) (some (.dat d)) y5
    have cf := comes_few (tks := tks) (sts := sts) (f := row)
    have sc : ∀ y ∈ comes tks sts row, shortS y = true := fun y hy => bd.short y (mem_comes hy).1
    have q := dEq_nil sc
    have lr : row.length < 10000 := by omega
    refine ⟨[bx a b c, some (.dat (drawnD tks sts)), some (.dat (.int m)), some (.own (.lst (row.map D.str))), some (.dat d), y5, none, none], ?_⟩
    by_cases n0 : comes tks sts row = []
    · rw [decide_eq_true n0] at q
      refine ⟨[bx a b c, some (.dat (drawnD tks sts)), some (.dat (.int m)), some (.own (.lst (row.map D.str))), some (.dat d), some (.own (.lst ((comes tks sts row).map D.str))), none, none], rfl, .inl ?_, row, a, b, c, _, _, rfl, h1, by omega, h3⟩
      unfold drawnD at rs ⊢
      generalize (comes tks sts row).map D.str = cs at *
      generalize row.map D.str = fs at *
      generalize tks.map drT = ds at *
      generalize sts.map pairS = ss at *
      unfold bx at *
      simp [b__law_row_1, rs, q]
    · rw [decide_eq_false n0] at q
      obtain ⟨d', a2, b2, c2, md, ep⟩ := pick2_sees a b c (s := .lck (.lst ((comes tks sts row).map D.str))) (.lck _) (by rw [List.length_map]; exact List.length_pos_iff.mpr n0) (by rw [List.length_map]; omega)
      obtain ⟨x, hx, rfl⟩ := List.mem_map.mp md
      obtain ⟨m1, m2⟩ := mem_comes hx
      refine ⟨[bx a2 b2 c2, some (.dat (drawnD tks sts)), some (.dat (.int m)), some (.own (.lst ((row ++ [x]).map D.str))), some (.dat d), some (.own (.lst ((comes tks sts row).map D.str))), none, none], rfl, .inl ?_, row ++ [x], a2, b2, c2, _, _, rfl, fit_snoc.mpr ⟨h1, m1, m2⟩, by simp; omega, fun z hz => ?_⟩
      · have es : (row ++ [x]).map D.str = row.map D.str ++ [.str x] := by simp
        have lr' : (row.map D.str).length < 10000 := by simpa using lr
        rw [es]
        unfold drawnD at rs ⊢
        generalize (comes tks sts row).map D.str = cs at *
        generalize row.map D.str = fs at *
        generalize tks.map drT = ds at *
        generalize sts.map pairS = ss at *
        unfold bx at *
        simp [b__law_row_1, rs, q, ep, lr']
      · rcases List.mem_append.mp hz with hz | hz
        · exact h3 z hz
        · rw [List.mem_singleton.mp hz]; exact m1) (ρ := [bx a1 b1 c1, some (.dat (drawnD tks sts)), some (.dat (.int m)), some (.own (.lst [])), none, none, none, none]) ⟨[], a1, b1, c1, none, none, rfl, fit_nil _ _, Nat.le_refl _, fun x h => (by cases h)⟩
  rw [rangeL_length] at h2
  refine ⟨row, a', b', c', h1, by omega, h3, ?_⟩
  have hn' : n ≤ 100000 := by omega
  unfold drawnD at e ⊢
  generalize row.map D.str = fs at *
  generalize tks.map drT = ds at *
  generalize sts.map pairS = ss at *
  unfold bx at *
  simp [F__law_row, g__law_row, e1, e, hn']
theorem names_all (tks : Tks) : ([] : List D) ++ (tks.filter fun _ => true).map (fun t => D.str t.1) = (nmsOf tks).map D.str := by
  have : ∀ l : Tks, l.filter (fun _ => true) = l := fun l => List.filter_eq_self.mpr fun _ _ => rfl
  rw [this, List.nil_append, List.map_map]
  rfl
/-- _law_misfit -/
theorem misfit_ok {tks : Tks} {sts : List (Str × Str)} {p : Nat} (b : BDrawn tks sts p) {s : SV} {row : List Str} (hs : Sees s (row.map D.str)) (sh : ∀ x ∈ row, shortS x = true) :
    ∃ d, F__law_misfit [some (.dat (drawnD tks sts)), some s] = some (.ok (.dat d) [none, none]) ∧ (Fit (nmsOf tks) sts row → d = .non) ∧ (¬ Fit (nmsOf tks) sts row → ∃ i : Nat, d = .int i) := by
  have few := b.few
  have nm := fun x1 x3 x4 => loopC_enc (vs := [2, 5]) (tg := tgT [2, 5]) (ft := yesT) (fe := froze (dVar 2)) (ρ := [some (.dat (drawnD tks sts)), x1, none, x3, x4, none]) drT (fun t => true) (fun t => .str t.1) tks [] (by
    intro t ht
    refine ⟨[some (.dat (drawnD tks sts)), x1, some (.dat (.str t.1)), x3, x4, some (.dat (.lst (t.2.map rowL)))], rfl, rfl, rfl, fun _ => by simp⟩) (by simp; omega)
  rw [names_all] at nm
  have body : ∀ (s' : SV) (y5 : Option SV), Sees s' (row.map D.str) → ∀ (i : Nat) (x : Str), row[i]? = some x → (∀ j y, j < i → row[j]? = some y → y ∈ nmsOf tks) →
      (x ∈ nmsOf tks ∧ (∀ y, 0 < i → row[i - 1]? = some y → (y, x) ∈ sts) ∧ b__law_misfit_1 [some (.dat (drawnD tks sts)), some s', some (.dat (.str x)), some (.own (.lst ((nmsOf tks).map D.str))), some (.dat (.int i)), y5] = some (.nx [some (.dat (drawnD tks sts)), some s', some (.dat (.str x)), some (.own (.lst ((nmsOf tks).map D.str))), some (.dat (.int i)), y5])) ∨
      (¬ (x ∈ nmsOf tks ∧ ∀ y, 0 < i → row[i - 1]? = some y → (y, x) ∈ sts) ∧ b__law_misfit_1 [some (.dat (drawnD tks sts)), some s', some (.dat (.str x)), some (.own (.lst ((nmsOf tks).map D.str))), some (.dat (.int i)), y5] = some (.rt (.dat (.int i)) [some (.dat (drawnD tks sts)), some s', some (.dat (.str x)), some (.own (.lst ((nmsOf tks).map D.str))), some (.dat (.int i)), y5])) := by
    intro s' y5 hs' i x hx before
    have ix := in_lst (sh x (List.mem_of_getElem? hx)) b.short
    by_cases m : x ∈ nmsOf tks
    · rw [decide_eq_true m] at ix
      by_cases h0 : 0 < i
      · have il : i - 1 < row.length := by have := (List.getElem?_eq_some_iff.mp hx).1; omega
        have ey : row[i - 1]? = some row[i - 1] := List.getElem?_eq_getElem il
        generalize row[i - 1] = y at ey
        have my := before (i - 1) y (by omega) ey
        have ip := in_pairs (p := (y, x)) (l := sts) (by unfold Sh.shortP; rw [b.short y my, b.short x m]; rfl) b.shortP
        have at1 := atI_pred h0 ey
        by_cases c : (y, x) ∈ sts
        · refine .inl ⟨m, fun z _ ez => by rw [ey] at ez; cases ez; exact c, ?_⟩
          rw [decide_eq_true c] at ip
          unfold drawnD
          have ip : dIn (.tup [.str y, .str x]) (.lst (sts.map pairS)) = some true := ip
          generalize sts.map pairS = ss at ip ⊢
          generalize tks.map drT = ds
          generalize (nmsOf tks).map D.str = ns at ix ⊢
          generalize row.map D.str = rs at hs' at1
          cases hs' <;> simp [b__law_misfit_1, ix, ip, at1, h0, MO.see]
        · refine .inr ⟨fun z => c (z.2 y h0 ey), ?_⟩
          rw [decide_eq_false c] at ip
          unfold drawnD
          have ip : dIn (.tup [.str y, .str x]) (.lst (sts.map pairS)) = some false := ip
          generalize sts.map pairS = ss at ip ⊢
          generalize tks.map drT = ds
          generalize (nmsOf tks).map D.str = ns at ix ⊢
          generalize row.map D.str = rs at hs' at1
          cases hs' <;> simp [b__law_misfit_1, ix, ip, at1, h0, MO.see]
      · refine .inl ⟨m, fun y h => absurd h h0, ?_⟩
        obtain rfl : i = 0 := by omega
        generalize (nmsOf tks).map D.str = ns at ix ⊢
        simp [b__law_misfit_1, ix]
    · refine .inr ⟨fun z => m z.1, ?_⟩
      rw [decide_eq_false m] at ix
      generalize (nmsOf tks).map D.str = ns at ix ⊢
      simp [b__law_misfit_1, ix]
  have lp : ∀ s' : SV, Sees s' (row.map D.str) → (∃ x y z, loopS (tgT [4, 2]) b__law_misfit_1 (enumL (row.map D.str)) [some (.dat (drawnD tks sts)), some s', none, some (.own (.lst ((nmsOf tks).map D.str))), none, none] = some (.nx [some (.dat (drawnD tks sts)), some s', x, some (.own (.lst ((nmsOf tks).map D.str))), y, z]) ∧ Fit (nmsOf tks) sts row) ∨
      ∃ (i : Nat) (x y z : Option SV), loopS (tgT [4, 2]) b__law_misfit_1 (enumL (row.map D.str)) [some (.dat (drawnD tks sts)), some s', none, some (.own (.lst ((nmsOf tks).map D.str))), none, none] = some (.rt (.dat (.int i)) [some (.dat (drawnD tks sts)), some s', x, some (.own (.lst ((nmsOf tks).map D.str))), y, z]) ∧ ¬ Fit (nmsOf tks) sts row := by
    intro s' hs'
    have := loopS_upto (tg := tgT [4, 2]) (body := b__law_misfit_1) (enumL (row.map D.str)) (fun i ρ => (∃ x y z, ρ = [some (.dat (drawnD tks sts)), some s', x, some (.own (.lst ((nmsOf tks).map D.str))), y, z]) ∧ ∀ j x, j < i → row[j]? = some x → x ∈ nmsOf tks ∧ ∀ y, 0 < j → row[j - 1]? = some y → (y, x) ∈ sts)
      (fun i r ρ => (∃ x y z, ρ = [some (.dat (drawnD tks sts)), some s', x, some (.own (.lst ((nmsOf tks).map D.str))), y, z]) ∧ r = .dat (.int (i : Nat)) ∧ ¬ Fit (nmsOf tks) sts row) (by
      rintro i d ρ hd ⟨⟨x0, y0, z0, rfl⟩, before⟩
      have hi : i < row.length := by
        have := (List.getElem?_eq_some_iff.mp hd).1
        rwa [enumL_length, List.length_map] at this
      have ex : row[i]? = some row[i] := List.getElem?_eq_getElem hi
      generalize row[i] = x at ex
      rw [enumL_at (d := .str x) (by rw [List.getElem?_map, ex]; rfl)] at hd
      cases hd
      refine ⟨[some (.dat (drawnD tks sts)), some s', some (.dat (.str x)), some (.own (.lst ((nmsOf tks).map D.str))), some (.dat (.int (i : Int))), z0], rfl, ?_⟩
      rcases body s' z0 hs' i x ex (fun j y hj hy => (before j y hj hy).1) with ⟨h1, h2, h3⟩ | ⟨h1, h2⟩
      · refine .inl ⟨_, h3, ⟨_, _, _, rfl⟩, fun j y hj hy => ?_⟩
        by_cases e : j = i
        · subst e
          rw [ex] at hy
          cases hy
          exact ⟨h1, h2⟩
        · exact before j y (by omega) hy
      · exact .inr ⟨_, _, h2, ⟨_, _, _, rfl⟩, rfl, fun f => h1 (f i x ex)⟩) (ρ := [some (.dat (drawnD tks sts)), some s', none, some (.own (.lst ((nmsOf tks).map D.str))), none, none]) ⟨⟨none, none, none, rfl⟩, fun j x h => by omega⟩
    rcases this with ⟨ρ', e, ⟨x, y, z, rfl⟩, all⟩ | ⟨i, r, ρ', e, ⟨⟨x, y, z, rfl⟩, rfl, nf⟩, _⟩
    · refine .inl ⟨x, y, z, e, fun i x hx => all i x ?_ hx⟩
      rw [enumL_length, List.length_map]
      exact (List.getElem?_eq_some_iff.mp hx).1
    · exact .inr ⟨i, x, y, z, e, nf⟩
  clear body
  unfold drawnD at *
  generalize tks.map drT = ds at *
  generalize sts.map pairS = ss at *
  generalize (nmsOf tks).map D.str = ns at *
  cases hs with
  | lst =>
    rcases lp _ (.lst (row.map D.str)) with ⟨x, y, z, e, f⟩ | ⟨i, x, y, z, e, f⟩
    · exact ⟨.non, by generalize row.map D.str = rs at e; simp [F__law_misfit, g__law_misfit, nm, e], fun _ => rfl, fun n => absurd f n⟩
    · exact ⟨.int i, by generalize row.map D.str = rs at e; simp [F__law_misfit, g__law_misfit, nm, e], fun n => absurd n f, fun _ => ⟨i, rfl⟩⟩
  | tup =>
    rcases lp _ (.tup (row.map D.str)) with ⟨x, y, z, e, f⟩ | ⟨i, x, y, z, e, f⟩
    · exact ⟨.non, by generalize row.map D.str = rs at e; simp [F__law_misfit, g__law_misfit, nm, e], fun _ => rfl, fun n => absurd f n⟩
    · exact ⟨.int i, by generalize row.map D.str = rs at e; simp [F__law_misfit, g__law_misfit, nm, e], fun n => absurd n f, fun _ => ⟨i, rfl⟩⟩
  | lck =>
    rcases lp _ (.lck (row.map D.str)) with ⟨x, y, z, e, f⟩ | ⟨i, x, y, z, e, f⟩
    · exact ⟨.non, by generalize row.map D.str = rs at e; simp [F__law_misfit, g__law_misfit, nm, e, MO.see], fun _ => rfl, fun n => absurd f n⟩
    · exact ⟨.int i, by generalize row.map D.str = rs at e; simp [F__law_misfit, g__law_misfit, nm, e, MO.see], fun n => absurd n f, fun _ => ⟨i, rfl⟩⟩
end Sh
set_option Elab.async false
set_option linter.all false
set_option maxRecDepth 100000
set_option maxHeartbeats 4000000
/-! k13 -/
namespace Sh
open PySem PySem.Spec PyProof.Rows L2 Tk Pl
def bTps (tks : Tks) : List (Str × D) := tks.map fun t => (t.1, talkD t.2)
theorem bkD_book (tks : Tks) (st : List (Str × Str)) : bkD tks st = bookD (bTps tks) st := by
  unfold bkD bookD bTps
  rw [List.map_map]
  rfl
theorem names_bTps (tks : Tks) : namesOf (bTps (tks.map nrm)) = nmsOf tks := by
  show (bTps (tks.map nrm)).map (·.1) = tks.map (·.1)
  unfold bTps
  rw [List.map_map, List.map_map]
  rfl
theorem book_of_drawn {tks : Tks} {sts sts' : List (Str × Str)} {p : Nat} (b : BDrawn tks sts p) (ps : sts'.Perm sts) : BookOk (bTps (tks.map nrm)) sts' := by
  have few := b.few
  have fewS := b.fewS
  have pl := ps.length_eq
  refine ⟨by unfold bTps; rw [List.length_map, List.length_map]; omega, by omega, fun x hx => b.short x (by rwa [names_bTps] at hx), fun q hq => ?_⟩
  rw [names_bTps]
  exact b.st q (ps.subset hq)
/-- a list, as it stands or for good -/
inductive Hold : SV → List D → Prop
  | dat (l : List D) : Hold (.dat (.lst l)) l
  | own (l : List D) : Hold (.own (.lst l)) l
def lendS : SV → SV
  | .own m => .lck m
  | s => s
theorem Hold.sees {s : SV} {l : List D} (h : Hold s l) : Sees (lendS s) l := by cases h <;> constructor
theorem short_none : shortS "none" = true := by decide +kernel
theorem in_sts {tks : Tks} {sts : List (Str × Str)} {p : Nat} (b : BDrawn tks sts p) {x y : Str} (hx : shortS x = true) (hy : shortS y = true) : dIn (.tup [.str y, .str x]) (.lst (sts.map pairS)) = some (decide ((y, x) ∈ sts)) :=
  in_pairs (p := (y, x)) (l := sts) (by unfold Sh.shortP; rw [hx, hy]; rfl) b.shortP
theorem ring_perm {ns : List Str} {st st' : List (Str × Str)} (p : st'.Perm st) (r : List Str) : Ring ns st' r ↔ Ring ns st r :=
  ⟨fun ⟨f, x, y, h1, h2, h3⟩ => ⟨(fit_perm p r).mp f, x, y, h1, h2, p.subset h3⟩, fun ⟨f, x, y, h1, h2, h3⟩ => ⟨(fit_perm p r).mpr f, x, y, h1, h2, p.symm.subset h3⟩⟩
theorem k13_again {tks : Tks} {sts sts' : List (Str × Str)} {p : Nat} (bd : BDrawn tks sts p) (ps : sts'.Perm sts) {B : D} (hB : B = bkD (tks.map nrm) sts') {row : List Str} {s6 : SV} (h6 : Hold s6 (row.map D.str)) (sh : ∀ x ∈ row, shortS x = true) (hl : row.length ≤ 1000) (a0 b0 c0 : Int) {x0 x1 x3 x7 x8 x9 x10 x11 x12 x13 x14 x15 : Option SV} :
    ∃ (row' : List Str) (a' b' c' : Int) (y8 y9 y10 y11 y12 y13 : Option SV), (∀ x ∈ row', shortS x = true) ∧ row'.length ≤ row.length + 1 ∧
      b_law_k13_1 [x0, x1, some (.own (.lst [.int a0, .int b0, .int c0])), x3, some (.dat (drawnD tks sts)), some (.dat B), some s6, x7, x8, x9, x10, x11, x12, x13, x14, x15, none, none] = some (.nx [x0, x1, some (.own (.lst [.int a', .int b', .int c'])), x3, some (.dat (drawnD tks sts)), some (.dat B), some (.own (.lst (row'.map D.str))), x7, y8, y9, y10, y11, y12, y13, x14, x15, none, none]) := by
  have bo := book_of_drawn bd ps
  have eB : B = bookD (bTps (tks.map nrm)) sts' := by rw [hB, bkD_book]
  have few := bd.few
  have ir := fun {s : SV} (hs : Sees s (row.map D.str)) => is_row_ok bo hs sh
  have ig := fun {s : SV} (hs : Sees s (row.map D.str)) => is_ring_ok bo hs sh
  rw [← eB, names_bTps] at ir ig
  rw [show decide (Fit (nmsOf tks) sts' row) = decide (Fit (nmsOf tks) sts row) from decide_eq_decide.mpr (fit_perm ps row)] at ir
  rw [show decide (Ring (nmsOf tks) sts' row) = decide (Ring (nmsOf tks) sts row) from decide_eq_decide.mpr (ring_perm ps row)] at ig
  have q0 := dEq_nil sh
  have q1 := dEq_lstrs sh sh
  rw [decide_eq_true rfl] at q1
  have lr : (row.map D.str).length = row.length := List.length_map ..
  have e1 : (sSet 8 1 (dBin gIsN (dFn F__law_misfit (dCons (dLend (dVar 4)) (dCons (dLend (dVar 6)) (dNil)))) (retE (.dat .non)))) [x0, x1, some (.own (.lst [.int a0, .int b0, .int c0])), x3, some (.dat (drawnD tks sts)), some (.dat B), some s6, x7, x8, x9, x10, x11, x12, x13, x14, x15, none, none] = some (.nx [x0, x1, some (.own (.lst [.int a0, .int b0, .int c0])), x3, some (.dat (drawnD tks sts)), some (.dat B), some s6, x7, some (.dat (.bl (decide (Fit (nmsOf tks) sts row)))), x9, x10, x11, x12, x13, x14, x15, none, none]) := by
    obtain ⟨d, e, f1, f2⟩ := misfit_ok bd h6.sees sh
    by_cases f : Fit (nmsOf tks) sts row
    · obtain rfl := f1 f
      rw [decide_eq_true f]
      unfold drawnD at e ⊢
      generalize row.map D.str = rs at *
      cases h6 <;> (simp only [lendS] at e; simp [e])
    · obtain ⟨i, rfl⟩ := f2 f
      rw [decide_eq_false f]
      unfold drawnD at e ⊢
      generalize row.map D.str = rs at *
      cases h6 <;> (simp only [lendS] at e; simp [e])
  have e2 : (sSet 9 1 (dAndV (dVar 8) (dAndV (dBin gNe (dVar 6) (dLst (dNil))) (dBin gIn (dTup (dCons (dBin gIx (dVar 6) (dUn hNeg (retE (.dat (.int 1))))) (dCons (dBin gIx (dVar 6) (retE (.dat (.int 0)))) (dNil)))) (dBin gIx (dVar 4) (retE (.dat (.int 1)))))))) [x0, x1, some (.own (.lst [.int a0, .int b0, .int c0])), x3, some (.dat (drawnD tks sts)), some (.dat B), some s6, x7, some (.dat (.bl (decide (Fit (nmsOf tks) sts row)))), x9, x10, x11, x12, x13, x14, x15, none, none] = some (.nx [x0, x1, some (.own (.lst [.int a0, .int b0, .int c0])), x3, some (.dat (drawnD tks sts)), some (.dat B), some s6, x7, some (.dat (.bl (decide (Fit (nmsOf tks) sts row)))), some (.dat (.bl (decide (Ring (nmsOf tks) sts row)))), x10, x11, x12, x13, x14, x15, none, none]) := by
    by_cases f : Fit (nmsOf tks) sts row
    · by_cases n : row = []
      · have nr : ¬ Ring (nmsOf tks) sts row := fun ⟨_, x, y, h, _⟩ => by subst n; cases h
        rw [decide_eq_false nr, decide_eq_true f]
        rw [decide_eq_true n] at q0
        generalize row.map D.str = rs at *
        cases h6 <;> simp [q0]
      · obtain ⟨y, hy, my⟩ := last_ex n
        obtain ⟨x, hx⟩ : ∃ x, row[0]? = some x := ⟨_, List.getElem?_eq_getElem (List.length_pos_iff.mpr n)⟩
        have mx := List.mem_of_getElem? hx
        have a0 : atI (row.map D.str) 0 = some (.str x) := atI_str (i := 0) hx
        have a1 := atI_last (last_map hy)
        have ip := in_sts bd (sh x mx) (sh y my)
        have : Ring (nmsOf tks) sts row ↔ (y, x) ∈ sts := ⟨fun ⟨_, x', y', h1, h2, h3⟩ => by rw [hx] at h1; rw [hy] at h2; cases h1; cases h2; exact h3, fun h => ⟨f, x, y, hx, hy, h⟩⟩
        rw [show decide (Ring (nmsOf tks) sts row) = decide ((y, x) ∈ sts) from decide_eq_decide.mpr this, decide_eq_true f]
        rw [decide_eq_false n] at q0
        unfold drawnD
        generalize row.map D.str = rs at *
        generalize sts.map pairS = ss at *
        generalize tks.map drT = ds at *
        cases h6 <;> simp [q0, a0, a1, ip]
    · have nr : ¬ Ring (nmsOf tks) sts row := fun h => f h.1
      rw [decide_eq_false nr, decide_eq_false f]
      simp
  have e3 : (sSet 10 1 (dCall (gListOf) (dCons (dVar 6) (dNil)))) [x0, x1, some (.own (.lst [.int a0, .int b0, .int c0])), x3, some (.dat (drawnD tks sts)), some (.dat B), some s6, x7, some (.dat (.bl (decide (Fit (nmsOf tks) sts row)))), some (.dat (.bl (decide (Ring (nmsOf tks) sts row)))), x10, x11, x12, x13, x14, x15, none, none] = some (.nx [x0, x1, some (.own (.lst [.int a0, .int b0, .int c0])), x3, some (.dat (drawnD tks sts)), some (.dat B), some s6, x7, some (.dat (.bl (decide (Fit (nmsOf tks) sts row)))), some (.dat (.bl (decide (Ring (nmsOf tks) sts row)))), some (.own (.lst (row.map D.str))), x11, x12, x13, x14, x15, none, none]) := by
    generalize row.map D.str = rs at *
    cases h6 <;> simp
  have e4 : (sIf (dOrT (asB (dBin gNe (dFn F_is_row (dCons (dLend (dVar 5)) (dCons (dLend (dVar 10)) (dNil)))) (dVar 8))) (dOrT (asB (dBin gNe (dFn F_is_ring (dCons (dLend (dVar 5)) (dCons (dCall (gTupOf) (dCons (dVar 6) (dNil))) (dNil)))) (dVar 9))) (asB (dBin gNe (dVar 10) (dVar 6))))) (sRet (retE (.dat (.bl false)))) (nxS)) [x0, x1, some (.own (.lst [.int a0, .int b0, .int c0])), x3, some (.dat (drawnD tks sts)), some (.dat B), some s6, x7, some (.dat (.bl (decide (Fit (nmsOf tks) sts row)))), some (.dat (.bl (decide (Ring (nmsOf tks) sts row)))), some (.own (.lst (row.map D.str))), x11, x12, x13, x14, x15, none, none] = some (.nx [x0, x1, some (.own (.lst [.int a0, .int b0, .int c0])), x3, some (.dat (drawnD tks sts)), some (.dat B), some s6, x7, some (.dat (.bl (decide (Fit (nmsOf tks) sts row)))), some (.dat (.bl (decide (Ring (nmsOf tks) sts row)))), some (.own (.lst (row.map D.str))), x11, x12, x13, x14, x15, none, none]) := by
    have i1 := ir (Sees.lck _)
    have i2 := ig (Sees.tup _)
    generalize row.map D.str = rs at *
    cases h6 <;> simp [i1, i2, q1]
  have e5 : (sIf (dOrT (dNotT (asB (dCall (on2 hIsi) (dCons (dFn F_is_row (dCons (dLend (dVar 5)) (dCons (dLend (dVar 10)) (dNil)))) (dCons (retE (.dat (.ty "bool"))) (dNil)))))) (dNotT (asB (dCall (on2 hIsi) (dCons (dFn F_is_ring (dCons (dLend (dVar 5)) (dCons (dLend (dVar 6)) (dNil)))) (dCons (retE (.dat (.ty "bool"))) (dNil))))))) (sRet (retE (.dat (.bl false)))) (nxS)) [x0, x1, some (.own (.lst [.int a0, .int b0, .int c0])), x3, some (.dat (drawnD tks sts)), some (.dat B), some s6, x7, some (.dat (.bl (decide (Fit (nmsOf tks) sts row)))), some (.dat (.bl (decide (Ring (nmsOf tks) sts row)))), some (.own (.lst (row.map D.str))), x11, x12, x13, x14, x15, none, none] = some (.nx [x0, x1, some (.own (.lst [.int a0, .int b0, .int c0])), x3, some (.dat (drawnD tks sts)), some (.dat B), some s6, x7, some (.dat (.bl (decide (Fit (nmsOf tks) sts row)))), some (.dat (.bl (decide (Ring (nmsOf tks) sts row)))), some (.own (.lst (row.map D.str))), x11, x12, x13, x14, x15, none, none]) := by
    have i1 := ir (Sees.lck _)
    have i2 := ig (Sees.lck _)
    have i3 := ig (Sees.lst _)
    generalize row.map D.str = rs at *
    cases h6 <;> simp [i1, i2, i3, isKind]
  obtain ⟨d, a1, b1, c1, hd, et⟩ := take2_ok a0 b0 c0 ((row.length : Int) + 1) (by omega) (by omega)
  have e6 : (sSet 11 1 (dFn F__law_take_v2 (dCons (dVar 2) (dCons (dLend (dBin gAdd (dCall (on1 hLen) (dCons (dVar 6) (dNil))) (retE (.dat (.int 1))))) (dNil))))) [x0, x1, some (.own (.lst [.int a0, .int b0, .int c0])), x3, some (.dat (drawnD tks sts)), some (.dat B), some s6, x7, some (.dat (.bl (decide (Fit (nmsOf tks) sts row)))), some (.dat (.bl (decide (Ring (nmsOf tks) sts row)))), some (.own (.lst (row.map D.str))), x11, x12, x13, x14, x15, none, none] = some (.nx [x0, x1, some (.own (.lst [.int a1, .int b1, .int c1])), x3, some (.dat (drawnD tks sts)), some (.dat B), some s6, x7, some (.dat (.bl (decide (Fit (nmsOf tks) sts row)))), some (.dat (.bl (decide (Ring (nmsOf tks) sts row)))), some (.own (.lst (row.map D.str))), some (.dat (.int (d : Int))), x12, x13, x14, x15, none, none]) := by
    unfold bx at et
    generalize row.map D.str = rs at *
    cases h6 <;> simp [lr, et]
  obtain ⟨nd, a2, b2, c2, hn, ep⟩ := pick2_ok a1 b1 c1 ((nmsOf tks).map D.str ++ [.str "none"]) (by simp) (by simp; omega)
  obtain ⟨nm, rfl, sn⟩ : ∃ nm, nd = .str nm ∧ shortS nm = true := by
    rcases List.mem_append.mp hn with h | h
    · obtain ⟨x, hx, rfl⟩ := List.mem_map.mp h
      exact ⟨x, rfl, bd.short x hx⟩
    · exact ⟨_, List.mem_singleton.mp h, short_none⟩
  have e7 : (sSet 12 1 (dFn F__law_pick_v2 (dCons (dVar 2) (dCons (dLend (dBin gAdd (dLc [17, 16] (dItems (dBin gIx (dVar 4) (retE (.dat (.int 0))))) (tgT [17, 16]) (yesT) (dVar 17)) (dLst (dCons (retE (.dat (.str "none"))) (dNil))))) (dNil))))) [x0, x1, some (.own (.lst [.int a1, .int b1, .int c1])), x3, some (.dat (drawnD tks sts)), some (.dat B), some s6, x7, some (.dat (.bl (decide (Fit (nmsOf tks) sts row)))), some (.dat (.bl (decide (Ring (nmsOf tks) sts row)))), some (.own (.lst (row.map D.str))), some (.dat (.int (d : Int))), x12, x13, x14, x15, none, none] = some (.nx [x0, x1, some (.own (.lst [.int a2, .int b2, .int c2])), x3, some (.dat (drawnD tks sts)), some (.dat B), some s6, x7, some (.dat (.bl (decide (Fit (nmsOf tks) sts row)))), some (.dat (.bl (decide (Ring (nmsOf tks) sts row)))), some (.own (.lst (row.map D.str))), some (.dat (.int (d : Int))), some (.dat (.str nm)), x13, x14, x15, none, none]) := by
    have lp := loopC_enc (vs := [17, 16]) (tg := tgT [17, 16]) (ft := yesT) (fe := froze (dVar 17)) (ρ := [x0, x1, some (.own (.lst [.int a1, .int b1, .int c1])), x3, some (.dat (drawnD tks sts)), some (.dat B), some s6, x7, some (.dat (.bl (decide (Fit (nmsOf tks) sts row)))), some (.dat (.bl (decide (Ring (nmsOf tks) sts row)))), some (.own (.lst (row.map D.str))), some (.dat (.int (d : Int))), x12, x13, x14, x15, none, none]) drT (fun t => true) (fun t => .str t.1) tks [] (by
      intro t ht
      refine ⟨[x0, x1, some (.own (.lst [.int a1, .int b1, .int c1])), x3, some (.dat (drawnD tks sts)), some (.dat B), some s6, x7, some (.dat (.bl (decide (Fit (nmsOf tks) sts row)))), some (.dat (.bl (decide (Ring (nmsOf tks) sts row)))), some (.own (.lst (row.map D.str))), some (.dat (.int (d : Int))), x12, x13, x14, x15, some (.dat (.lst (t.2.map rowL))), some (.dat (.str t.1))], rfl, rfl, rfl, fun _ => by simp⟩) (by simp; omega)
    rw [names_all] at lp
    have ln : ((nmsOf tks).map D.str).length + 1 ≤ 10000 := by simp; omega
    unfold drawnD at lp ⊢
    unfold bx at ep
    generalize (nmsOf tks).map D.str = ns at *
    generalize sts.map pairS = ss at *
    generalize tks.map drT = ds at *
    simp [lp, ep, ln]
  obtain ⟨t, a3, b3, c3, ht, eq⟩ := take2_ok a2 b2 c2 2 (by decide) (by decide)
  have cut1 := cut_from (row.map D.str) (d + t)
  have cut2 := cut_to (row.map D.str) d
  rw [← List.map_drop] at cut1
  rw [← List.map_take] at cut2
  have dt : (d : Int) + (t : Int) = ((d + t : Nat) : Int) := by omega
  have e8 : (sSet 13 1 (dSlc (dVar 6) (dPart (dBin gAdd (dVar 11) (dFn F__law_take_v2 (dCons (dVar 2) (dCons (retE (.dat (.int 2))) (dNil)))))) (dNoPart))) [x0, x1, some (.own (.lst [.int a2, .int b2, .int c2])), x3, some (.dat (drawnD tks sts)), some (.dat B), some s6, x7, some (.dat (.bl (decide (Fit (nmsOf tks) sts row)))), some (.dat (.bl (decide (Ring (nmsOf tks) sts row)))), some (.own (.lst (row.map D.str))), some (.dat (.int (d : Int))), some (.dat (.str nm)), x13, x14, x15, none, none] = some (.nx [x0, x1, some (.own (.lst [.int a3, .int b3, .int c3])), x3, some (.dat (drawnD tks sts)), some (.dat B), some s6, x7, some (.dat (.bl (decide (Fit (nmsOf tks) sts row)))), some (.dat (.bl (decide (Ring (nmsOf tks) sts row)))), some (.own (.lst (row.map D.str))), some (.dat (.int (d : Int))), some (.dat (.str nm)), some (.own (.lst ((row.drop (d + t)).map D.str))), x14, x15, none, none]) := by
    unfold bx at eq
    generalize (row.drop (d + t)).map D.str = us at *
    generalize row.map D.str = rs at *
    rw [← dt] at cut1
    cases h6 <;> simp [eq, cut1]
  have e9 : (sSet 6 1 (dBin gAdd (dBin gAdd (dSlc (dVar 6) (dNoPart) (dPart (dVar 11))) (dLst (dCons (froze (dVar 12)) (dNil)))) (dVar 13))) [x0, x1, some (.own (.lst [.int a3, .int b3, .int c3])), x3, some (.dat (drawnD tks sts)), some (.dat B), some s6, x7, some (.dat (.bl (decide (Fit (nmsOf tks) sts row)))), some (.dat (.bl (decide (Ring (nmsOf tks) sts row)))), some (.own (.lst (row.map D.str))), some (.dat (.int (d : Int))), some (.dat (.str nm)), some (.own (.lst ((row.drop (d + t)).map D.str))), x14, x15, none, none] = some (.nx [x0, x1, some (.own (.lst [.int a3, .int b3, .int c3])), x3, some (.dat (drawnD tks sts)), some (.dat B), some (.own (.lst ((row.take d ++ [nm] ++ row.drop (d + t)).map D.str))), x7, some (.dat (.bl (decide (Fit (nmsOf tks) sts row)))), some (.dat (.bl (decide (Ring (nmsOf tks) sts row)))), some (.own (.lst (row.map D.str))), some (.dat (.int (d : Int))), some (.dat (.str nm)), some (.own (.lst ((row.drop (d + t)).map D.str))), x14, x15, none, none]) := by
    have l1 : ((row.take d).map D.str).length + 1 ≤ 10000 := by simp; omega
    have l2 : ((row.take d).map D.str ++ [D.str nm]).length + ((row.drop (d + t)).map D.str).length ≤ 10000 := by simp; omega
    have em : (row.take d ++ [nm] ++ row.drop (d + t)).map D.str = (row.take d).map D.str ++ [D.str nm] ++ (row.drop (d + t)).map D.str := by simp
    rw [em]
    generalize (row.drop (d + t)).map D.str = us at *
    generalize (row.take d).map D.str = ts at *
    generalize row.map D.str = rs at *
    simp only [List.length_append, List.length_singleton] at l2
    cases h6 <;> simp [cut2, l1, l2]
  have fin : b_law_k13_1 [x0, x1, some (.own (.lst [.int a0, .int b0, .int c0])), x3, some (.dat (drawnD tks sts)), some (.dat B), some s6, x7, x8, x9, x10, x11, x12, x13, x14, x15, none, none] = some (.nx [x0, x1, some (.own (.lst [.int a3, .int b3, .int c3])), x3, some (.dat (drawnD tks sts)), some (.dat B), some (.own (.lst ((row.take d ++ [nm] ++ row.drop (d + t)).map D.str))), x7, some (.dat (.bl (decide (Fit (nmsOf tks) sts row)))), some (.dat (.bl (decide (Ring (nmsOf tks) sts row)))), some (.own (.lst (row.map D.str))), some (.dat (.int (d : Int))), some (.dat (.str nm)), some (.own (.lst ((row.drop (d + t)).map D.str))), x14, x15, none, none]) := by
    unfold b_law_k13_1
    rw [seq_nx e1, seq_nx e2, seq_nx e3, seq_nx e4, seq_nx e5, seq_nx e6, seq_nx e7, seq_nx e8, e9]
  refine ⟨(row.take d ++ [nm] ++ row.drop (d + t)), a3, b3, c3, _, _, _, _, _, _, ?_, ?_, fin⟩
  · intro x hx
    rcases List.mem_append.mp hx with hx | hx
    · rcases List.mem_append.mp hx with hx | hx
      · exact sh x (List.mem_of_mem_take hx)
      · rw [List.mem_singleton.mp hx]; exact sn
    · exact sh x (List.mem_of_mem_drop hx)
  · simp; omega
end Sh
set_option Elab.async false
set_option linter.all false
set_option maxRecDepth 100000
set_option maxHeartbeats 4000000
namespace Sh
open PySem PySem.Spec PyProof.Rows L2 Tk Pl
theorem none_out : ("none" : Str) ∉ five := by decide +kernel
theorem fit_none {tks : Tks} {sts : List (Str × Str)} {p : Nat} (b : BDrawn tks sts p) (f : List Str) : ¬ Fit (nmsOf tks) sts (f ++ [("none" : Str)]) := fun h => none_out (b.five_ _ (fit_snoc.mp h).2.1)
theorem fit_bad {ns : List Str} {sts : List (Str × Str)} {f : List Str} {x y : Str} (hy : f.getLast? = some y) (n : (y, x) ∉ sts) : ¬ Fit ns sts (f ++ [x]) := fun h => n ((fit_snoc.mp h).2.2 y hy)
theorem far_last {f : List Str} (h : f ≠ []) : ∃ y, f.getLast? = some y ∧ y ∈ f := last_ex h
def badL (tks : Tks) (sts : List (Str × Str)) (f : List Str) : List Str := (tks.filter fun t => decide (f ≠ []) && !(match f.getLast? with
  | some y => decide ((y, t.1) ∈ sts)
  | none => false)).map (·.1)
theorem mem_bad {tks : Tks} {sts : List (Str × Str)} {f : List Str} {x : Str} (h : x ∈ badL tks sts f) : x ∈ nmsOf tks ∧ ∃ y, f.getLast? = some y ∧ (y, x) ∉ sts := by
  obtain ⟨t, ht, rfl⟩ := List.mem_map.mp h
  obtain ⟨h1, h2⟩ := List.mem_filter.mp ht
  refine ⟨List.mem_map_of_mem h1, ?_⟩
  rw [Bool.and_eq_true, decide_eq_true_eq] at h2
  obtain ⟨y, hy, _⟩ := far_last h2.1
  refine ⟨y, hy, ?_⟩
  have := h2.2
  simpa [hy] using this
theorem k13_three {tks : Tks} {sts sts' : List (Str × Str)} {p : Nat} (bd : BDrawn tks sts p) (ps : sts'.Perm sts) {B : D} (hB : B = bkD (tks.map nrm) sts') {row : List Str} (sh : ∀ x ∈ row, shortS x = true) (hl : row.length ≤ 100) (a0 b0 c0 : Int) {x0 x1 x3 x7 x8 x9 x10 x11 x12 x13 x14 x15 : Option SV} :
    ∃ (row' : List Str) (s6 : SV) (a' b' c' : Int) (y7 y8 y9 y10 y11 y12 y13 : Option SV),
      loopS (tgN 7) b_law_k13_1 (rangeL 0 3) [x0, x1, some (.own (.lst [.int a0, .int b0, .int c0])), x3, some (.dat (drawnD tks sts)), some (.dat B), some (.dat (.lst (row.map D.str))), x7, x8, x9, x10, x11, x12, x13, x14, x15, none, none] = some (.nx [x0, x1, some (.own (.lst [.int a', .int b', .int c'])), x3, some (.dat (drawnD tks sts)), some (.dat B), some s6, y7, y8, y9, y10, y11, y12, y13, x14, x15, none, none]) := by
  obtain ⟨ρ', ⟨row', s6, a, b, c, y7, y8, y9, y10, y11, y12, y13, rfl, _, _, _⟩, e⟩ := loopS_at (tg := tgN 7) (body := b_law_k13_1) (rangeL 0 3) (fun i ρ => ∃ (row' : List Str) (s6 : SV) (a b c : Int) (y7 y8 y9 y10 y11 y12 y13 : Option SV), ρ = [x0, x1, some (.own (.lst [.int a, .int b, .int c])), x3, some (.dat (drawnD tks sts)), some (.dat B), some s6, y7, y8, y9, y10, y11, y12, y13, x14, x15, none, none] ∧ Hold s6 (row'.map D.str) ∧ (∀ x ∈ row', shortS x = true) ∧ row'.length ≤ 100 + i) (by
    rintro i d ρ hd ⟨row', s6, a, b, c, y7, y8, y9, y10, y11, y12, y13, rfl, h1, h2, h3⟩
    have hi : i < 3 := by
      have := (List.getElem?_eq_some_iff.mp hd).1
      rwa [rangeL_length] at this
    obtain ⟨r2, a', b', c', z8, z9, z10, z11, z12, z13, g1, g2, e⟩ := k13_again bd ps hB h1 h2 (by omega) a b c (x0 := x0) (x1 := x1) (x3 := x3) (x7 := some (.dat d)) (x8 := y8) (x9 := y9) (x10 := y10) (x11 := y11) (x12 := y12) (x13 := y13) (x14 := x14) (x15 := x15)
    exact ⟨_, _, rfl, .inl e, r2, _, a', b', c', _, _, _, _, _, _, _, rfl, .own _, g1, by omega⟩) (ρ := [x0, x1, some (.own (.lst [.int a0, .int b0, .int c0])), x3, some (.dat (drawnD tks sts)), some (.dat B), some (.dat (.lst (row.map D.str))), x7, x8, x9, x10, x11, x12, x13, x14, x15, none, none]) ⟨row, _, a0, b0, c0, _, _, _, _, _, _, _, rfl, .dat _, sh, by omega⟩
  exact ⟨row', s6, a, b, c, y7, y8, y9, y10, y11, y12, y13, e⟩
theorem k13_turn (a0 b0 c0 : Int) {x0 x1 x3 x4 x5 x6 x7 x8 x9 x10 x11 x12 x13 x14 x15 : Option SV} : ∃ (a' b' c' : Int) (z4 z5 z6 z7 z8 z9 z10 z11 z12 z13 z14 z15 : Option SV),
    b_law_k13_2 [x0, x1, some (.own (.lst [.int a0, .int b0, .int c0])), x3, x4, x5, x6, x7, x8, x9, x10, x11, x12, x13, x14, x15, none, none] = some (.nx [x0, x1, some (.own (.lst [.int a', .int b', .int c'])), x3, z4, z5, z6, z7, z8, z9, z10, z11, z12, z13, z14, z15, none, none]) := by
  obtain ⟨t, a1, b1, c1, ht, e1⟩ := take2_ok a0 b0 c0 3 (by decide) (by decide)
  have hp : (1 : Int) + (t : Int) = ((1 + t : Nat) : Int) := by omega
  obtain ⟨tks, sts, a2, b2, c2, bd, e2⟩ := law_book_ok a1 b1 c1 (1 + t) 5 (by omega) (by omega) (by decide) (by decide)
  obtain ⟨sts', ps, e3⟩ := law_book_of_ok bd (by omega) (by omega)
  obtain ⟨B, hB⟩ : ∃ B, B = bkD (tks.map nrm) sts' := ⟨_, rfl⟩
  rw [← hB] at e3
  have few := bd.few
  obtain ⟨row, a3, b3, c3, f1, f2, f3, e4⟩ := law_row_ok2 a2 b2 c2 bd 8 (by decide)
  have sr : ∀ x ∈ row, shortS x = true := fun x hx => bd.short x (f3 x hx)
  obtain ⟨row', s6, a4, b4, c4, y7, y8, y9, y10, y11, y12, y13, e5⟩ := k13_three bd ps hB sr (by omega) a3 b3 c3 (x0 := x0) (x1 := x1) (x3 := x3) (x7 := x7) (x8 := x8) (x9 := x9) (x10 := x10) (x11 := x11) (x12 := x12) (x13 := x13) (x14 := x14) (x15 := x15)
  obtain ⟨far, a5, b5, c5, g1, g2, g3, e6⟩ := law_row_ok2 a4 b4 c4 bd 39 (by decide)
  have sf : ∀ x ∈ far, shortS x = true := fun x hx => bd.short x (g3 x hx)
  have bo := book_of_drawn bd ps
  have eB : B = bookD (bTps (tks.map nrm)) sts' := by rw [hB, bkD_book]
  have is := fun {s : SV} {r : List Str} (hs : Sees s (r.map D.str)) (sh : ∀ x ∈ r, shortS x = true) => is_row_ok bo hs sh
  have ig := fun {s : SV} {r : List Str} (hs : Sees s (r.map D.str)) (sh : ∀ x ∈ r, shortS x = true) => is_ring_ok bo hs sh
  rw [← eB, names_bTps] at is ig
  clear eB
  have q1 : (sSet 4 1 (dFn F__law_book (dCons (dVar 2) (dCons (dLend (dBin gAdd (retE (.dat (.int 1))) (dFn F__law_take_v2 (dCons (dVar 2) (dCons (retE (.dat (.int 3))) (dNil)))))) (dCons (retE (.dat (.int 5))) (dNil)))))) [x0, x1, some (.own (.lst [.int a0, .int b0, .int c0])), x3, x4, x5, x6, x7, x8, x9, x10, x11, x12, x13, x14, x15, none, none] = some (.nx [x0, x1, some (.own (.lst [.int a2, .int b2, .int c2])), x3, some (.dat (drawnD tks sts)), x5, x6, x7, x8, x9, x10, x11, x12, x13, x14, x15, none, none]) := by
    have e2 : F__law_book [bx a1 b1 c1, some (.dat (.int ((1 + t : Nat) : Int))), some (.dat (.int 5))] = _ := e2
    unfold bx at e1 e2
    unfold drawnD at *
    generalize tks.map drT = ds at *
    generalize sts.map pairS = ss at *
    rw [← hp] at e2
    simp [e1, e2]
  have q2 : (sAsg (tgT [5, 6]) (dTup (dCons (froze (dFn F__law_book_of (dCons (dLend (dVar 4)) (dNil)))) (dCons (froze (dFn F__law_row (dCons (dVar 2) (dCons (dLend (dVar 4)) (dCons (retE (.dat (.int 8))) (dNil)))))) (dNil))))) [x0, x1, some (.own (.lst [.int a2, .int b2, .int c2])), x3, some (.dat (drawnD tks sts)), x5, x6, x7, x8, x9, x10, x11, x12, x13, x14, x15, none, none] = some (.nx [x0, x1, some (.own (.lst [.int a3, .int b3, .int c3])), x3, some (.dat (drawnD tks sts)), some (.dat B), some (.dat (.lst (row.map D.str))), x7, x8, x9, x10, x11, x12, x13, x14, x15, none, none]) := by
    have e4 : F__law_row [bx a2 b2 c2, some (.dat (drawnD tks sts)), some (.dat (.int 8))] = _ := e4
    unfold bx at e4
    unfold drawnD at *
    generalize tks.map drT = ds at *
    generalize sts.map pairS = ss at *
    generalize row.map D.str = rs at *
    simp [e3, e4]
  have q3 : (sFor (dRange1 (retE (.dat (.int 3)))) (tgN 7) (b_law_k13_1)) [x0, x1, some (.own (.lst [.int a3, .int b3, .int c3])), x3, some (.dat (drawnD tks sts)), some (.dat B), some (.dat (.lst (row.map D.str))), x7, x8, x9, x10, x11, x12, x13, x14, x15, none, none] = some (.nx [x0, x1, some (.own (.lst [.int a4, .int b4, .int c4])), x3, some (.dat (drawnD tks sts)), some (.dat B), some s6, y7, y8, y9, y10, y11, y12, y13, x14, x15, none, none]) := by
    have := turns_fi 3 (by decide)
    rw [ev_for, ev_bindS]
    have e : dRange1 (retE (.dat (.int 3))) [x0, x1, some (.own (.lst [.int a3, .int b3, .int c3])), x3, some (.dat (drawnD tks sts)), some (.dat B), some (.dat (.lst (row.map D.str))), x7, x8, x9, x10, x11, x12, x13, x14, x15, none, none] = _ := this _
    rw [e]
    exact e5
  have q4 : (sSet 14 1 (dFn F__law_row (dCons (dVar 2) (dCons (dLend (dVar 4)) (dCons (retE (.dat (.int 39))) (dNil)))))) [x0, x1, some (.own (.lst [.int a4, .int b4, .int c4])), x3, some (.dat (drawnD tks sts)), some (.dat B), some s6, y7, y8, y9, y10, y11, y12, y13, x14, x15, none, none] = some (.nx [x0, x1, some (.own (.lst [.int a5, .int b5, .int c5])), x3, some (.dat (drawnD tks sts)), some (.dat B), some s6, y7, y8, y9, y10, y11, y12, y13, some (.own (.lst (far.map D.str))), x15, none, none]) := by
    have e6 : F__law_row [bx a4 b4 c4, some (.dat (drawnD tks sts)), some (.dat (.int 39))] = _ := e6
    unfold bx at e6
    unfold drawnD at *
    generalize tks.map drT = ds at *
    generalize sts.map pairS = ss at *
    generalize far.map D.str = rs at *
    simp [e6]
  have i1 := is (Sees.lck _) sf
  rw [decide_eq_true ((fit_perm ps far).mpr g1)] at i1
  have sfn : ∀ x ∈ far ++ [("none" : Str)], shortS x = true := fun x hx => by
    rcases List.mem_append.mp hx with hx | hx
    · exact sf x hx
    · rw [List.mem_singleton.mp hx]; exact short_none
  have i2 := is (Sees.lst _) sfn
  rw [decide_eq_false (fun h => fit_none bd far ((fit_perm ps _).mp h))] at i2
  rw [show (far ++ [("none" : Str)]).map D.str = far.map D.str ++ [.str "none"] by simp] at i2
  have lf : (far.map D.str).length + 1 ≤ 10000 := by rw [List.length_map]; omega
  have q5 : (sIf (dOrT (asB (dBin gNotB (dFn F_is_row (dCons (dLend (dVar 5)) (dCons (dLend (dVar 14)) (dNil)))) (retE (.dat (.bl true))))) (asB (dBin gNotB (dFn F_is_row (dCons (dLend (dVar 5)) (dCons (dLend (dBin gAdd (dVar 14) (dLst (dCons (retE (.dat (.str "none"))) (dNil))))) (dNil)))) (retE (.dat (.bl false)))))) (sRet (retE (.dat (.bl false)))) (nxS)) [x0, x1, some (.own (.lst [.int a5, .int b5, .int c5])), x3, some (.dat (drawnD tks sts)), some (.dat B), some s6, y7, y8, y9, y10, y11, y12, y13, some (.own (.lst (far.map D.str))), x15, none, none] = some (.nx [x0, x1, some (.own (.lst [.int a5, .int b5, .int c5])), x3, some (.dat (drawnD tks sts)), some (.dat B), some s6, y7, y8, y9, y10, y11, y12, y13, some (.own (.lst (far.map D.str))), x15, none, none]) := by
    generalize far.map D.str = fs at *
    simp [i1, i2, lf]
  have n0 := dEq_nil sf
  have q6 : (sSet 15 1 (dLc [12, 16] (dItems (dBin gIx (dVar 4) (retE (.dat (.int 0))))) (tgT [12, 16]) (dAndT (asB (dBin gNe (dVar 14) (dLst (dNil)))) (asB (dBin gNotIn (dTup (dCons (dBin gIx (dVar 14) (dUn hNeg (retE (.dat (.int 1))))) (dCons (froze (dVar 12)) (dNil)))) (dBin gIx (dVar 4) (retE (.dat (.int 1))))))) (dVar 12))) [x0, x1, some (.own (.lst [.int a5, .int b5, .int c5])), x3, some (.dat (drawnD tks sts)), some (.dat B), some s6, y7, y8, y9, y10, y11, y12, y13, some (.own (.lst (far.map D.str))), x15, none, none] = some (.nx [x0, x1, some (.own (.lst [.int a5, .int b5, .int c5])), x3, some (.dat (drawnD tks sts)), some (.dat B), some s6, y7, y8, y9, y10, y11, none, y13, some (.own (.lst (far.map D.str))), some (.own (.lst ((badL tks sts far).map D.str))), none, none]) := by
    have lp := loopC_enc (vs := [12, 16]) (tg := tgT [12, 16]) (ft := dAndT (asB (dBin gNe (dVar 14) (dLst (dNil)))) (asB (dBin gNotIn (dTup (dCons (dBin gIx (dVar 14) (dUn hNeg (retE (.dat (.int 1))))) (dCons (froze (dVar 12)) (dNil)))) (dBin gIx (dVar 4) (retE (.dat (.int 1))))))) (fe := froze (dVar 12)) (ρ := [x0, x1, some (.own (.lst [.int a5, .int b5, .int c5])), x3, some (.dat (drawnD tks sts)), some (.dat B), some s6, y7, y8, y9, y10, y11, none, y13, some (.own (.lst (far.map D.str))), x15, none, none]) drT (fun t => decide (far ≠ []) && !(match far.getLast? with | some y => decide ((y, t.1) ∈ sts) | none => false)) (fun t => .str t.1) tks [] (by
      intro t ht
      refine ⟨[x0, x1, some (.own (.lst [.int a5, .int b5, .int c5])), x3, some (.dat (drawnD tks sts)), some (.dat B), some s6, y7, y8, y9, y10, y11, some (.dat (.str t.1)), y13, some (.own (.lst (far.map D.str))), x15, some (.dat (.lst (t.2.map rowL))), none], rfl, rfl, ?_, fun _ => by simp⟩
      by_cases n : far = []
      · rw [decide_eq_true n] at n0
        have en : (decide (far ≠ []) && !(match far.getLast? with | some y => decide ((y, t.1) ∈ sts) | none => false)) = false := by simp [n]
        rw [en]
        generalize far.map D.str = fs at *
        simp [n0]
      · obtain ⟨y, hy, my⟩ := far_last n
        have a1 := atI_last (last_map hy)
        have ip := in_sts bd (bd.short t.1 (List.mem_map_of_mem ht)) (sf y my)
        rw [decide_eq_false n] at n0
        have en : (decide (far ≠ []) && !(match far.getLast? with | some y => decide ((y, t.1) ∈ sts) | none => false)) = !decide ((y, t.1) ∈ sts) := by simp [n, hy]
        rw [en]
        unfold drawnD
        generalize tks.map drT = ds at *
        generalize sts.map pairS = ss at *
        generalize far.map D.str = fs at *
        simp [n0, a1, ip]) (by simp; omega)
    have en : ([] : List D) ++ (tks.filter fun t => decide (far ≠ []) && !(match far.getLast? with | some y => decide ((y, t.1) ∈ sts) | none => false)).map (fun t => D.str t.1) = (badL tks sts far).map D.str := by simp [badL]
    rw [en] at lp
    unfold drawnD at lp ⊢
    generalize (badL tks sts far).map D.str = bs at *
    generalize tks.map drT = ds at *
    generalize sts.map pairS = ss at *
    generalize far.map D.str = fs at *
    simp [lp]
  have nn : dEq (.lst []) (.lst []) = some true := by decide +kernel
  have q7 : (sIf (asB (dBin gNe (dLc [12] (dItems (dVar 15)) (tgN 12) (asB (dFn F_is_row (dCons (dLend (dVar 5)) (dCons (dLend (dBin gAdd (dVar 14) (dLst (dCons (froze (dVar 12)) (dNil))))) (dNil))))) (dVar 12)) (dLst (dNil)))) (sRet (retE (.dat (.bl false)))) (nxS)) [x0, x1, some (.own (.lst [.int a5, .int b5, .int c5])), x3, some (.dat (drawnD tks sts)), some (.dat B), some s6, y7, y8, y9, y10, y11, none, y13, some (.own (.lst (far.map D.str))), some (.own (.lst ((badL tks sts far).map D.str))), none, none] = some (.nx [x0, x1, some (.own (.lst [.int a5, .int b5, .int c5])), x3, some (.dat (drawnD tks sts)), some (.dat B), some s6, y7, y8, y9, y10, y11, none, y13, some (.own (.lst (far.map D.str))), some (.own (.lst ((badL tks sts far).map D.str))), none, none]) := by
    have lb : (badL tks sts far).length ≤ 5 := by
      unfold badL
      rw [List.length_map]
      exact Nat.le_trans (List.length_filter_le _ _) few
    have lp := loopC_enc (vs := [12]) (tg := tgN 12) (ft := asB (dFn F_is_row (dCons (dLend (dVar 5)) (dCons (dLend (dBin gAdd (dVar 14) (dLst (dCons (froze (dVar 12)) (dNil))))) (dNil))))) (fe := froze (dVar 12)) (ρ := [x0, x1, some (.own (.lst [.int a5, .int b5, .int c5])), x3, some (.dat (drawnD tks sts)), some (.dat B), some s6, y7, y8, y9, y10, y11, none, y13, some (.own (.lst (far.map D.str))), some (.lck (.lst ((badL tks sts far).map D.str))), none, none]) D.str (fun _ => false) D.str (badL tks sts far) [] (by
      intro x hx
      obtain ⟨m1, y, hy, n⟩ := mem_bad hx
      refine ⟨[x0, x1, some (.own (.lst [.int a5, .int b5, .int c5])), x3, some (.dat (drawnD tks sts)), some (.dat B), some s6, y7, y8, y9, y10, y11, some (.dat (.str x)), y13, some (.own (.lst (far.map D.str))), some (.lck (.lst ((badL tks sts far).map D.str))), none, none], rfl, rfl, ?_, fun h => by cases h⟩
      have i3 := is (Sees.lst _) (r := far ++ [x]) (fun z hz => by
        rcases List.mem_append.mp hz with hz | hz
        · exact sf z hz
        · rw [List.mem_singleton.mp hz]; exact bd.short x m1)
      rw [decide_eq_false (fun h => fit_bad hy n ((fit_perm ps _).mp h))] at i3
      rw [show (far ++ [x]).map D.str = far.map D.str ++ [.str x] by simp] at i3
      generalize (badL tks sts far).map D.str = bs at *
      generalize far.map D.str = fs at *
      simp [i3, lf]) (by simp; omega)
    have en : ([] : List D) ++ ((badL tks sts far).filter fun _ => false).map D.str = [] := by simp
    rw [en] at lp
    generalize (badL tks sts far).map D.str = bs at *
    generalize far.map D.str = fs at *
    simp [lp, nn]
  have q8 : (sIf (dOrT (asB (dBin gNotB (dFn F_is_row (dCons (dLend (dVar 5)) (dCons (dLend (dLst (dNil))) (dNil)))) (retE (.dat (.bl true))))) (asB (dBin gNotB (dFn F_is_ring (dCons (dLend (dVar 5)) (dCons (dTup (dNil)) (dNil)))) (retE (.dat (.bl false)))))) (sRet (retE (.dat (.bl false)))) (nxS)) [x0, x1, some (.own (.lst [.int a5, .int b5, .int c5])), x3, some (.dat (drawnD tks sts)), some (.dat B), some s6, y7, y8, y9, y10, y11, none, y13, some (.own (.lst (far.map D.str))), some (.own (.lst ((badL tks sts far).map D.str))), none, none] = some (.nx [x0, x1, some (.own (.lst [.int a5, .int b5, .int c5])), x3, some (.dat (drawnD tks sts)), some (.dat B), some s6, y7, y8, y9, y10, y11, none, y13, some (.own (.lst (far.map D.str))), some (.own (.lst ((badL tks sts far).map D.str))), none, none]) := by
    have j1 := is (r := []) (Sees.lst _) (fun x h => by cases h)
    have j2 := ig (r := []) (Sees.tup _) (fun x h => by cases h)
    rw [decide_eq_true (fit_nil _ _)] at j1
    rw [decide_eq_false (fun ⟨_, x, y, h, _⟩ => by cases h)] at j2
    simp only [List.map_nil] at j1 j2
    generalize (badL tks sts far).map D.str = bs at *
    generalize far.map D.str = fs at *
    simp [j1, j2]
  have fin : b_law_k13_2 [x0, x1, some (.own (.lst [.int a0, .int b0, .int c0])), x3, x4, x5, x6, x7, x8, x9, x10, x11, x12, x13, x14, x15, none, none] = some (.nx [x0, x1, some (.own (.lst [.int a5, .int b5, .int c5])), x3, some (.dat (drawnD tks sts)), some (.dat B), some s6, y7, y8, y9, y10, y11, none, y13, some (.own (.lst (far.map D.str))), some (.own (.lst ((badL tks sts far).map D.str))), none, none]) := by
    unfold b_law_k13_2
    rw [seq_nx q1, seq_nx q2, seq_nx q3, seq_nx q4, seq_nx q5, seq_nx q6, seq_nx q7, q8]
  exact ⟨a5, b5, c5, _, _, _, _, _, _, _, _, _, _, _, _, fin⟩
end Sh
set_option Elab.async false
set_option linter.all false
set_option maxRecDepth 100000
set_option maxHeartbeats 4000000
namespace Sh
open PySem PySem.Spec PyProof.Rows L2 Tk Pl
theorem k13_step {x0 x1 : Option SV} (d : D) (a b c : Int) (ys : Sl) (hy : ys.length = 12) : ∃ ρ', b_law_k13_2 (x0 :: x1 :: bx a b c :: some (.dat d) :: (ys ++ List.replicate 2 none)) = some (.nx ρ') ∧ ∃ a' b' c', Slots [x0, x1, bx a' b' c', some (.dat d)] 12 2 ρ' :=
  match ys, hy with
  | [y4, y5, y6, y7, y8, y9, y10, y11, y12, y13, y14, y15], _ => by
    obtain ⟨a', b', c', z4, z5, z6, z7, z8, z9, z10, z11, z12, z13, z14, z15, e⟩ := k13_turn (x0 := x0) (x1 := x1) (x3 := some (.dat d)) (x4 := y4) (x5 := y5) (x6 := y6) (x7 := y7) (x8 := y8) (x9 := y9) (x10 := y10) (x11 := y11) (x12 := y12) (x13 := y13) (x14 := y14) (x15 := y15) a b c
    exact ⟨_, e, a', b', c', [z4, z5, z6, z7, z8, z9, z10, z11, z12, z13, z14, z15], rfl, rfl⟩
theorem box2_call (o : Nat) (ho : o ≤ 1000) (ns : List Int) (k : Nat) (hk : k ≤ 63) (ys : Sl) : ∃ a b c, dFn F__law_box_v2 (dCons (dLend (dVar 0)) (dCons (dLend (dVar 1)) (dCons (retE (.dat (.int (o : Nat)))) dNil))) (some (.dat (.wri (ns.map D.int))) :: some (.dat (.int (k : Int))) :: ys) =
    some (.ok (.own (.lst [.int a, .int b, .int c])) (some (.dat (.wri (ns.map D.int))) :: some (.dat (.int (k : Int))) :: ys)) := by
  obtain ⟨a, b, c, e⟩ := box2_ok ns k o hk ho
  exact ⟨a, b, c, by simp [e]⟩
theorem law13_true (ns : List Int) (h : ns.length ≤ 63) : ∃ ρ, g_law_k13 (some (.dat (.wri (ns.map D.int))) :: List.replicate (K13.N_law.length - 1) none) = some (.rt (.dat (.bl true)) ρ) := by
  refine frame_ok (n := 14) (m := 2) (c := max 1 (min 4 ns.length)) (cells_fi' 4 ns h (by decide)) (fun y ys hy => ⟨_, rfl⟩) fun k ys hk hy =>
    cell_ok (n := 12) (ds := rangeL 0 4) (box2_call 13 (by decide) ns k (by omega)) (fun ys => turns_fi 4 (by decide) _) (fun d a b c ys _ hy => k13_step d a b c ys hy) ys hy
end Sh
set_option Elab.async false
set_option linter.all false
set_option maxRecDepth 100000
set_option maxHeartbeats 16000000
namespace K13
open PySem PySem.Spec PyProof.Rows L2 Tk Pl Sh
theorem tailVE {ct : Addr} : PySem.HandSPX.Tail [.ref ct, .type "ValueError", .type "Exception", .type "BaseException", .type "object"] "ValueError" :=
  ⟨(PySem.HandSPX.refsVE_contains _ _ rfl).trans (by decide +kernel), (PySem.HandSPX.refsVE_contains _ _ rfl).trans (by decide +kernel), (PySem.HandSPX.refsVE_contains _ _ rfl).trans (by decide +kernel)⟩
theorem obVE {c ct : Addr} : (Value.ref c :: [.ref ct, .type "ValueError", .type "Exception", .type "BaseException", .type "object"]).contains (.type "object") = true := (PySem.HandSPX.refsVE_contains "object" _ rfl).trans (by decide +kernel)
abbrev s_InvalidBook___init__ : Stmt := inClass (topOf PySem.Challenge.pw_talkmeans_k13_rows_and_rings 5) 0
theorem ok_InvalidBook___init__ {P : Program} {w : World} {K : PySem.W.Frag} {mg : Str → Option Value} {base : Heap} {f : Addr} {fd : FuncData} (F0 : Fun K "__init__" "InvalidBook.__init__" s_InvalidBook___init__ f fd) : FnOk P w K mg base CX0 1 f fd ["self", "word"] (spInit K "word") := by
  have sc : FnScope ["self", "word"] ["self", "word"] (defScope s_InvalidBook___init__) := ⟨rfl, rfl, rfl, by decide +kernel, rfl, by decide +kernel, by decide +kernel⟩
  refine F0.ok sc (fun vs H Q E h => ?_) (fun cdv A outer s H vs Q E hr h => ?_)
  · obtain ⟨a, C, y, rfl, _⟩ := h
    rfl
  obtain ⟨a, C, y, rfl, T, no, ea, q⟩ := h
  refine ⟨_, pss_one (ps_first (pv 0) (pv 1)), ?_⟩
  exact ⟨_, rfl, _, rfl, a, C, rfl, T, no, ea, q⟩
abbrev s_InvalidTalk___init__ : Stmt := inClass (topOf PySem.Challenge.pw_talkmeans_k13_rows_and_rings 4) 0
theorem ok_InvalidTalk___init__ {P : Program} {w : World} {K : PySem.W.Frag} {mg : Str → Option Value} {base : Heap} {f : Addr} {fd : FuncData} (F0 : Fun K "__init__" "InvalidTalk.__init__" s_InvalidTalk___init__ f fd) : FnOk P w K mg base CX0 1 f fd ["self", "at"] (spInit K "at") := by
  have sc : FnScope ["self", "at"] ["self", "at"] (defScope s_InvalidTalk___init__) := ⟨rfl, rfl, rfl, by decide +kernel, rfl, by decide +kernel, by decide +kernel⟩
  refine F0.ok sc (fun vs H Q E h => ?_) (fun cdv A outer s H vs Q E hr h => ?_)
  · obtain ⟨a, C, y, rfl, _⟩ := h
    rfl
  obtain ⟨a, C, y, rfl, T, no, ea, q⟩ := h
  refine ⟨_, pss_one (ps_first (pv 0) (pv 1)), ?_⟩
  exact ⟨_, rfl, _, rfl, a, C, rfl, T, no, ea, q⟩
theorem all_mk {l : PySem.W.OpenLaw} {w : World} {K : PySem.W.Frag} {h : Heap} {mg : Str → Option Value} {fa : Addr} (X : K.In h) (G : h.Ns mainGlobals mg) (hfa : mg "law" = some (.ref fa))
    {c_Talk : Addr}
    {c_InvalidBook : Addr}
    {c_Book : Addr}
    {c_InvalidTalk : Addr}
    {f__law_box : Addr} {od__law_box an__law_box : Option Addr} {sl__law_box : Array (Option Value)} {oc__law_box kV__law_box dc__law_box pm__law_box cd__law_box ct__law_box : Value}
    {f__law_take : Addr} {od__law_take an__law_take : Option Addr} {sl__law_take : Array (Option Value)} {oc__law_take kV__law_take dc__law_take pm__law_take cd__law_take ct__law_take : Value}
    {f__law_mixed : Addr} {od__law_mixed an__law_mixed : Option Addr} {sl__law_mixed : Array (Option Value)} {oc__law_mixed kV__law_mixed dc__law_mixed pm__law_mixed cd__law_mixed ct__law_mixed : Value}
    {f__law_pick : Addr} {od__law_pick an__law_pick : Option Addr} {sl__law_pick : Array (Option Value)} {oc__law_pick kV__law_pick dc__law_pick pm__law_pick cd__law_pick ct__law_pick : Value}
    {f__law_weights : Addr} {od__law_weights an__law_weights : Option Addr} {sl__law_weights : Array (Option Value)} {oc__law_weights kV__law_weights dc__law_weights pm__law_weights cd__law_weights ct__law_weights : Value}
    {f__law_book : Addr} {od__law_book an__law_book : Option Addr} {sl__law_book : Array (Option Value)} {oc__law_book kV__law_book dc__law_book pm__law_book cd__law_book ct__law_book : Value}
    {f_is_sequence : Addr} {od_is_sequence an_is_sequence : Option Addr} {sl_is_sequence : Array (Option Value)} {oc_is_sequence kV_is_sequence dc_is_sequence pm_is_sequence cd_is_sequence ct_is_sequence : Value}
    {f_Talk___len__ : Addr} {od_Talk___len__ an_Talk___len__ : Option Addr} {sl_Talk___len__ : Array (Option Value)} {oc_Talk___len__ kV_Talk___len__ dc_Talk___len__ pm_Talk___len__ cd_Talk___len__ ct_Talk___len__ : Value}
    {f_is_pair : Addr} {od_is_pair an_is_pair : Option Addr} {sl_is_pair : Array (Option Value)} {oc_is_pair kV_is_pair dc_is_pair pm_is_pair cd_is_pair ct_is_pair : Value}
    {f_is_name : Addr} {od_is_name an_is_name : Option Addr} {sl_is_name : Array (Option Value)} {oc_is_name kV_is_name dc_is_name pm_is_name cd_is_name ct_is_name : Value}
    {tg_LONGEST_NAME : Tok}
    {tg_LETTERS : Tok}
    {f_is_named_talk : Addr} {od_is_named_talk an_is_named_talk : Option Addr} {sl_is_named_talk : Array (Option Value)} {oc_is_named_talk kV_is_named_talk dc_is_named_talk pm_is_named_talk cd_is_named_talk ct_is_named_talk : Value}
    {f_are_talks : Addr} {od_are_talks an_are_talks : Option Addr} {sl_are_talks : Array (Option Value)} {oc_are_talks kV_are_talks dc_are_talks pm_are_talks cd_are_talks ct_are_talks : Value}
    {f_are_steps : Addr} {od_are_steps an_are_steps : Option Addr} {sl_are_steps : Array (Option Value)} {oc_are_steps kV_are_steps dc_are_steps pm_are_steps cd_are_steps ct_are_steps : Value}
    {f_Book___init__ : Addr} {od_Book___init__ an_Book___init__ : Option Addr} {sl_Book___init__ : Array (Option Value)} {oc_Book___init__ kV_Book___init__ dc_Book___init__ pm_Book___init__ cd_Book___init__ ct_Book___init__ : Value}
    {dt_Book___init__ : Addr} {oc2_Book___init__ : Value} {od2_Book___init__ : Option Addr} {sl2_Book___init__ : Array (Option Value)} {its_Book___init__ : Array Value} {dn_Book___init__ : Nat}
    {c_TalkError : Addr}
    {f_InvalidBook___init__ : Addr} {od_InvalidBook___init__ an_InvalidBook___init__ : Option Addr} {sl_InvalidBook___init__ : Array (Option Value)} {oc_InvalidBook___init__ kV_InvalidBook___init__ dc_InvalidBook___init__ pm_InvalidBook___init__ cd_InvalidBook___init__ ct_InvalidBook___init__ : Value}
    {nm_InvalidBook q_InvalidBook : Str} {N_InvalidBook : Addr} {bs_InvalidBook : List Value} {sn_InvalidBook : List Str} {su_InvalidBook : List Value} {ab_InvalidBook : Bool} {col_InvalidBook : Option Bool} {dd_InvalidBook : Option Addr} {k0_InvalidBook k1_InvalidBook k2_InvalidBook k3_InvalidBook k5_InvalidBook : Option Value}
    {f_is_int : Addr} {od_is_int an_is_int : Option Addr} {sl_is_int : Array (Option Value)} {oc_is_int kV_is_int dc_is_int pm_is_int cd_is_int ct_is_int : Value}
    {f_is_number : Addr} {od_is_number an_is_number : Option Addr} {sl_is_number : Array (Option Value)} {oc_is_number kV_is_number dc_is_number pm_is_number cd_is_number ct_is_number : Value}
    {f_is_row_of : Addr} {od_is_row_of an_is_row_of : Option Addr} {sl_is_row_of : Array (Option Value)} {oc_is_row_of kV_is_row_of dc_is_row_of pm_is_row_of cd_is_row_of ct_is_row_of : Value}
    {f_first_wrong_row : Addr} {od_first_wrong_row an_first_wrong_row : Option Addr} {sl_first_wrong_row : Array (Option Value)} {oc_first_wrong_row kV_first_wrong_row dc_first_wrong_row pm_first_wrong_row cd_first_wrong_row ct_first_wrong_row : Value}
    {f_common_divisor : Addr} {od_common_divisor an_common_divisor : Option Addr} {sl_common_divisor : Array (Option Value)} {oc_common_divisor kV_common_divisor dc_common_divisor pm_common_divisor cd_common_divisor ct_common_divisor : Value}
    {f_normal_row : Addr} {od_normal_row an_normal_row : Option Addr} {sl_normal_row : Array (Option Value)} {oc_normal_row kV_normal_row dc_normal_row pm_normal_row cd_normal_row ct_normal_row : Value}
    {f_Talk___init__ : Addr} {od_Talk___init__ an_Talk___init__ : Option Addr} {sl_Talk___init__ : Array (Option Value)} {oc_Talk___init__ kV_Talk___init__ dc_Talk___init__ pm_Talk___init__ cd_Talk___init__ ct_Talk___init__ : Value}
    {f_InvalidTalk___init__ : Addr} {od_InvalidTalk___init__ an_InvalidTalk___init__ : Option Addr} {sl_InvalidTalk___init__ : Array (Option Value)} {oc_InvalidTalk___init__ kV_InvalidTalk___init__ dc_InvalidTalk___init__ pm_InvalidTalk___init__ cd_InvalidTalk___init__ ct_InvalidTalk___init__ : Value}
    {nm_InvalidTalk q_InvalidTalk : Str} {N_InvalidTalk : Addr} {bs_InvalidTalk : List Value} {sn_InvalidTalk : List Str} {su_InvalidTalk : List Value} {ab_InvalidTalk : Bool} {col_InvalidTalk : Option Bool} {dd_InvalidTalk : Option Addr} {k0_InvalidTalk k1_InvalidTalk k2_InvalidTalk k3_InvalidTalk k5_InvalidTalk : Option Value}
    {f__law_book_of : Addr} {od__law_book_of an__law_book_of : Option Addr} {sl__law_book_of : Array (Option Value)} {oc__law_book_of kV__law_book_of dc__law_book_of pm__law_book_of cd__law_book_of ct__law_book_of : Value}
    {f__law_row : Addr} {od__law_row an__law_row : Option Addr} {sl__law_row : Array (Option Value)} {oc__law_row kV__law_row dc__law_row pm__law_row cd__law_row ct__law_row : Value}
    {f__law_misfit : Addr} {od__law_misfit an__law_misfit : Option Addr} {sl__law_misfit : Array (Option Value)} {oc__law_misfit kV__law_misfit dc__law_misfit pm__law_misfit cd__law_misfit ct__law_misfit : Value}
    {p_Book_names : Addr} {rest_Book_names : List Value}
    {f_Book_names : Addr} {od_Book_names an_Book_names : Option Addr} {sl_Book_names : Array (Option Value)} {oc_Book_names kV_Book_names dc_Book_names pm_Book_names cd_Book_names ct_Book_names : Value}
    {f_check_name : Addr} {od_check_name an_check_name : Option Addr} {sl_check_name : Array (Option Value)} {oc_check_name kV_check_name dc_check_name pm_check_name cd_check_name ct_check_name : Value}
    {f_Book_behind : Addr} {od_Book_behind an_Book_behind : Option Addr} {sl_Book_behind : Array (Option Value)} {oc_Book_behind kV_Book_behind dc_Book_behind pm_Book_behind cd_Book_behind ct_Book_behind : Value}
    {f_first_wrong_name : Addr} {od_first_wrong_name an_first_wrong_name : Option Addr} {sl_first_wrong_name : Array (Option Value)} {oc_first_wrong_name kV_first_wrong_name dc_first_wrong_name pm_first_wrong_name cd_first_wrong_name ct_first_wrong_name : Value}
    {f_is_row : Addr} {od_is_row an_is_row : Option Addr} {sl_is_row : Array (Option Value)} {oc_is_row kV_is_row dc_is_row pm_is_row cd_is_row ct_is_row : Value}
    {f_is_ring : Addr} {od_is_ring an_is_ring : Option Addr} {sl_is_ring : Array (Option Value)} {oc_is_ring kV_is_ring dc_is_ring pm_is_ring cd_is_ring ct_is_ring : Value}
    {f_law : Addr} {od_law an_law : Option Addr} {sl_law : Array (Option Value)} {oc_law kV_law dc_law pm_law cd_law ct_law : Value}
    (a_Talk : PySem.W.nsIn K mainGlobals "Talk" = some (some (.ref c_Talk)))
    (a_InvalidBook : PySem.W.nsIn K mainGlobals "InvalidBook" = some (some (.ref c_InvalidBook)))
    (a_Book : PySem.W.nsIn K mainGlobals "Book" = some (some (.ref c_Book)))
    (a_InvalidTalk : PySem.W.nsIn K mainGlobals "InvalidTalk" = some (some (.ref c_InvalidTalk)))
    (a__law_box : PySem.W.nsIn K mainGlobals "_law_box" = some (some (.ref f__law_box)))
    (l__law_box : K.lookup f__law_box = some ⟨oc__law_box, od__law_box, .func (PySem.W.fnOf "_law_box" "_law_box" (defArgs s__law_box) (defBody s__law_box) (defScope s__law_box) .none kV__law_box dc__law_box pm__law_box an__law_box cd__law_box ct__law_box), sl__law_box⟩)
    (c__law_box : PySem.W.codeIn K cd__law_box "_law_box" = true)
    (k__law_box : PySem.W.keepIn K (.ref f__law_box) = true)
    (zlen : PySem.W.nsIn K mainGlobals "len" = some none)
    (zabs : PySem.W.nsIn K mainGlobals "abs" = some none)
    (zint : PySem.W.nsIn K mainGlobals "int" = some none)
    (a__law_take : PySem.W.nsIn K mainGlobals "_law_take" = some (some (.ref f__law_take)))
    (l__law_take : K.lookup f__law_take = some ⟨oc__law_take, od__law_take, .func (PySem.W.fnOf "_law_take" "_law_take" (defArgs s__law_take) (defBody s__law_take) (defScope s__law_take) .none kV__law_take dc__law_take pm__law_take an__law_take cd__law_take ct__law_take), sl__law_take⟩)
    (c__law_take : PySem.W.codeIn K cd__law_take "_law_take" = true)
    (k__law_take : PySem.W.keepIn K (.ref f__law_take) = true)
    (a__law_mixed : PySem.W.nsIn K mainGlobals "_law_mixed" = some (some (.ref f__law_mixed)))
    (l__law_mixed : K.lookup f__law_mixed = some ⟨oc__law_mixed, od__law_mixed, .func (PySem.W.fnOf "_law_mixed" "_law_mixed" (defArgs s__law_mixed) (defBody s__law_mixed) (defScope s__law_mixed) .none kV__law_mixed dc__law_mixed pm__law_mixed an__law_mixed cd__law_mixed ct__law_mixed), sl__law_mixed⟩)
    (c__law_mixed : PySem.W.codeIn K cd__law_mixed "_law_mixed" = true)
    (k__law_mixed : PySem.W.keepIn K (.ref f__law_mixed) = true)
    (zlist : PySem.W.nsIn K mainGlobals "list" = some none)
    (zrange : PySem.W.nsIn K mainGlobals "range" = some none)
    (a__law_pick : PySem.W.nsIn K mainGlobals "_law_pick" = some (some (.ref f__law_pick)))
    (l__law_pick : K.lookup f__law_pick = some ⟨oc__law_pick, od__law_pick, .func (PySem.W.fnOf "_law_pick" "_law_pick" (defArgs s__law_pick) (defBody s__law_pick) (defScope s__law_pick) .none kV__law_pick dc__law_pick pm__law_pick an__law_pick cd__law_pick ct__law_pick), sl__law_pick⟩)
    (c__law_pick : PySem.W.codeIn K cd__law_pick "_law_pick" = true)
    (k__law_pick : PySem.W.keepIn K (.ref f__law_pick) = true)
    (a__law_weights : PySem.W.nsIn K mainGlobals "_law_weights" = some (some (.ref f__law_weights)))
    (l__law_weights : K.lookup f__law_weights = some ⟨oc__law_weights, od__law_weights, .func (PySem.W.fnOf "_law_weights" "_law_weights" (defArgs s__law_weights) (defBody s__law_weights) (defScope s__law_weights) .none kV__law_weights dc__law_weights pm__law_weights an__law_weights cd__law_weights ct__law_weights), sl__law_weights⟩)
    (c__law_weights : PySem.W.codeIn K cd__law_weights "_law_weights" = true)
    (k__law_weights : PySem.W.keepIn K (.ref f__law_weights) = true)
    (a__law_book : PySem.W.nsIn K mainGlobals "_law_book" = some (some (.ref f__law_book)))
    (l__law_book : K.lookup f__law_book = some ⟨oc__law_book, od__law_book, .func (PySem.W.fnOf "_law_book" "_law_book" (defArgs s__law_book) (defBody s__law_book) (defScope s__law_book) .none kV__law_book dc__law_book pm__law_book an__law_book cd__law_book ct__law_book), sl__law_book⟩)
    (c__law_book : PySem.W.codeIn K cd__law_book "_law_book" = true)
    (k__law_book : PySem.W.keepIn K (.ref f__law_book) = true)
    (a_is_sequence : PySem.W.nsIn K mainGlobals "is_sequence" = some (some (.ref f_is_sequence)))
    (l_is_sequence : K.lookup f_is_sequence = some ⟨oc_is_sequence, od_is_sequence, .func (PySem.W.fnOf "is_sequence" "is_sequence" (defArgs s_is_sequence) (defBody s_is_sequence) (defScope s_is_sequence) .none kV_is_sequence dc_is_sequence pm_is_sequence an_is_sequence cd_is_sequence ct_is_sequence), sl_is_sequence⟩)
    (c_is_sequence : PySem.W.codeIn K cd_is_sequence "is_sequence" = true)
    (k_is_sequence : PySem.W.keepIn K (.ref f_is_sequence) = true)
    (zisinstance : PySem.W.nsIn K mainGlobals "isinstance" = some none)
    (ztuple : PySem.W.nsIn K mainGlobals "tuple" = some none)
    (fi_Talk___len__ : PySem.W.findIn K (.ref c_Talk) "__len__" = some (some (.ref f_Talk___len__)))
    (l_Talk___len__ : K.lookup f_Talk___len__ = some ⟨oc_Talk___len__, od_Talk___len__, .func (PySem.W.fnOf "__len__" "Talk.__len__" (defArgs s_Talk___len__) (defBody s_Talk___len__) (defScope s_Talk___len__) .none kV_Talk___len__ dc_Talk___len__ pm_Talk___len__ an_Talk___len__ cd_Talk___len__ ct_Talk___len__), sl_Talk___len__⟩)
    (c_Talk___len__ : PySem.W.codeIn K cd_Talk___len__ "Talk.__len__" = true)
    (k_Talk___len__ : PySem.W.keepIn K (.ref f_Talk___len__) = true)
    (if_Talk___len__ : PySem.W.isFn K (.ref f_Talk___len__) = true)
    (pg_Talk : PySem.W.plainGet K c_Talk Str.empty = true)
    (hd_Talk : PySem.W.hasDictIn K c_Talk = true)
    (po_Talk : PySem.W.plainOver K c_Talk = true)
    (sa_Talk : PySem.W.findIn K (.ref c_Talk) "__setattr__" = some (some (.builtin "object.__setattr__")))
    (na_Talk_rows : PySem.W.findIn K (.ref c_Talk) "rows" = some none)
    (a_is_pair : PySem.W.nsIn K mainGlobals "is_pair" = some (some (.ref f_is_pair)))
    (l_is_pair : K.lookup f_is_pair = some ⟨oc_is_pair, od_is_pair, .func (PySem.W.fnOf "is_pair" "is_pair" (defArgs s_is_pair) (defBody s_is_pair) (defScope s_is_pair) .none kV_is_pair dc_is_pair pm_is_pair an_is_pair cd_is_pair ct_is_pair), sl_is_pair⟩)
    (c_is_pair : PySem.W.codeIn K cd_is_pair "is_pair" = true)
    (k_is_pair : PySem.W.keepIn K (.ref f_is_pair) = true)
    (a_is_name : PySem.W.nsIn K mainGlobals "is_name" = some (some (.ref f_is_name)))
    (l_is_name : K.lookup f_is_name = some ⟨oc_is_name, od_is_name, .func (PySem.W.fnOf "is_name" "is_name" (defArgs s_is_name) (defBody s_is_name) (defScope s_is_name) .none kV_is_name dc_is_name pm_is_name an_is_name cd_is_name ct_is_name), sl_is_name⟩)
    (c_is_name : PySem.W.codeIn K cd_is_name "is_name" = true)
    (k_is_name : PySem.W.keepIn K (.ref f_is_name) = true)
    (zstr : PySem.W.nsIn K mainGlobals "str" = some none)
    (zLONGEST_NAME : PySem.W.nsIn K mainGlobals "LONGEST_NAME" = some (some (.int 6 tg_LONGEST_NAME)))
    (zall : PySem.W.nsIn K mainGlobals "all" = some none)
    (zLETTERS : PySem.W.nsIn K mainGlobals "LETTERS" = some (some (.str "abcdefghijklmnopqrstuvwxyz" tg_LETTERS)))
    (a_is_named_talk : PySem.W.nsIn K mainGlobals "is_named_talk" = some (some (.ref f_is_named_talk)))
    (l_is_named_talk : K.lookup f_is_named_talk = some ⟨oc_is_named_talk, od_is_named_talk, .func (PySem.W.fnOf "is_named_talk" "is_named_talk" (defArgs s_is_named_talk) (defBody s_is_named_talk) (defScope s_is_named_talk) .none kV_is_named_talk dc_is_named_talk pm_is_named_talk an_is_named_talk cd_is_named_talk ct_is_named_talk), sl_is_named_talk⟩)
    (c_is_named_talk : PySem.W.codeIn K cd_is_named_talk "is_named_talk" = true)
    (k_is_named_talk : PySem.W.keepIn K (.ref f_is_named_talk) = true)
    (ha_Talk : PySem.W.findIn K (.ref c_Talk) "__class__" = some (some (.builtin "object.__class__")))
    (hn : PySem.W.specialIn K (.builtin "object.__class__") "__get__" = some (some (.builtin "getset_descriptor.__get__")))
    (ht : PySem.W.takesIn K (.builtin "object.__class__") = some true)
    (hm_Talk : PySem.W.mroIn K c_Talk (.type "object") = some true)
    (sf_Talk : PySem.W.selfFirst K c_Talk = true)
    (kk_Talk_Talk : PySem.W.kitOne K (.ref c_Talk) (.ref c_Talk) = some true)
    (kt_NoneType_Talk : PySem.W.kitOne K (.type "NoneType") (.ref c_Talk) = some false)
    (kt_bool_Talk : PySem.W.kitOne K (.type "bool") (.ref c_Talk) = some false)
    (kt_int_Talk : PySem.W.kitOne K (.type "int") (.ref c_Talk) = some false)
    (kt_str_Talk : PySem.W.kitOne K (.type "str") (.ref c_Talk) = some false)
    (kt_list_Talk : PySem.W.kitOne K (.type "list") (.ref c_Talk) = some false)
    (kt_tuple_Talk : PySem.W.kitOne K (.type "tuple") (.ref c_Talk) = some false)
    (ko_Talk_int : PySem.W.kitOne K (.ref c_Talk) (.type "int") = some false)
    (ko_Talk_bool : PySem.W.kitOne K (.ref c_Talk) (.type "bool") = some false)
    (ko_Talk_str : PySem.W.kitOne K (.ref c_Talk) (.type "str") = some false)
    (ko_Talk_tuple : PySem.W.kitOne K (.ref c_Talk) (.type "tuple") = some false)
    (ko_Talk_list : PySem.W.kitOne K (.ref c_Talk) (.type "list") = some false)
    (a_are_talks : PySem.W.nsIn K mainGlobals "are_talks" = some (some (.ref f_are_talks)))
    (l_are_talks : K.lookup f_are_talks = some ⟨oc_are_talks, od_are_talks, .func (PySem.W.fnOf "are_talks" "are_talks" (defArgs s_are_talks) (defBody s_are_talks) (defScope s_are_talks) .none kV_are_talks dc_are_talks pm_are_talks an_are_talks cd_are_talks ct_are_talks), sl_are_talks⟩)
    (c_are_talks : PySem.W.codeIn K cd_are_talks "are_talks" = true)
    (k_are_talks : PySem.W.keepIn K (.ref f_are_talks) = true)
    (a_are_steps : PySem.W.nsIn K mainGlobals "are_steps" = some (some (.ref f_are_steps)))
    (l_are_steps : K.lookup f_are_steps = some ⟨oc_are_steps, od_are_steps, .func (PySem.W.fnOf "are_steps" "are_steps" (defArgs s_are_steps) (defBody s_are_steps) (defScope s_are_steps) .none kV_are_steps dc_are_steps pm_are_steps an_are_steps cd_are_steps ct_are_steps), sl_are_steps⟩)
    (c_are_steps : PySem.W.codeIn K cd_are_steps "are_steps" = true)
    (k_are_steps : PySem.W.keepIn K (.ref f_are_steps) = true)
    (zset : PySem.W.nsIn K mainGlobals "set" = some none)
    (fi_Book___init__ : PySem.W.findIn K (.ref c_Book) "__init__" = some (some (.ref f_Book___init__)))
    (l_Book___init__ : K.lookup f_Book___init__ = some ⟨oc_Book___init__, od_Book___init__, .func (PySem.W.fnOf "__init__" "Book.__init__" (defArgs s_Book___init__) (defBody s_Book___init__) (defScope s_Book___init__) (.ref dt_Book___init__) kV_Book___init__ dc_Book___init__ pm_Book___init__ an_Book___init__ cd_Book___init__ ct_Book___init__), sl_Book___init__⟩)
    (t_Book___init__ : K.lookup dt_Book___init__ = some ⟨oc2_Book___init__, od2_Book___init__, .seq its_Book___init__ dn_Book___init__, sl2_Book___init__⟩)
    (ne_dt_Book___init__ : its_Book___init__.size = 1)
    (c_Book___init__ : PySem.W.codeIn K cd_Book___init__ "Book.__init__" = true)
    (k_Book___init__ : PySem.W.keepIn K (.ref f_Book___init__) = true)
    (if_Book___init__ : PySem.W.isFn K (.ref f_Book___init__) = true)
    (a_TalkError : PySem.W.nsIn K mainGlobals "TalkError" = some (some (.ref c_TalkError)))
    (fi_InvalidBook___init__ : PySem.W.findIn K (.ref c_InvalidBook) "__init__" = some (some (.ref f_InvalidBook___init__)))
    (l_InvalidBook___init__ : K.lookup f_InvalidBook___init__ = some ⟨oc_InvalidBook___init__, od_InvalidBook___init__, .func (PySem.W.fnOf "__init__" "InvalidBook.__init__" (defArgs s_InvalidBook___init__) (defBody s_InvalidBook___init__) (defScope s_InvalidBook___init__) .none kV_InvalidBook___init__ dc_InvalidBook___init__ pm_InvalidBook___init__ an_InvalidBook___init__ cd_InvalidBook___init__ ct_InvalidBook___init__), sl_InvalidBook___init__⟩)
    (c_InvalidBook___init__ : PySem.W.codeIn K cd_InvalidBook___init__ "InvalidBook.__init__" = true)
    (k_InvalidBook___init__ : PySem.W.keepIn K (.ref f_InvalidBook___init__) = true)
    (xl_InvalidBook : K.lookup c_InvalidBook = some (excClassObj nm_InvalidBook q_InvalidBook c_InvalidBook N_InvalidBook bs_InvalidBook [.ref c_TalkError, .type "ValueError", .type "Exception", .type "BaseException", .type "object"] true sn_InvalidBook su_InvalidBook ab_InvalidBook col_InvalidBook dd_InvalidBook k0_InvalidBook k1_InvalidBook k2_InvalidBook k3_InvalidBook k5_InvalidBook "ValueError.__new__"))
    (sa_InvalidBook : PySem.W.findIn K (.ref c_InvalidBook) "__setattr__" = some (some (.builtin "object.__setattr__")))
    (na_InvalidBook_word : PySem.W.findIn K (.ref c_InvalidBook) "word" = some none)
    (tf_InvalidBook : PySem.W.typeIn K (.ref f_InvalidBook___init__) = some (.type "function"))
    (ty_InvalidBook : PySem.W.typeIn K (.ref c_InvalidBook) = some (.type "type"))
    (kp_InvalidBook : PySem.W.keepIn K (.ref c_InvalidBook) = true)
    (ex_InvalidBook : PySem.W.subIn K (.ref c_InvalidBook) (.type "BaseException") = some true)
    (pg_Book : PySem.W.plainGet K c_Book Str.empty = true)
    (hd_Book : PySem.W.hasDictIn K c_Book = true)
    (po_Book : PySem.W.plainOver K c_Book = true)
    (sa_Book : PySem.W.findIn K (.ref c_Book) "__setattr__" = some (some (.builtin "object.__setattr__")))
    (na_Book_talks : PySem.W.findIn K (.ref c_Book) "talks" = some none)
    (na_Book_steps : PySem.W.findIn K (.ref c_Book) "steps" = some none)
    (zsorted : PySem.W.nsIn K mainGlobals "sorted" = some none)
    (a_is_int : PySem.W.nsIn K mainGlobals "is_int" = some (some (.ref f_is_int)))
    (l_is_int : K.lookup f_is_int = some ⟨oc_is_int, od_is_int, .func (PySem.W.fnOf "is_int" "is_int" (defArgs s_is_int) (defBody s_is_int) (defScope s_is_int) .none kV_is_int dc_is_int pm_is_int an_is_int cd_is_int ct_is_int), sl_is_int⟩)
    (c_is_int : PySem.W.codeIn K cd_is_int "is_int" = true)
    (k_is_int : PySem.W.keepIn K (.ref f_is_int) = true)
    (zbool : PySem.W.nsIn K mainGlobals "bool" = some none)
    (a_is_number : PySem.W.nsIn K mainGlobals "is_number" = some (some (.ref f_is_number)))
    (l_is_number : K.lookup f_is_number = some ⟨oc_is_number, od_is_number, .func (PySem.W.fnOf "is_number" "is_number" (defArgs s_is_number) (defBody s_is_number) (defScope s_is_number) .none kV_is_number dc_is_number pm_is_number an_is_number cd_is_number ct_is_number), sl_is_number⟩)
    (c_is_number : PySem.W.codeIn K cd_is_number "is_number" = true)
    (k_is_number : PySem.W.keepIn K (.ref f_is_number) = true)
    (a_is_row_of : PySem.W.nsIn K mainGlobals "is_row_of" = some (some (.ref f_is_row_of)))
    (l_is_row_of : K.lookup f_is_row_of = some ⟨oc_is_row_of, od_is_row_of, .func (PySem.W.fnOf "is_row_of" "is_row_of" (defArgs s_is_row_of) (defBody s_is_row_of) (defScope s_is_row_of) .none kV_is_row_of dc_is_row_of pm_is_row_of an_is_row_of cd_is_row_of ct_is_row_of), sl_is_row_of⟩)
    (c_is_row_of : PySem.W.codeIn K cd_is_row_of "is_row_of" = true)
    (k_is_row_of : PySem.W.keepIn K (.ref f_is_row_of) = true)
    (a_first_wrong_row : PySem.W.nsIn K mainGlobals "first_wrong_row" = some (some (.ref f_first_wrong_row)))
    (l_first_wrong_row : K.lookup f_first_wrong_row = some ⟨oc_first_wrong_row, od_first_wrong_row, .func (PySem.W.fnOf "first_wrong_row" "first_wrong_row" (defArgs s_first_wrong_row) (defBody s_first_wrong_row) (defScope s_first_wrong_row) .none kV_first_wrong_row dc_first_wrong_row pm_first_wrong_row an_first_wrong_row cd_first_wrong_row ct_first_wrong_row), sl_first_wrong_row⟩)
    (c_first_wrong_row : PySem.W.codeIn K cd_first_wrong_row "first_wrong_row" = true)
    (k_first_wrong_row : PySem.W.keepIn K (.ref f_first_wrong_row) = true)
    (zenumerate : PySem.W.nsIn K mainGlobals "enumerate" = some none)
    (a_common_divisor : PySem.W.nsIn K mainGlobals "common_divisor" = some (some (.ref f_common_divisor)))
    (l_common_divisor : K.lookup f_common_divisor = some ⟨oc_common_divisor, od_common_divisor, .func (PySem.W.fnOf "common_divisor" "common_divisor" (defArgs s_common_divisor) (defBody s_common_divisor) (defScope s_common_divisor) .none kV_common_divisor dc_common_divisor pm_common_divisor an_common_divisor cd_common_divisor ct_common_divisor), sl_common_divisor⟩)
    (c_common_divisor : PySem.W.codeIn K cd_common_divisor "common_divisor" = true)
    (k_common_divisor : PySem.W.keepIn K (.ref f_common_divisor) = true)
    (zgcd : PySem.W.nsIn K mainGlobals "gcd" = some (some (.builtin "math.gcd")))
    (a_normal_row : PySem.W.nsIn K mainGlobals "normal_row" = some (some (.ref f_normal_row)))
    (l_normal_row : K.lookup f_normal_row = some ⟨oc_normal_row, od_normal_row, .func (PySem.W.fnOf "normal_row" "normal_row" (defArgs s_normal_row) (defBody s_normal_row) (defScope s_normal_row) .none kV_normal_row dc_normal_row pm_normal_row an_normal_row cd_normal_row ct_normal_row), sl_normal_row⟩)
    (c_normal_row : PySem.W.codeIn K cd_normal_row "normal_row" = true)
    (k_normal_row : PySem.W.keepIn K (.ref f_normal_row) = true)
    (fi_Talk___init__ : PySem.W.findIn K (.ref c_Talk) "__init__" = some (some (.ref f_Talk___init__)))
    (l_Talk___init__ : K.lookup f_Talk___init__ = some ⟨oc_Talk___init__, od_Talk___init__, .func (PySem.W.fnOf "__init__" "Talk.__init__" (defArgs s_Talk___init__) (defBody s_Talk___init__) (defScope s_Talk___init__) .none kV_Talk___init__ dc_Talk___init__ pm_Talk___init__ an_Talk___init__ cd_Talk___init__ ct_Talk___init__), sl_Talk___init__⟩)
    (c_Talk___init__ : PySem.W.codeIn K cd_Talk___init__ "Talk.__init__" = true)
    (k_Talk___init__ : PySem.W.keepIn K (.ref f_Talk___init__) = true)
    (if_Talk___init__ : PySem.W.isFn K (.ref f_Talk___init__) = true)
    (fi_InvalidTalk___init__ : PySem.W.findIn K (.ref c_InvalidTalk) "__init__" = some (some (.ref f_InvalidTalk___init__)))
    (l_InvalidTalk___init__ : K.lookup f_InvalidTalk___init__ = some ⟨oc_InvalidTalk___init__, od_InvalidTalk___init__, .func (PySem.W.fnOf "__init__" "InvalidTalk.__init__" (defArgs s_InvalidTalk___init__) (defBody s_InvalidTalk___init__) (defScope s_InvalidTalk___init__) .none kV_InvalidTalk___init__ dc_InvalidTalk___init__ pm_InvalidTalk___init__ an_InvalidTalk___init__ cd_InvalidTalk___init__ ct_InvalidTalk___init__), sl_InvalidTalk___init__⟩)
    (c_InvalidTalk___init__ : PySem.W.codeIn K cd_InvalidTalk___init__ "InvalidTalk.__init__" = true)
    (k_InvalidTalk___init__ : PySem.W.keepIn K (.ref f_InvalidTalk___init__) = true)
    (xl_InvalidTalk : K.lookup c_InvalidTalk = some (excClassObj nm_InvalidTalk q_InvalidTalk c_InvalidTalk N_InvalidTalk bs_InvalidTalk [.ref c_TalkError, .type "ValueError", .type "Exception", .type "BaseException", .type "object"] true sn_InvalidTalk su_InvalidTalk ab_InvalidTalk col_InvalidTalk dd_InvalidTalk k0_InvalidTalk k1_InvalidTalk k2_InvalidTalk k3_InvalidTalk k5_InvalidTalk "ValueError.__new__"))
    (sa_InvalidTalk : PySem.W.findIn K (.ref c_InvalidTalk) "__setattr__" = some (some (.builtin "object.__setattr__")))
    (na_InvalidTalk_at : PySem.W.findIn K (.ref c_InvalidTalk) "at" = some none)
    (tf_InvalidTalk : PySem.W.typeIn K (.ref f_InvalidTalk___init__) = some (.type "function"))
    (ty_InvalidTalk : PySem.W.typeIn K (.ref c_InvalidTalk) = some (.type "type"))
    (kp_InvalidTalk : PySem.W.keepIn K (.ref c_InvalidTalk) = true)
    (ex_InvalidTalk : PySem.W.subIn K (.ref c_InvalidTalk) (.type "BaseException") = some true)
    (a__law_book_of : PySem.W.nsIn K mainGlobals "_law_book_of" = some (some (.ref f__law_book_of)))
    (l__law_book_of : K.lookup f__law_book_of = some ⟨oc__law_book_of, od__law_book_of, .func (PySem.W.fnOf "_law_book_of" "_law_book_of" (defArgs s__law_book_of) (defBody s__law_book_of) (defScope s__law_book_of) .none kV__law_book_of dc__law_book_of pm__law_book_of an__law_book_of cd__law_book_of ct__law_book_of), sl__law_book_of⟩)
    (c__law_book_of : PySem.W.codeIn K cd__law_book_of "_law_book_of" = true)
    (k__law_book_of : PySem.W.keepIn K (.ref f__law_book_of) = true)
    (mk_Book_ : PySem.W.makesIn K c_Book = true)
    (kp_Book : PySem.W.keepIn K (.ref c_Book) = true)
    (mk_Talk_ : PySem.W.makesIn K c_Talk = true)
    (kp_Talk : PySem.W.keepIn K (.ref c_Talk) = true)
    (a__law_row : PySem.W.nsIn K mainGlobals "_law_row" = some (some (.ref f__law_row)))
    (l__law_row : K.lookup f__law_row = some ⟨oc__law_row, od__law_row, .func (PySem.W.fnOf "_law_row" "_law_row" (defArgs s__law_row) (defBody s__law_row) (defScope s__law_row) .none kV__law_row dc__law_row pm__law_row an__law_row cd__law_row ct__law_row), sl__law_row⟩)
    (c__law_row : PySem.W.codeIn K cd__law_row "_law_row" = true)
    (k__law_row : PySem.W.keepIn K (.ref f__law_row) = true)
    (a__law_misfit : PySem.W.nsIn K mainGlobals "_law_misfit" = some (some (.ref f__law_misfit)))
    (l__law_misfit : K.lookup f__law_misfit = some ⟨oc__law_misfit, od__law_misfit, .func (PySem.W.fnOf "_law_misfit" "_law_misfit" (defArgs s__law_misfit) (defBody s__law_misfit) (defScope s__law_misfit) .none kV__law_misfit dc__law_misfit pm__law_misfit an__law_misfit cd__law_misfit ct__law_misfit), sl__law_misfit⟩)
    (c__law_misfit : PySem.W.codeIn K cd__law_misfit "_law_misfit" = true)
    (k__law_misfit : PySem.W.keepIn K (.ref f__law_misfit) = true)
    (fi_Book_names : PySem.W.findIn K (.ref c_Book) "names" = some (some (.ref p_Book_names)))
    (sg_Book_names : PySem.W.specialIn K (.ref p_Book_names) "__get__" = some (some (.builtin "property.__get__")))
    (tt_Book_names : PySem.W.takesIn K (.ref p_Book_names) = some true)
    (rc_Book_names : PySem.W.recIn K p_Book_names "property" = some (.ref f_Book_names :: rest_Book_names))
    (l_Book_names : K.lookup f_Book_names = some ⟨oc_Book_names, od_Book_names, .func (PySem.W.fnOf "names" "Book.names" (defArgs s_Book_names) (defBody s_Book_names) (defScope s_Book_names) .none kV_Book_names dc_Book_names pm_Book_names an_Book_names cd_Book_names ct_Book_names), sl_Book_names⟩)
    (c_Book_names : PySem.W.codeIn K cd_Book_names "Book.names" = true)
    (k_Book_names : PySem.W.keepIn K (.ref f_Book_names) = true)
    (a_check_name : PySem.W.nsIn K mainGlobals "check_name" = some (some (.ref f_check_name)))
    (l_check_name : K.lookup f_check_name = some ⟨oc_check_name, od_check_name, .func (PySem.W.fnOf "check_name" "check_name" (defArgs s_check_name) (defBody s_check_name) (defScope s_check_name) .none kV_check_name dc_check_name pm_check_name an_check_name cd_check_name ct_check_name), sl_check_name⟩)
    (c_check_name : PySem.W.codeIn K cd_check_name "check_name" = true)
    (k_check_name : PySem.W.keepIn K (.ref f_check_name) = true)
    (fi_Book_behind : PySem.W.findIn K (.ref c_Book) "behind" = some (some (.ref f_Book_behind)))
    (l_Book_behind : K.lookup f_Book_behind = some ⟨oc_Book_behind, od_Book_behind, .func (PySem.W.fnOf "behind" "Book.behind" (defArgs s_Book_behind) (defBody s_Book_behind) (defScope s_Book_behind) .none kV_Book_behind dc_Book_behind pm_Book_behind an_Book_behind cd_Book_behind ct_Book_behind), sl_Book_behind⟩)
    (c_Book_behind : PySem.W.codeIn K cd_Book_behind "Book.behind" = true)
    (k_Book_behind : PySem.W.keepIn K (.ref f_Book_behind) = true)
    (if_Book_behind : PySem.W.isFn K (.ref f_Book_behind) = true)
    (a_first_wrong_name : PySem.W.nsIn K mainGlobals "first_wrong_name" = some (some (.ref f_first_wrong_name)))
    (l_first_wrong_name : K.lookup f_first_wrong_name = some ⟨oc_first_wrong_name, od_first_wrong_name, .func (PySem.W.fnOf "first_wrong_name" "first_wrong_name" (defArgs s_first_wrong_name) (defBody s_first_wrong_name) (defScope s_first_wrong_name) .none kV_first_wrong_name dc_first_wrong_name pm_first_wrong_name an_first_wrong_name cd_first_wrong_name ct_first_wrong_name), sl_first_wrong_name⟩)
    (c_first_wrong_name : PySem.W.codeIn K cd_first_wrong_name "first_wrong_name" = true)
    (k_first_wrong_name : PySem.W.keepIn K (.ref f_first_wrong_name) = true)
    (a_is_row : PySem.W.nsIn K mainGlobals "is_row" = some (some (.ref f_is_row)))
    (l_is_row : K.lookup f_is_row = some ⟨oc_is_row, od_is_row, .func (PySem.W.fnOf "is_row" "is_row" (defArgs s_is_row) (defBody s_is_row) (defScope s_is_row) .none kV_is_row dc_is_row pm_is_row an_is_row cd_is_row ct_is_row), sl_is_row⟩)
    (c_is_row : PySem.W.codeIn K cd_is_row "is_row" = true)
    (k_is_row : PySem.W.keepIn K (.ref f_is_row) = true)
    (a_is_ring : PySem.W.nsIn K mainGlobals "is_ring" = some (some (.ref f_is_ring)))
    (l_is_ring : K.lookup f_is_ring = some ⟨oc_is_ring, od_is_ring, .func (PySem.W.fnOf "is_ring" "is_ring" (defArgs s_is_ring) (defBody s_is_ring) (defScope s_is_ring) .none kV_is_ring dc_is_ring pm_is_ring an_is_ring cd_is_ring ct_is_ring), sl_is_ring⟩)
    (c_is_ring : PySem.W.codeIn K cd_is_ring "is_ring" = true)
    (k_is_ring : PySem.W.keepIn K (.ref f_is_ring) = true)
    (a_law : PySem.W.nsIn K mainGlobals "law" = some (some (.ref f_law)))
    (l_law : K.lookup f_law = some ⟨oc_law, od_law, .func (PySem.W.fnOf "law" "law" (defArgs s_law) (defBody s_law) (defScope s_law) .none kV_law dc_law pm_law an_law cd_law ct_law), sl_law⟩)
    (c_law : PySem.W.codeIn K cd_law "law" = true)
    (k_law : PySem.W.keepIn K (.ref f_law) = true)
    (zmax : PySem.W.nsIn K mainGlobals "max" = some none)
    (zmin : PySem.W.nsIn K mainGlobals "min" = some none)
    : ∃ fd : FuncData, (∀ (s : Shared) (v : Value), BindsTo s fd ⟨[v], []⟩ [("_law_script", v)]) ∧ ∀ base : Heap, K.In base → base.Ns mainGlobals mg → FnG l.prog w K mg base CX0 8 fa fd ["_law_script"] (spLaw K) := by
  have e := hfa.symm.trans (PySem.W.mg_of X G a_law)
  cases e
  refine ⟨PySem.W.fnOf "law" "law" (defArgs s_law) (defBody s_law) (defScope s_law) .none kV_law dc_law pm_law an_law cd_law ct_law, fun s v => .of_eq rfl, fun base _ _ => ?_⟩
  let C : Cl := ⟨fun n => match n with | 10 => c_Talk | 2 => c_InvalidBook | 11 => c_Book | 1 => c_InvalidTalk | 0 => c_TalkError | _ => 0, Sh.att⟩
  have m_len := PySem.W.mg_none_of X G zlen
  have m_abs := PySem.W.mg_none_of X G zabs
  have m_int := PySem.W.mg_none_of X G zint
  have h__law_box := ok__law_box (P := l.prog) (w := w) (base := base) (C := C) (fun_mk (st := s__law_box) l__law_box c__law_box k__law_box) (PySem.W.mg_of X G a__law_box) m_len m_abs m_int
  have h__law_take := ok__law_take (P := l.prog) (w := w) (base := base) (C := C) (fun_mk (st := s__law_take) l__law_take c__law_take k__law_take) (PySem.W.mg_of X G a__law_take) m_int
  have m_list := PySem.W.mg_none_of X G zlist
  have m_range := PySem.W.mg_none_of X G zrange
  have h__law_mixed := ok__law_mixed (P := l.prog) (w := w) (base := base) (C := C) (fun_mk (st := s__law_mixed) l__law_mixed c__law_mixed k__law_mixed) (PySem.W.mg_of X G a__law_mixed) m_list m_range m_len h__law_take
  have h__law_pick := ok__law_pick (P := l.prog) (w := w) (base := base) (C := C) (fun_mk (st := s__law_pick) l__law_pick c__law_pick k__law_pick) (PySem.W.mg_of X G a__law_pick) h__law_take m_len
  have h__law_weights := ok__law_weights (P := l.prog) (w := w) (base := base) (C := C) (fun_mk (st := s__law_weights) l__law_weights c__law_weights k__law_weights) (PySem.W.mg_of X G a__law_weights) m_range h__law_pick h__law_take
  have h__law_book := ok__law_book (P := l.prog) (w := w) (base := base) (C := C) (fun_mk (st := s__law_book) l__law_book c__law_book k__law_book) (PySem.W.mg_of X G a__law_book) h__law_mixed h__law_take h__law_weights
  have m_isinstance := PySem.W.mg_none_of X G zisinstance
  have m_tuple := PySem.W.mg_none_of X G ztuple
  have h_is_sequence := ok_is_sequence (P := l.prog) (w := w) (base := base) (C := C) (fun_mk (st := s_is_sequence) l_is_sequence c_is_sequence k_is_sequence) (PySem.W.mg_of X G a_is_sequence) m_isinstance m_list m_tuple
  have cl_Talk : Cls K c_Talk := ⟨pg_Talk, hd_Talk, po_Talk, sa_Talk⟩
  have fl_rows : FldOk K C att "rows" := ⟨rfl, fun c h => by
    have hc : c = 10 := by
      unfold Sh.att at h
      split at h <;> first | exact rfl | (exfalso; revert h; decide +kernel)
    rcases hc with rfl
    · exact ⟨cl_Talk, na_Talk_rows⟩⟩
  have o_Talk___len__ := ok_Talk___len__ (P := l.prog) (w := w) (base := base) (C := C) (fun_mk (st := s_Talk___len__) l_Talk___len__ c_Talk___len__ k_Talk___len__) m_len fl_rows
  have h_is_pair := ok_is_pair (P := l.prog) (w := w) (base := base) (C := C) (fun_mk (st := s_is_pair) l_is_pair c_is_pair k_is_pair) (PySem.W.mg_of X G a_is_pair) m_isinstance m_tuple m_len
  have m_str := PySem.W.mg_none_of X G zstr
  have kc_LONGEST_NAME : ∃ t, mg "LONGEST_NAME" = some (.int 6 t) := ⟨_, PySem.W.mg_of X G zLONGEST_NAME⟩
  have m_all := PySem.W.mg_none_of X G zall
  have kc_LETTERS : ∃ t, mg "LETTERS" = some (.str "abcdefghijklmnopqrstuvwxyz" t) := ⟨_, PySem.W.mg_of X G zLETTERS⟩
  have h_is_name := ok_is_name (P := l.prog) (w := w) (base := base) (C := C) (fun_mk (st := s_is_name) l_is_name c_is_name k_is_name) (PySem.W.mg_of X G a_is_name) m_isinstance m_str m_len kc_LONGEST_NAME m_all kc_LETTERS
  have m_Talk : mg "Talk" = some (.ref c_Talk) := PySem.W.mg_of X G a_Talk
  have ck_Talk : ClsK K C 10 := ⟨cl_Talk, ha_Talk, hn, ht, hm_Talk, sf_Talk⟩
  have io_T : IsiOk K C [10] := by
    refine ⟨fun c h => ?_, fun c h c' h' => ?_, fun n hn c' h' => ?_, fun c h m hm => ?_⟩
    ·
      rcases List.mem_cons.mp h with rfl | h
      · exact ck_Talk
      cases h
    ·
      rcases List.mem_cons.mp h with rfl | h
      ·
        rcases List.mem_cons.mp h' with rfl | h'
        · exact kk_Talk_Talk
        cases h'
      cases h
    ·
      rcases List.mem_cons.mp h' with rfl | h'
      ·
        rcases List.mem_cons.mp hn with rfl | hn
        · exact kt_NoneType_Talk
        rcases List.mem_cons.mp hn with rfl | hn
        · exact kt_bool_Talk
        rcases List.mem_cons.mp hn with rfl | hn
        · exact kt_int_Talk
        rcases List.mem_cons.mp hn with rfl | hn
        · exact kt_str_Talk
        rcases List.mem_cons.mp hn with rfl | hn
        · exact kt_list_Talk
        rcases List.mem_cons.mp hn with rfl | hn
        · exact kt_tuple_Talk
        cases hn
      cases h'
    ·
      rcases List.mem_cons.mp h with rfl | h
      ·
        rcases List.mem_cons.mp hm with rfl | hm
        · exact ko_Talk_int
        rcases List.mem_cons.mp hm with rfl | hm
        · exact ko_Talk_bool
        rcases List.mem_cons.mp hm with rfl | hm
        · exact ko_Talk_str
        rcases List.mem_cons.mp hm with rfl | hm
        · exact ko_Talk_tuple
        rcases List.mem_cons.mp hm with rfl | hm
        · exact ko_Talk_list
        cases hm
      cases h
  have h_is_named_talk := ok_is_named_talk (P := l.prog) (w := w) (base := base) (C := C) (fun_mk (st := s_is_named_talk) l_is_named_talk c_is_named_talk k_is_named_talk) (PySem.W.mg_of X G a_is_named_talk) h_is_pair h_is_name m_isinstance m_Talk io_T
  have mh_len_T : MethOk l.prog w K mg base C 1 "__len__" mt_len_T := ⟨fun c F h => by
    unfold Sh.mt_len_T at h
    split at h
    · cases h
      obtain ⟨fd, hf, hb⟩ := o_Talk___len__.ex
      exact ⟨cl_Talk, by show ("__len__" : Str) ∉ (["rows"] : List Str); decide +kernel, _, fd, _, ⟨fi_Talk___len__, if_Talk___len__, k_Talk___len__⟩, hf.mono (by decide), hb⟩
    · cases h⟩
  have h_are_talks := ok_are_talks (P := l.prog) (w := w) (base := base) (C := C) (fun_mk (st := s_are_talks) l_are_talks c_are_talks k_are_talks) (PySem.W.mg_of X G a_are_talks) h_is_sequence m_len mh_len_T m_all h_is_named_talk
  have m_set := PySem.W.mg_none_of X G zset
  have h_are_steps := ok_are_steps (P := l.prog) (w := w) (base := base) (C := C) (fun_mk (st := s_are_steps) l_are_steps c_are_steps k_are_steps) (PySem.W.mg_of X G a_are_steps) h_is_sequence m_all h_is_pair m_len m_set
  have rs_InvalidBook : RaiseOk l.prog w K mg base C 1 "InvalidBook" 2 "word" := by
    have F0 := fun_mk (st := s_InvalidBook___init__) l_InvalidBook___init__ c_InvalidBook___init__ k_InvalidBook___init__
    exact ⟨_, _, "word", ⟨⟨_, _, _, _, _, _, _, _, _, _, _, _, _, _, _, xl_InvalidBook, rfl⟩, sa_InvalidBook, ex_InvalidBook, ty_InvalidBook, kp_InvalidBook⟩, ⟨⟨_, _, _, _, _, _, _, _, _, _, _, _, _, _, _, _, _, _, _, xl_InvalidBook, F.excBase_ValueError, tailVE, fun self => PySem.HandSPX.refsVE_pass self _ rfl, obVE⟩, sa_InvalidBook, kp_InvalidBook⟩, fi_InvalidBook___init__, tf_InvalidBook, ok_InvalidBook___init__ F0, F0.binds fun _ _ _ _ _ _ us hl => match us, hl with | [_, _], _ => rfl, PySem.W.mg_of X G a_InvalidBook, na_InvalidBook_word⟩
  have cl_Book : Cls K c_Book := ⟨pg_Book, hd_Book, po_Book, sa_Book⟩
  have fl_talks : FldOk K C att "talks" := ⟨rfl, fun c h => by
    have hc : c = 11 := by
      unfold Sh.att at h
      split at h <;> first | exact rfl | (exfalso; revert h; decide +kernel)
    rcases hc with rfl
    · exact ⟨cl_Book, na_Book_talks⟩⟩
  have fl_steps : FldOk K C att "steps" := ⟨rfl, fun c h => by
    have hc : c = 11 := by
      unfold Sh.att at h
      split at h <;> first | exact rfl | (exfalso; revert h; decide +kernel)
    rcases hc with rfl
    · exact ⟨cl_Book, na_Book_steps⟩⟩
  have m_sorted := PySem.W.mg_none_of X G zsorted
  have o_Book___init__ := ok_Book___init__ (P := l.prog) (w := w) (base := base) (C := C) (funT_mk (st := s_Book___init__) (nd := 1) l_Book___init__ t_Book___init__ ne_dt_Book___init__ c_Book___init__ k_Book___init__) h_are_talks rs_InvalidBook h_are_steps fl_talks m_tuple fl_steps m_sorted
  have m_bool := PySem.W.mg_none_of X G zbool
  have h_is_int := ok_is_int (P := l.prog) (w := w) (base := base) (C := C) (fun_mk (st := s_is_int) l_is_int c_is_int k_is_int) (PySem.W.mg_of X G a_is_int) m_isinstance m_int m_bool
  have h_is_number := ok_is_number (P := l.prog) (w := w) (base := base) (C := C) (fun_mk (st := s_is_number) l_is_number c_is_number k_is_number) (PySem.W.mg_of X G a_is_number) h_is_int
  have h_is_row_of := ok_is_row_of (P := l.prog) (w := w) (base := base) (C := C) (fun_mk (st := s_is_row_of) l_is_row_of c_is_row_of k_is_row_of) (PySem.W.mg_of X G a_is_row_of) h_is_sequence m_len m_all h_is_number
  have m_enumerate := PySem.W.mg_none_of X G zenumerate
  have h_first_wrong_row := ok_first_wrong_row (P := l.prog) (w := w) (base := base) (C := C) (fun_mk (st := s_first_wrong_row) l_first_wrong_row c_first_wrong_row k_first_wrong_row) (PySem.W.mg_of X G a_first_wrong_row) h_is_sequence m_len m_enumerate h_is_row_of
  have m_gcd := PySem.W.mg_of X G zgcd
  have h_common_divisor := ok_common_divisor (P := l.prog) (w := w) (base := base) (C := C) (fun_mk (st := s_common_divisor) l_common_divisor c_common_divisor k_common_divisor) (PySem.W.mg_of X G a_common_divisor) m_gcd
  have h_normal_row := ok_normal_row (P := l.prog) (w := w) (base := base) (C := C) (fun_mk (st := s_normal_row) l_normal_row c_normal_row k_normal_row) (PySem.W.mg_of X G a_normal_row) h_common_divisor m_tuple
  have rs_InvalidTalk : RaiseOk l.prog w K mg base C 1 "InvalidTalk" 1 "at" := by
    have F0 := fun_mk (st := s_InvalidTalk___init__) l_InvalidTalk___init__ c_InvalidTalk___init__ k_InvalidTalk___init__
    exact ⟨_, _, "at", ⟨⟨_, _, _, _, _, _, _, _, _, _, _, _, _, _, _, xl_InvalidTalk, rfl⟩, sa_InvalidTalk, ex_InvalidTalk, ty_InvalidTalk, kp_InvalidTalk⟩, ⟨⟨_, _, _, _, _, _, _, _, _, _, _, _, _, _, _, _, _, _, _, xl_InvalidTalk, F.excBase_ValueError, tailVE, fun self => PySem.HandSPX.refsVE_pass self _ rfl, obVE⟩, sa_InvalidTalk, kp_InvalidTalk⟩, fi_InvalidTalk___init__, tf_InvalidTalk, ok_InvalidTalk___init__ F0, F0.binds fun _ _ _ _ _ _ us hl => match us, hl with | [_, _], _ => rfl, PySem.W.mg_of X G a_InvalidTalk, na_InvalidTalk_at⟩
  have o_Talk___init__ := ok_Talk___init__ (P := l.prog) (w := w) (base := base) (C := C) (fun_mk (st := s_Talk___init__) l_Talk___init__ c_Talk___init__ k_Talk___init__) h_first_wrong_row rs_InvalidTalk fl_rows m_tuple h_normal_row
  have mk_Book : MakeOk l.prog w K mg base C 4 "Book" 11 F_Book___init__ [] := by
    obtain ⟨fd, hf, hb⟩ := o_Book___init__.ex
    exact ⟨_, fd, _, [], [], ⟨mk_Book_, fi_Book___init__, if_Book___init__, kp_Book⟩, PySem.W.mg_of X G a_Book, hf, hb, .nil, fun _ => .nil⟩
  have mk_Talk : MakeOk l.prog w K mg base C 5 "Talk" 10 F_Talk___init__ [] := by
    obtain ⟨fd, hf, hb⟩ := o_Talk___init__.ex
    exact ⟨_, fd, _, [], [], ⟨mk_Talk_, fi_Talk___init__, if_Talk___init__, kp_Talk⟩, PySem.W.mg_of X G a_Talk, hf, hb, .nil, fun _ => .nil⟩
  have hA : C.att = att := rfl
  have h__law_book_of := ok__law_book_of (P := l.prog) (w := w) (base := base) (C := C) (fun_mk (st := s__law_book_of) l__law_book_of c__law_book_of k__law_book_of) (PySem.W.mg_of X G a__law_book_of) mk_Book mk_Talk hA
  have h__law_row := ok__law_row (P := l.prog) (w := w) (base := base) (C := C) (fun_mk (st := s__law_row) l__law_row c__law_row k__law_row) (PySem.W.mg_of X G a__law_row) m_range h__law_take h__law_pick
  have h__law_misfit := ok__law_misfit (P := l.prog) (w := w) (base := base) (C := C) (fun_mk (st := s__law_misfit) l__law_misfit c__law_misfit k__law_misfit) (PySem.W.mg_of X G a__law_misfit) m_enumerate
  have o_Book_names := ok_Book_names (P := l.prog) (w := w) (base := base) (C := C) (fun_mk (st := s_Book_names) l_Book_names c_Book_names k_Book_names) m_tuple fl_talks
  have pp_names_B : PropOk l.prog w K mg base C 1 "names" mt_names_B := ⟨fun c F h => by
    unfold Sh.mt_names_B at h
    split at h
    · cases h
      obtain ⟨fd, hf, hb⟩ := o_Book_names.ex
      exact ⟨cl_Book, by show ("names" : Str) ∉ (["talks", "steps"] : List Str); decide +kernel, _, _, fd, _, ⟨fi_Book_names, sg_Book_names, tt_Book_names, ⟨_, rc_Book_names⟩⟩, hf.mono (by decide), hb⟩
    · cases h⟩
  have h_check_name := ok_check_name (P := l.prog) (w := w) (base := base) (C := C) (fun_mk (st := s_check_name) l_check_name c_check_name k_check_name) (PySem.W.mg_of X G a_check_name) pp_names_B
  have o_Book_behind := ok_Book_behind (P := l.prog) (w := w) (base := base) (C := C) (fun_mk (st := s_Book_behind) l_Book_behind c_Book_behind k_Book_behind) h_check_name m_tuple fl_steps
  have mh_behind_B : MethOk l.prog w K mg base C 4 "behind" mt_behind_B := ⟨fun c F h => by
    unfold Sh.mt_behind_B at h
    split at h
    · cases h
      obtain ⟨fd, hf, hb⟩ := o_Book_behind.ex
      exact ⟨cl_Book, by show ("behind" : Str) ∉ (["talks", "steps"] : List Str); decide +kernel, _, fd, _, ⟨fi_Book_behind, if_Book_behind, k_Book_behind⟩, hf.mono (by decide), hb⟩
    · cases h⟩
  have h_first_wrong_name := ok_first_wrong_name (P := l.prog) (w := w) (base := base) (C := C) (fun_mk (st := s_first_wrong_name) l_first_wrong_name c_first_wrong_name k_first_wrong_name) (PySem.W.mg_of X G a_first_wrong_name) h_is_sequence m_enumerate pp_names_B mh_behind_B
  have h_is_row := ok_is_row (P := l.prog) (w := w) (base := base) (C := C) (fun_mk (st := s_is_row) l_is_row c_is_row k_is_row) (PySem.W.mg_of X G a_is_row) h_first_wrong_name
  have h_is_ring := ok_is_ring (P := l.prog) (w := w) (base := base) (C := C) (fun_mk (st := s_is_ring) l_is_ring c_is_ring k_is_ring) (PySem.W.mg_of X G a_is_ring) h_is_row m_len mh_behind_B
  have m_max := PySem.W.mg_none_of X G zmax
  have m_min := PySem.W.mg_none_of X G zmin
  exact ok_law (C := C) (fun_mk (st := s_law) l_law c_law k_law) m_range m_max m_min m_len h__law_box h__law_book h__law_take h__law_book_of h__law_row h__law_misfit m_list h_is_row h_is_ring m_tuple m_isinstance m_bool h__law_pick law13_true
end K13
set_option Elab.async false
open PySem PySem.W PyProof.Rows
set_option maxRecDepth 100000 in
set_option maxHeartbeats 0 in
theorem PySem.Challenge.cw_talkmeans_k13_rows_and_rings_holds : PySem.Challenge.rw_talkmeans_k13_rows_and_rings.Holds := by
  w_on; o_law; k_head; (case hw => w_witness2)
  k_fill
  refine Tk.walkG (l := PySem.Challenge.rw_talkmeans_k13_rows_and_rings) (k := 8) (x := "_law_script") (sp := Pl.spLaw) rfl rfl ⟨rfl, by decide, by decide⟩ (fun w h Y => PySem.W.kIn_of Y) ?F (fun K H a ns hl _ hS => ⟨a, ns, rfl, hS, hl, fun _ => rfl⟩)
  case F =>
    intro w mg fa h KX G hmg
    refine' K13.all_mk KX G hmg ?a_Talk ?a_InvalidBook ?a_Book ?a_InvalidTalk ?a__law_box ?l__law_box ?c__law_box ?k__law_box ?zlen ?zabs ?zint ?a__law_take ?l__law_take ?c__law_take ?k__law_take ?a__law_mixed ?l__law_mixed ?c__law_mixed ?k__law_mixed ?zlist ?zrange ?a__law_pick ?l__law_pick ?c__law_pick ?k__law_pick ?a__law_weights ?l__law_weights ?c__law_weights ?k__law_weights ?a__law_book ?l__law_book ?c__law_book ?k__law_book ?a_is_sequence ?l_is_sequence ?c_is_sequence ?k_is_sequence ?zisinstance ?ztuple ?fi_Talk___len__ ?l_Talk___len__ ?c_Talk___len__ ?k_Talk___len__ ?if_Talk___len__ ?pg_Talk ?hd_Talk ?po_Talk ?sa_Talk ?na_Talk_rows ?a_is_pair ?l_is_pair ?c_is_pair ?k_is_pair ?a_is_name ?l_is_name ?c_is_name ?k_is_name ?zstr ?zLONGEST_NAME ?zall ?zLETTERS ?a_is_named_talk ?l_is_named_talk ?c_is_named_talk ?k_is_named_talk ?ha_Talk ?hn ?ht ?hm_Talk ?sf_Talk ?kk_Talk_Talk ?kt_NoneType_Talk ?kt_bool_Talk ?kt_int_Talk ?kt_str_Talk ?kt_list_Talk ?kt_tuple_Talk ?ko_Talk_int ?ko_Talk_bool ?ko_Talk_str ?ko_Talk_tuple ?ko_Talk_list ?a_are_talks ?l_are_talks ?c_are_talks ?k_are_talks ?a_are_steps ?l_are_steps ?c_are_steps ?k_are_steps ?zset ?fi_Book___init__ ?l_Book___init__ ?t_Book___init__ ?ne_dt_Book___init__ ?c_Book___init__ ?k_Book___init__ ?if_Book___init__ ?a_TalkError ?fi_InvalidBook___init__ ?l_InvalidBook___init__ ?c_InvalidBook___init__ ?k_InvalidBook___init__ ?xl_InvalidBook ?sa_InvalidBook ?na_InvalidBook_word ?tf_InvalidBook ?ty_InvalidBook ?kp_InvalidBook ?ex_InvalidBook ?pg_Book ?hd_Book ?po_Book ?sa_Book ?na_Book_talks ?na_Book_steps ?zsorted ?a_is_int ?l_is_int ?c_is_int ?k_is_int ?zbool ?a_is_number ?l_is_number ?c_is_number ?k_is_number ?a_is_row_of ?l_is_row_of ?c_is_row_of ?k_is_row_of ?a_first_wrong_row ?l_first_wrong_row ?c_first_wrong_row ?k_first_wrong_row ?zenumerate ?a_common_divisor ?l_common_divisor ?c_common_divisor ?k_common_divisor ?zgcd ?a_normal_row ?l_normal_row ?c_normal_row ?k_normal_row ?fi_Talk___init__ ?l_Talk___init__ ?c_Talk___init__ ?k_Talk___init__ ?if_Talk___init__ ?fi_InvalidTalk___init__ ?l_InvalidTalk___init__ ?c_InvalidTalk___init__ ?k_InvalidTalk___init__ ?xl_InvalidTalk ?sa_InvalidTalk ?na_InvalidTalk_at ?tf_InvalidTalk ?ty_InvalidTalk ?kp_InvalidTalk ?ex_InvalidTalk ?a__law_book_of ?l__law_book_of ?c__law_book_of ?k__law_book_of ?mk_Book_ ?kp_Book ?mk_Talk_ ?kp_Talk ?a__law_row ?l__law_row ?c__law_row ?k__law_row ?a__law_misfit ?l__law_misfit ?c__law_misfit ?k__law_misfit ?fi_Book_names ?sg_Book_names ?tt_Book_names ?rc_Book_names ?l_Book_names ?c_Book_names ?k_Book_names ?a_check_name ?l_check_name ?c_check_name ?k_check_name ?fi_Book_behind ?l_Book_behind ?c_Book_behind ?k_Book_behind ?if_Book_behind ?a_first_wrong_name ?l_first_wrong_name ?c_first_wrong_name ?k_first_wrong_name ?a_is_row ?l_is_row ?c_is_row ?k_is_row ?a_is_ring ?l_is_ring ?c_is_ring ?k_is_ring ?a_law ?l_law ?c_law ?k_law ?zmax ?zmin
    (case a_Talk => k_is)
    (case a_InvalidBook => k_is)
    (case a_Book => k_is)
    (case a_InvalidTalk => k_is)
    (case a__law_box => k_is)
    (case l__law_box => k_is)
    (case c__law_box => k_is)
    (case k__law_box => k_is)
    (case zlen => k_is)
    (case zabs => k_is)
    (case zint => k_is)
    (case a__law_take => k_is)
    (case l__law_take => k_is)
    (case c__law_take => k_is)
    (case k__law_take => k_is)
    (case a__law_mixed => k_is)
    (case l__law_mixed => k_is)
    (case c__law_mixed => k_is)
    (case k__law_mixed => k_is)
    (case zlist => k_is)
    (case zrange => k_is)
    (case a__law_pick => k_is)
    (case l__law_pick => k_is)
    (case c__law_pick => k_is)
    (case k__law_pick => k_is)
    (case a__law_weights => k_is)
    (case l__law_weights => k_is)
    (case c__law_weights => k_is)
    (case k__law_weights => k_is)
    (case a__law_book => k_is)
    (case l__law_book => k_is)
    (case c__law_book => k_is)
    (case k__law_book => k_is)
    (case a_is_sequence => k_is)
    (case l_is_sequence => k_is)
    (case c_is_sequence => k_is)
    (case k_is_sequence => k_is)
    (case zisinstance => k_is)
    (case ztuple => k_is)
    (case fi_Talk___len__ => k_is)
    (case l_Talk___len__ => k_is)
    (case c_Talk___len__ => k_is)
    (case k_Talk___len__ => k_is)
    (case if_Talk___len__ => k_is)
    (case pg_Talk => k_is)
    (case hd_Talk => k_is)
    (case po_Talk => k_is)
    (case sa_Talk => k_is)
    (case na_Talk_rows => k_is)
    (case a_is_pair => k_is)
    (case l_is_pair => k_is)
    (case c_is_pair => k_is)
    (case k_is_pair => k_is)
    (case a_is_name => k_is)
    (case l_is_name => k_is)
    (case c_is_name => k_is)
    (case k_is_name => k_is)
    (case zstr => k_is)
    (case zLONGEST_NAME => k_is)
    (case zall => k_is)
    (case zLETTERS => k_is)
    (case a_is_named_talk => k_is)
    (case l_is_named_talk => k_is)
    (case c_is_named_talk => k_is)
    (case k_is_named_talk => k_is)
    (case ha_Talk => k_is)
    (case hn => k_is)
    (case ht => k_is)
    (case hm_Talk => k_is)
    (case sf_Talk => k_is)
    (case kk_Talk_Talk => kit_is)
    (case kt_NoneType_Talk => kit_is)
    (case kt_bool_Talk => kit_is)
    (case kt_int_Talk => kit_is)
    (case kt_str_Talk => kit_is)
    (case kt_list_Talk => kit_is)
    (case kt_tuple_Talk => kit_is)
    (case ko_Talk_int => kit_is)
    (case ko_Talk_bool => kit_is)
    (case ko_Talk_str => kit_is)
    (case ko_Talk_tuple => kit_is)
    (case ko_Talk_list => kit_is)
    (case a_are_talks => k_is)
    (case l_are_talks => k_is)
    (case c_are_talks => k_is)
    (case k_are_talks => k_is)
    (case a_are_steps => k_is)
    (case l_are_steps => k_is)
    (case c_are_steps => k_is)
    (case k_are_steps => k_is)
    (case zset => k_is)
    (case fi_Book___init__ => k_is)
    (case l_Book___init__ => k_is)
    (case t_Book___init__ => k_is)
    (case ne_dt_Book___init__ => first | decide +kernel | rfl)
    (case c_Book___init__ => k_is)
    (case k_Book___init__ => k_is)
    (case if_Book___init__ => k_is)
    (case a_TalkError => k_is)
    (case fi_InvalidBook___init__ => k_is)
    (case l_InvalidBook___init__ => k_is)
    (case c_InvalidBook___init__ => k_is)
    (case k_InvalidBook___init__ => k_is)
    (case xl_InvalidBook => k_is)
    (case sa_InvalidBook => k_is)
    (case na_InvalidBook_word => k_is)
    (case tf_InvalidBook => k_is)
    (case ty_InvalidBook => k_is)
    (case kp_InvalidBook => k_is)
    (case ex_InvalidBook => k_is)
    (case pg_Book => k_is)
    (case hd_Book => k_is)
    (case po_Book => k_is)
    (case sa_Book => k_is)
    (case na_Book_talks => k_is)
    (case na_Book_steps => k_is)
    (case zsorted => k_is)
    (case a_is_int => k_is)
    (case l_is_int => k_is)
    (case c_is_int => k_is)
    (case k_is_int => k_is)
    (case zbool => k_is)
    (case a_is_number => k_is)
    (case l_is_number => k_is)
    (case c_is_number => k_is)
    (case k_is_number => k_is)
    (case a_is_row_of => k_is)
    (case l_is_row_of => k_is)
    (case c_is_row_of => k_is)
    (case k_is_row_of => k_is)
    (case a_first_wrong_row => k_is)
    (case l_first_wrong_row => k_is)
    (case c_first_wrong_row => k_is)
    (case k_first_wrong_row => k_is)
    (case zenumerate => k_is)
    (case a_common_divisor => k_is)
    (case l_common_divisor => k_is)
    (case c_common_divisor => k_is)
    (case k_common_divisor => k_is)
    (case zgcd => k_is)
    (case a_normal_row => k_is)
    (case l_normal_row => k_is)
    (case c_normal_row => k_is)
    (case k_normal_row => k_is)
    (case fi_Talk___init__ => k_is)
    (case l_Talk___init__ => k_is)
    (case c_Talk___init__ => k_is)
    (case k_Talk___init__ => k_is)
    (case if_Talk___init__ => k_is)
    (case fi_InvalidTalk___init__ => k_is)
    (case l_InvalidTalk___init__ => k_is)
    (case c_InvalidTalk___init__ => k_is)
    (case k_InvalidTalk___init__ => k_is)
    (case xl_InvalidTalk => k_is)
    (case sa_InvalidTalk => k_is)
    (case na_InvalidTalk_at => k_is)
    (case tf_InvalidTalk => k_is)
    (case ty_InvalidTalk => k_is)
    (case kp_InvalidTalk => k_is)
    (case ex_InvalidTalk => k_is)
    (case a__law_book_of => k_is)
    (case l__law_book_of => k_is)
    (case c__law_book_of => k_is)
    (case k__law_book_of => k_is)
    (case mk_Book_ => k_is)
    (case kp_Book => k_is)
    (case mk_Talk_ => k_is)
    (case kp_Talk => k_is)
    (case a__law_row => k_is)
    (case l__law_row => k_is)
    (case c__law_row => k_is)
    (case k__law_row => k_is)
    (case a__law_misfit => k_is)
    (case l__law_misfit => k_is)
    (case c__law_misfit => k_is)
    (case k__law_misfit => k_is)
    (case fi_Book_names => k_is)
    (case sg_Book_names => k_is)
    (case tt_Book_names => k_is)
    (case rc_Book_names => k_is)
    (case l_Book_names => k_is)
    (case c_Book_names => k_is)
    (case k_Book_names => k_is)
    (case a_check_name => k_is)
    (case l_check_name => k_is)
    (case c_check_name => k_is)
    (case k_check_name => k_is)
    (case fi_Book_behind => k_is)
    (case l_Book_behind => k_is)
    (case c_Book_behind => k_is)
    (case k_Book_behind => k_is)
    (case if_Book_behind => k_is)
    (case a_first_wrong_name => k_is)
    (case l_first_wrong_name => k_is)
    (case c_first_wrong_name => k_is)
    (case k_first_wrong_name => k_is)
    (case a_is_row => k_is)
    (case l_is_row => k_is)
    (case c_is_row => k_is)
    (case k_is_row => k_is)
    (case a_is_ring => k_is)
    (case l_is_ring => k_is)
    (case c_is_ring => k_is)
    (case k_is_ring => k_is)
    (case a_law => k_is)
    (case l_law => k_is)
    (case c_law => k_is)
    (case k_law => k_is)
    (case zmax => k_is)
    (case zmin => k_is)
