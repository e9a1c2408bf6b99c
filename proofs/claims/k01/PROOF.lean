import PyProof.Rows.All
import Wide.All
import OpenK.AllK
import Wide.FinOn
import KE.KIsAll
import KE.KTryMore
import HandS.ForMost
import HandS.Exc
import HandS.ExcInit
import HandS.ExcIs
import HandS.IsInst
import PyProof.ReprReads
import HandS.ExcField
import HandS.ExcOwn
import HandS.ExcValue
import HandS.Defaults
import HandS.Walk
import PySem.Challenge.RW_talkmeans_k01_errors_and_what_they_keep
set_option Elab.async false
set_option maxRecDepth 100000
set_option maxHeartbeats 4000000
/-! Promises of defs that are asked where no repr is under way; repr of data of any depth. -/
namespace Tk
open PySem PySem.Spec PyProof.Rows L2

/-- a def's promise, asked where nothing is being shown -/
structure FnG (P : Program) (w : World) (K : PySem.W.Frag) (mg : Str → Option Value) (base : Heap) (CX : CXT) (k : Nat) (f : Addr) (fd : FuncData) (ps : List Str) (sp : Sp) : Prop where
  arity : ∀ vs H Q E, sp vs H Q E → vs.length = ps.length
  go : ∀ (A : Around) (outer : List Env) (s : Shared) (H : Hp) (args : Args) (us : List Value) (vs : List V) (Q : VK) (E : XK), A.guards = some [] →
    Room k A → Env0 P w K mg base A outer s H → BindsTo s fd args (ps.zip us) → Vals vs us → sp vs H Q E →
      codeAny (model P w) A (.call (.ref f) args) (CR CX outer P w H s Q E) s

section
variable {P : Program} {w : World} {K : PySem.W.Frag} {mg : Str → Option Value} {base : Heap}
theorem FnG.of {CX : CXT} {k : Nat} {f : Addr} {fd : FuncData} {ps : List Str} {sp : Sp} (F : FnOk P w K mg base CX k f fd ps sp) : FnG P w K mg base CX k f fd ps sp :=
  ⟨F.len, fun A o s H a us vs Q E _ => F.run A o s H a us vs Q E⟩

/-- the rule for a def by its body, nothing being shown -/
theorem okG {x qual : Str} {st : Stmt} {f : Addr} {fd : FuncData} {N ps : List Str} {k : Nat} {sp : Sp} (F : Fun K x qual st f fd) (S : FnScope N ps (defScope st)) (ar : ∀ vs H Q E, sp vs H Q E → vs.length = ps.length)
    (body : ∀ (cdv : Value) (A : Around) (outer : List Env) (s : Shared) (H : Hp) (vs : List V) (Q : VK) (E : XK), A.guards = some [] → Room k (A.deeper (envOfC qual (defScope st) s.heap.objs.size f cdv)) → sp vs H Q E →
      ∃ t, PSs (cxOf CX0 P w K mg base N qual (defScope st) f cdv A outer s H E).nox (defBody st) t ∧ t { nx := fun _ H' => Q .non H', rt := Q } (start N vs) H) :
    FnG P w K mg base CX0 (k + 1) f fd ps sp := by
  refine ⟨ar, fun A outer s H args us vs Q E gd room env bnd rel ask => ?_⟩
  obtain ⟨oc, od, kV, doc, pm, an, cdv, ct, osl, efd, look, hcode⟩ := F.ex
  subst efd
  have KH : K.In s.heap := env.mod.kin.keeps fun b o e => (env.bs b o e).1
  have noLim : s.heap.NoLimit := env.mod.nolimit.keeps fun b o e => (env.bs b o e).1
  have kinds : ∀ y ∈ ps.zip us, (defScope st).names.lookup y.1 = some .local ∨ ((defScope st).names.lookup y.1 = some .cell ∧ ((cellsFrom (s.heap.objs.size + 1) (defScope st).names []).lookup y.1).isSome = true) := by
    rintro ⟨n, v⟩ hy
    have hn : n ∈ ps := (List.of_mem_zip hy).1
    cases S.par n hn with
    | inl q => exact Or.inl q
    | inr q => exact Or.inr ⟨q, PySem.W.cellsFrom_some _ _ _ (Or.inl q)⟩
  refine codeAny_call_function room.depth (KH _ _ look) rfl S.co S.gen rfl (PySem.W.codeRec_of KH hcode) (bnd _ _ _ _ ?_)
  refine wpAny_newFunctionEnv_cells S.kind kinds fun env' he s1 x => ?_
  subst he
  refine ⟨noLim.keeps x.toInCall.keep, codeAny_func ?_⟩
  obtain ⟨t, tr, ans⟩ := body cdv A outer s H vs Q E gd (room.deeper _) ask
  have inv := inv_start (CX := CX0) (E := E) S room.hd env (ar _ _ _ _ ask) rel x
  refine wpAny_mono (tr.nox.run [] s1 (start N vs) H _ inv ans) (fun fl s' out => ?_) fun e s' out => out
  cases fl with
  | brk => obtain ⟨_, _, _, q⟩ := out; exact q.elim
  | cont => obtain ⟨_, _, _, q⟩ := out; exact q.elim
  | next => obtain ⟨σ', H', J, q⟩ := out; exact ⟨V.non, H', J.os, J.bare, J.base, J.hok, rfl, q⟩
  | ret u => obtain ⟨v, σ', H', J, rv, q⟩ := out; exact ⟨v, H', J.os, J.bare, J.base, J.hok, rv, q⟩
end

section
variable {X : Cx} {CX : CXT} {k : Nat} {f : Addr} {fd : FuncData} {ps : List Str} {sp : Sp} {dvs : List V} {ds : List Value} {E : XK} {x : Str} {p pos : Pos} {e : Expr} {es : List Expr} {t : TA}
/-- f(..) of such a def -/
theorem pe_callG (F : FnG X.prog X.w X.K X.mg X.base CX k f fd ps sp) (gd : X.A.guards = some []) (hr : Room k X.A) (hg : Gl X x) (hm : X.mg x = some (.ref f)) (hk : PySem.W.keepIn X.K (.ref f) = true) (hb : Binds X.K fd ps ds) (hd : Vals dvs ds)
    (hx : Passes CX X E) (ha : PA X (e :: es) t) (hdb : (x == ("__debug__" : Str)) = false := by decide) (he : starEach (e :: es) X.env = (false, eval e X.env) :: starEach es X.env := by rfl)
    (hpl : (backTo pos (starEach es X.env)).any (·.1) = false := by rfl) : PE X (.Call (.Name x p) (e :: es) [] pos) (tCall sp dvs E t) := by
  constructor
  intro pins s σ H Q I h
  refine wpAny_Call_Name_kw (ld_glob I hg hm ?_ hdb)
  refine PySem.W.callWith_K (h₀ := X.base) I.ok.mod.kin hk ?_ he hpl
  refine thn (ha.run pos pins s σ H _ I h) ?_
  rintro us s1 ⟨vs, H1, I1, r, q⟩
  refine ⟨I1.kIn, ?_⟩
  have rel := r.append hd
  have len : (us ++ ds).length = ps.length := (rel.length.symm).trans (F.arity _ _ _ _ q)
  refine wpAny_call (codeAny_mono (F.go X.A X.stack s1 H1 ⟨us, []⟩ (us ++ ds) (vs ++ dvs) Q E gd hr I1.env0 (hb s1 us I1.kIn len) rel q) ?_)
  rintro (er | fl) s' out
  · exact hx pins σ H1 s1 er s' I1 out
  · cases fl with
    | ret u => exact I1.after out
    | next => exact out.elim
    | brk => exact out.elim
    | cont => exact out.elim

/-- repr(x), x data of any depth -/
def rRepr (K : PySem.W.Frag) : List V → Hp → VK → Prop := fun xs H Q =>
  ∃ (x : V) (d : PyData), xs = [x] ∧ Dp K H x d ∧ d.showable = true ∧ d.hasDict = false ∧ d.depth ≤ 60 ∧ d.shown.length + 64 ≤ sizeLine ∧ Q (.str d.shown) H
theorem call_repr (gd : X.A.guards = some []) (hu : X.A.units + 64 < cLine) : CallR X (.builtin "repr") (rRepr X.K) := by
  intro pins s σ H xs us Q I r h
  obtain ⟨x, d, rfl, dp, sh, nd, dd, sz, q⟩ := h
  obtain ⟨u, rfl, ru⟩ := vals1 r
  obtain ⟨as, rd⟩ := Dp.reads I d x u dp ru
  have fin : ∀ (h' : Heap) (t tk : Tok), (∀ b o, s.heap.get? b = some o → h'.get? b = some o) → EP X pins σ Q (Value.str d.shown t) { s with heap := h', toks := tk } :=
    fun h' t tk keep => ⟨V.str d.shown, H, I.kept keep, ⟨t, rfl⟩, q⟩
  by_cases isR : isDisplay d = true
  · obtain ⟨a, rfl⟩ := isRef_of_reads rd isR
    exact repr_of_reads' rd sh (PyData.noDict_hsm nd) gd (by omega) (fun _ _ e => e) (fun h' t tk keep => fin h' t tk keep) (by omega)
  · have plain : ∀ (y : Str), y = d.shown → EP X pins σ Q (Value.str y s.toks) { s with toks := s.toks + 1 } := by
      rintro y rfl
      exact ⟨V.str d.shown, H, I.tok _, ⟨_, rfl⟩, q⟩
    cases dp with
    | non => cases ru; exact PySem.P.repr_of_none (plain _ rfl)
    | bl b => cases ru; exact PySem.P.repr_of_bool (plain _ (by cases b <;> rfl))
    | int i => obtain ⟨t, rfl⟩ := ru; exact PySem.P.repr_of_int (by simpa [PyData.showable] using sh) (plain _ rfl)
    | str y => obtain ⟨t, rfl⟩ := ru; exact PySem.P.repr_of_str (plain _ rfl) (Nat.le_trans (Nat.le_add_right _ 64) sz)
    | lst _ _ => exact absurd rfl isR
    | tup _ _ => exact absurd rfl isR
end

/-! ### the law's own call, nothing being shown around it -/
section
variable {P : Program} {w : World} {K : PySem.W.Frag} {mg mb : Str → Option Value} {k : Nat} {fa a : Addr} {fd : FuncData} {x : Str} {sp : Sp} {s₁ : Shared} {vs : List Value} {ns : List Int}
/-- what is tracked ahead of the law: the script alone, or nothing -/
structure Ahead (K : PySem.W.Frag) (h : Heap) (a : Addr) (H : Hp) : Prop where
  only : Only H
  one : ∀ b, H b ≠ none → b = a
  free : H a ≠ none → K.lookup a = none
theorem Ahead.no {h : Heap} {H : Hp} (Z : Ahead K h a H) {b : Addr} (hb : b ≠ a) : H b = none := Classical.byContradiction fun q => hb (Z.one b q)
theorem Ahead.mod {h : Heap} {H : Hp} (Z : Ahead K h a H) (hK : K.In h) (hm : h.Ns mainGlobals mg) (hbu : h.Ns builtinsNs mb) (hbb : ∀ y : Str, y ≠ "__name__" → mb y = bootBuiltins y) (hl : h.NoLimit)
    {o : Obj} (ha : h.get? a = some o) (nd : ∀ es ep, o.data ≠ .dict es ep) : Mod K mg (hidT h H) := by
  have into : ∀ {L : Addr} {m : Str → Option Value}, h.Ns L m → (hidT h H).Ns L m := by
    rintro L m ⟨u, es, ep, g1, g2, rest⟩
    have ne : L ≠ a := by
      rintro rfl
      rw [ha] at g1
      cases g1
      exact nd es ep g2
    exact ⟨u, es, ep, hidT_get g1 (Z.no ne), g2, rest⟩
  have inK : K.In (hidT h H) := by
    intro b u hu
    refine hidT_get (hK b u hu) (Classical.byContradiction fun q => ?_)
    have e := Z.one b q
    subst e
    rw [Z.free q] at hu
    cases hu
  obtain ⟨mc, l1, l2⟩ := hl
  exact ⟨inK, into hm, ⟨mb, into hbu, hbb⟩, ⟨mc, into l1, l2⟩⟩
theorem lawG (KX : K.In s₁.heap) (hm : s₁.heap.Ns mainGlobals mg) (hbu : s₁.heap.Ns builtinsNs mb) (hbb : ∀ y : Str, y ≠ "__name__" → mb y = bootBuiltins y) (hlim : s₁.heap.NoLimit) (hgen : s₁.gens = #[])
    (ha : s₁.heap.get? a = some { cls := .type "list", data := .seq vs.toArray }) (hi : IntsAre vs ns) (hl : ns.length ≤ sizeLine) (hr : Room k callerA)
    (F : ∀ base : Heap, K.In base → base.Ns mainGlobals mg → FnG P w K mg base CX0 k fa fd [x] sp) (bnd : ∀ (s : Shared) (u : Value), BindsTo s fd ⟨[u], []⟩ [(x, u)])
    (ask : ∀ H : Hp, Only H → SqL K H a (ns.map V.int) → sp [.ref a] H (fun v _ => v = .bl true) fun _ _ _ => False) :
    codeAny (model P w) callerA (.call (.ref fa) ⟨[.ref a], []⟩) (fun r s' => r = .ok (.ret (.bool true)) ∧ OldK s₁.heap s'.heap ∧ s'.os = s₁.os ∧ AllBare s'.gens) s₁ := by
  have rel := vals_ints hi
  have from_ : ∀ H : Hp, Ahead K s₁.heap a H → SqL K H a (ns.map V.int) → HOk P w H s₁.heap →
      codeAny (model P w) callerA (.call (.ref fa) ⟨[.ref a], []⟩) (fun r s' => r = .ok (.ret (.bool true)) ∧ OldK s₁.heap s'.heap ∧ s'.os = s₁.os ∧ AllBare s'.gens) s₁ := by
    intro H Z sq ok
    have M : Mod K mg (hidT s₁.heap H) := Z.mod KX hm hbu hbb hlim ha (fun es ep e => by cases e)
    have env : Env0 P w K mg (hidT s₁.heap H) callerA [] s₁ H :=
      { frames := rfl, mod := M, bs := fun b o e => of_hidT e, bsz := Nat.le_of_eq (hidT_size _ _), funs := True.intro, frf := fun b hb => absurd hb List.not_mem_nil, hok := ok, bare := AllBare.of_eq hgen }
    refine codeAny_mono ((F _ M.kin M.glob).go callerA [] s₁ H ⟨[.ref a], []⟩ [.ref a] [.ref a] _ _ rfl hr env (bnd s₁ (.ref a)) (.cons rfl .nil) (ask H Z.only sq)) ?_
    rintro (er | fl) s' out
    · exact out.elim
    · cases fl with
      | next => exact out.elim
      | brk => exact out.elim
      | cont => exact out.elim
      | ret u =>
        obtain ⟨v, H', os, bare, un, ok', ru, rfl⟩ := out
        cases ru
        refine ⟨rfl, OldK.of_keep ?_, os, bare⟩
        intro b o e
        by_cases q : H b = none
        · exact un.keep b o e q List.not_mem_nil List.not_mem_nil
        · rcases Z.only b with z | ⟨ob, xs, z⟩
          · exact absurd z q
          · have e1 := (ok b _ z).1
            have e2 := (ok' b _ (un.frzs b ob _ z)).1
            rw [e1] at e
            cases e
            exact e2
  rcases hk : K.lookup a with _ | o
  · refine from_ (fun b => if b = a then some (.frz { cls := .type "list", data := .seq vs.toArray } (.lst (ns.map V.int))) else none) ⟨fun b => ?_, fun b q => ?_, fun _ => hk⟩ (.inl (.inr ⟨_, if_pos rfl⟩)) (fun b u z => ?_)
    · by_cases hb : b = a
      · exact .inr ⟨_, _, if_pos hb⟩
      · exact .inl (if_neg hb)
    · exact Classical.byContradiction fun hb => q (if_neg hb)
    · dsimp only at z
      by_cases hb : b = a
      · subst hb
        rw [if_pos rfl] at z
        cases z
        exact ⟨ha, by rw [List.length_map]; exact hl, vs, _, rel, ha⟩
      · rw [if_neg hb] at z
        cases z
  · have e := KX a o hk
    rw [ha] at e
    cases e
    exact from_ (fun _ => none) ⟨fun _ => .inl rfl, fun b q => absurd rfl q, fun q => absurd rfl q⟩ (.inr ⟨_, vs.toArray, _, hk, rfl, rfl, rfl, by rw [List.size_toArray, hi.length]; exact hl, by simpa using rel⟩) (fun b u z => by cases z)
end
/-- what the head leaves, from the law's promise -/
theorem walkG {l : PySem.W.OpenLaw} {k : Nat} {q : Program} {loose : List Str} {XP : (Str → Option Value) → Heap → Prop} {YP : World → Heap → Prop} {d : DefRec} {K : Params → PySem.W.Frag} {sp : PySem.W.Frag → Sp} {x : Str}
    (hn : l.most = some 63) (hdf : d.params.defaults = []) (hr : Room k callerA) (hY : ∀ (w : World) (h : Heap), YP w h → (K w.params).In h)
    (F : ∀ (w : World) (mg : Str → Option Value) (fa : Addr) (h : Heap), (K w.params).In h → h.Ns mainGlobals mg → mg d.name = some (.ref fa) →
      ∃ fd : FuncData, (∀ (s : Shared) (u : Value), BindsTo s fd ⟨[u], []⟩ [(x, u)]) ∧ ∀ base : Heap, (K w.params).In base → base.Ns mainGlobals mg → FnG l.prog w (K w.params) mg base CX0 k fa fd [x] (sp (K w.params)))
    (ask : ∀ (K : PySem.W.Frag) (H : Hp) (a : Addr) (ns : List Int), ns.length ≤ 63 → Only H → SqL K H a (ns.map V.int) → sp K [.ref a] H (fun v _ => v = .bl true) fun _ _ _ => False) :
    PySem.W.WalkO q loose XP YP l.row.toRowW d [] (fun f vs => PySem.call f vs) := by
  refine Att.attach_call hn hdf ?_
  intro w s₀ s₁ mg mb fa o pm cd doc a vs ns G Y ho hd hcd hmg hobj hints hlen hgen
  have KX := hY w _ Y
  obtain ⟨fd, bnd, hF⟩ := F w mg fa _ KX G.T.g hmg
  exact lawG KX G.T.g G.T.b G.T.builtins G.T.nolimit hgen hobj hints (Nat.le_trans hlen (by decide)) hr hF bnd (fun H hO hS => ask _ H a ns hlen hO hS)
end Tk
set_option Elab.async false
set_option maxRecDepth 100000
set_option maxHeartbeats 4000000
/-! Own exceptions over any built-in base, with an __init__ of the program, made by place and by names; held as values. -/
namespace PySem
namespace HandSPX
open Builtin Builtin.ObjectAttr
/-- what the classes behind an own class say to its maker -/
structure Tail (bm : List Value) (Bn : String) : Prop where
  has : bm.contains (.type Bn) = true
  na : bm.contains (.type "AttributeError") = false
  nn : bm.contains (.type "NameError") = false
section
variable {M : Model} {A : Around} {E : Value → Shared → Prop} {h : Heap} {g : Array GenState} {d : Drawn} {t : Nat} {os : OsState} {prog : Program} {w : World} {R : Result → Shared → Prop}
variable {nm q : Str} {C N : Addr} {bs bm bmN : List Value} {hdct : Bool} {sn : List Str} {sub : List Value} {ab : Bool} {col : Option Bool} {dd : Option Addr} {k0 k1 k2 k3 k5 : Option Value} {Bn newId initId : String}
theorem newCheckK (F : ExcBaseFacts Bn newId initId bmN) (T : Tail bm Bn) {rest : List Value} {kw : List (Str × Value)} {Q : Unit → Shared → Prop} (cls : h.get? C = some (excClassObj nm q C N bs bm hdct sn sub ab col dd k0 k1 k2 k3 k5 newId))
    (fin : Q () ⟨h, g, d, t, os⟩) : wpAny M A (checkBuiltinCall newId ⟨.ref C :: rest, kw⟩) Q E ⟨h, g, d, t, os⟩ := by
  have inB : (Value.ref C :: bm).contains (.type Bn) = true := by rw [List.contains_cons, T.has, Bool.or_true]
  have ns := F.noStar
  simp only [checkBuiltinCall, F.newKind, F.newSplit, F.newRow]
  repeat (first | refine wpAny_loadPart_at cls ?_ | (refine wpAny_isSubtype_exc cls ?_; rw [inB]) | refine wpAny_staticBase_exc cls ?_ | refine wpAny_madeBy_exc cls ?_ | simp only [bne_self_eq_false, Bool.false_eq_true, if_false] | wp_step)
  exact fin
theorem newK (F : ExcBaseFacts Bn newId initId bmN) (T : Tail bm Bn) {rest : List Value} {kw : List (Str × Value)} (cls : h.get? C = some (excClassObj nm q C N bs bm hdct sn sub ab col dd k0 k1 k2 k3 k5 newId)) (sz : rest.length ≤ sizeLine)
    (fin : R (.ok (.ret (.ref (h.objs.size + 1)))) ⟨(h.push (W.kdv_tup rest)).push (excO C h.objs.size), g, d, t, os⟩) : codeAny (model prog w) A (.builtin newId ⟨.ref C :: rest, kw⟩) R ⟨h, g, d, t, os⟩ := by
  have inB : (Value.ref C :: bm).contains (.type Bn) = true := by rw [List.contains_cons, T.has, Bool.or_true]
  have noA : (Value.ref C :: bm).contains (.type "AttributeError") = false := by rw [List.contains_cons, T.na]; rfl
  have noN : (Value.ref C :: bm).contains (.type "NameError") = false := by rw [List.contains_cons, T.nn]; rfl
  have ends := F.ends
  refine codeAny_builtinAt F.entry ?_
  unfold Builtin.«BaseException.__new__»
  refine wpAt_bind ?_
  show wpAt _ _ _ (stack >>= _) _ _ _
  refine wpAt_bind (wpAt_stack fun _ _ => wpAt_of_wpAny ?_)
  wp_walk
  refine wpAt_of_wpAny ?_
  rw [F.owner]
  repeat (first | with_reducible refine wpAny_madeHere_exc F.canon cls ?_ | with_reducible refine wpAny_loadPart_at cls ?_ | (with_reducible refine wpAny_isSubtype_exc cls ?_; first | rw [inB] | rw [noA] | rw [noN]) | wp_step)
  show R _ _
  rw [Heap.size_push]
  exact fin
theorem typeCallK (F : ExcBaseFacts Bn newId initId bmN) (T : Tail bm Bn) {rest : List Value} {kw : List (Str × Value)} {fI : Addr} {Q : Fin → Shared → Prop} (cls : h.get? C = some (excClassObj nm q C N bs bm hdct sn sub ab col dd k0 k1 k2 k3 k5 newId))
    (look : W.Looks (model prog w) h (typeLookup (.ref C) "__init__") (some (.ref fI))) (bind_ : ∀ self, W.Looks (model prog w) h (bindSpecial (.ref fI) self) (.ref fI, [self])) (sz : rest.length ≤ sizeLine)
    (fin : codeAny (model prog w) A (.call (.ref fI) ⟨.ref (h.objs.size + 1) :: rest, kw⟩) (fun r s' => match r with | .ok (.ret v) => v = .none ∧ Q (.done (.ret (.ref (h.objs.size + 1)))) s' | .ok _ => False | .error e => E e s')
      ⟨(h.push (W.kdv_tup rest)).push (excO C h.objs.size), g, d, t, os⟩) : wpAny (model prog w) A (Builtin.«type.__call__» ⟨.ref C :: rest, kw⟩) Q E ⟨h, g, d, t, os⟩ := by
  have up : ∀ b o, h.get? b = some o → ((h.push (W.kdv_tup rest)).push (excO C h.objs.size)).get? b = some o := fun b o e => Heap.get?_push_of_some _ (Heap.get?_push_of_some _ e)
  have cls1 := up _ _ cls
  have new1 : ((h.push (W.kdv_tup rest)).push (excO C h.objs.size)).get? (h.objs.size + 1) = some (excO C h.objs.size) := by heap_get
  have self1 : (Value.ref C :: bm).contains (.ref C) = true := by simp
  repeat (first | with_reducible refine wpAny_loadPart_at cls ?_ | with_reducible refine wpAny_madeBy_exc cls ?_ | wp_step)
  refine codeAny_call_builtin_code (Code.quiet_builtin _ F.quiet) (newCheckK F T cls ?_)
  refine newK F T cls sz ?_
  show wpAny _ _ _ _ _ _
  unfold isInstance
  repeat (first | with_reducible refine wpAny_loadPart_at new1 ?_ | (with_reducible refine wpAny_isSubtype_exc cls1 ?_; rw [self1]) | wp_step)
  show wpAny _ _ (typeLookup (.ref C) _) _ _ _
  refine (look.keeps up).at ?_
  refine wpAny_holding (wpAny_bind (((bind_ (.ref (h.objs.size + 1))).keeps up).at ?_))
  refine wpAny_bind (wpAny_call (codeAny_mono fin fun r s' out => ?_))
  rcases r with e | (v | _ | _ | _) <;> first | exact out | exact out.elim | skip
  obtain ⟨rfl, out⟩ := out
  first
    | exact wpAny_pure (wpAny_pure out)
    | (wp_walk; exact out)
theorem tcCheckK {rest : List Value} {kw : List (Str × Value)} {Q : Unit → Shared → Prop} (cls : h.get? C = some (excClassObj nm q C N bs bm hdct sn sub ab col dd k0 k1 k2 k3 k5 newId)) (fin : Q () ⟨h, g, d, t, os⟩) :
    wpAny M A (checkBuiltinCall "type.__call__" ⟨.ref C :: rest, kw⟩) Q E ⟨h, g, d, t, os⟩ := by
  have sb := tc_sub
  have ty : (⟨h, g, d, t, os⟩ : Shared).TypeIs (.ref C) "type" := ⟨_, cls, rfl⟩
  simp only [checkBuiltinCall, tc_kind, tc_split]
  repeat (any_goals (first | assumption | with_reducible refine wpAny_loadPart_at cls ?_ | with_reducible refine wpAny_onRaise ?_ | with_reducible refine wpAny_map ?_ | wp_step))
theorem classCallK (F : ExcBaseFacts Bn newId initId bmN) (T : Tail bm Bn) {rest : List Value} {kw : List (Str × Value)} {fI : Addr} (cls : h.get? C = some (excClassObj nm q C N bs bm hdct sn sub ab col dd k0 k1 k2 k3 k5 newId))
    (look : W.Looks (model prog w) h (typeLookup (.ref C) "__init__") (some (.ref fI))) (bind_ : ∀ self, W.Looks (model prog w) h (bindSpecial (.ref fI) self) (.ref fI, [self])) (sz : rest.length ≤ sizeLine)
    (fin : codeAny (model prog w) (A.under (.builtin "type.__call__" ⟨.ref C :: rest, kw⟩)) (.call (.ref fI) ⟨.ref (h.objs.size + 1) :: rest, kw⟩) (W.InitBack (h.objs.size + 1) R) ⟨(h.push (W.kdv_tup rest)).push (excO C h.objs.size), g, d, t, os⟩) :
    codeAny (model prog w) A (.call (.ref C) ⟨rest, kw⟩) R ⟨h, g, d, t, os⟩ := by
  have lk1 := tc_lookup
  have lk2 := tc_bind (.ref C)
  have ty : (⟨h, g, d, t, os⟩ : Shared).TypeIs (.ref C) "type" := ⟨_, cls, rfl⟩
  refine codeAny_of_tree ?_
  show wpAny _ _ (callAny (.ref C) _) _ _ _
  repeat (any_goals (first | assumption | with_reducible refine wpAny_loadPart_at cls ?_ | wp_step))
  refine ⟨rfl, ?_⟩
  refine codeAny_call_builtin_at (Code.quiet_builtin _ (by decide +kernel)) entry_typeCall ?_
  refine tcCheckK cls (typeCallK F T cls look bind_ sz ?_)
  refine codeAny_mono fin fun r s' out => ?_
  rcases r with e | (v | _ | _ | _) <;> exact out
end
end HandSPX
end PySem
set_option Elab.async false
set_option maxRecDepth 100000
set_option maxHeartbeats 4000000
/-! The first field of a new exception, over any built-in base. -/
namespace PySem
namespace HandSPX
open Builtin Builtin.ObjectAttr
section
variable {prog : Program} {w : World} {A : Around} {E : Value → Shared → Prop} {R : Result → Shared → Prop} {hp : Heap} {g : Array GenState} {d : Drawn} {t : Nat} {os : OsState}
theorem storeK {K : W.Frag} {name : Str} {tk : Tok} {v : Value} {x C : Addr} {fv : Array Value} {cd : ClassData} (X : K.In hp) (hx : hp.get? x = some { cls := .ref C, data := .fields fv }) (hcd : W.clsIn K C = some cd)
    (pass : ∀ self, refuseLoop self "__setattr__" cd.mro = pure ()) (ob : cd.mro.contains (.type "object") = true) (ne : cd.mro.isEmpty = false) (hh : cd.hasDict = true) (ha : W.findIn K (.ref C) name = some none)
    (fin : ∀ h' tk' dx, (∀ b o, b ≠ x → hp.get? b = some o → h'.get? b = some o) → hp.objs.size ≤ dx → dx ≠ x → h'.get? x = some { cls := .ref C, dict := some dx, data := .fields fv } →
      h'.Ns1 dx (fun y => if y = name then some v else none) → R (.ok (.ret .none)) ⟨h', g, d, tk', os⟩) :
    codeAny (model prog w) A (.call (.builtin "object.__setattr__") ⟨[.ref x, .str name tk, v], []⟩) R ⟨hp, g, d, t, os⟩ := by
  have I : W.InstAt hp x { cls := .ref C, data := .fields fv } C none := ⟨hx, rfl, rfl, trivial⟩
  have SO := F.store_object
  have xs : x ≠ hp.objs.size := Nat.ne_of_lt (Heap.lt_size hx)
  have sb : W.Looks (model prog w) hp (isInstance (.ref x) (.type "object")) true := I.type.andThen (W.looks_mroIn X (by unfold W.mroIn; rw [hcd, Option.bind_some, if_neg (by rw [ne]; decide), ob]))
  have mro_ : W.Looks (model prog w) hp (mroOf (.ref C)) cd.mro := (W.looks_clsIn X hcd).andThen .now
  have taker : W.Looks (model prog w) hp (storeTaker? none) none := .now
  have clsD : W.Looks (model prog w) hp (classData C) cd := W.looks_clsIn X hcd
  refine codeAny_call_builtin SO.slot.plain SO.entry (@W.check_slot (model prog w) _ _ ⟨hp, g, d, t, os⟩ "object.__setattr__" "object" "__setattr__" (.ref x) [.str name tk, v] [] _ SO.kind SO.split sb (SO.args (.ref x) (.str name tk) v) ?_)
  rw [W.osa_eq, refuse_eq]
  refine wpAny_bind (wpAny_bind (I.type.at (wpAny_bind (mro_.at ?_))))
  rw [pass]
  refine wpAny_pure (wpAny_bind (I.type.at (wpAny_bind ((W.looks_findIn X ha).at (wpAny_bind (taker.at ?_))))))
  show wpAny _ _ (storeInOwnDict (.ref x) (.ref C) (.str name tk) name v false) _ _ _
  obtain ⟨nm, bs, mro, ns, qn, hd, sn, sb', ab, col, del⟩ := cd
  dsimp only at hh
  subst hh
  unfold storeInOwnDict ownDictForStores
  repeat (first | with_reducible refine store_in_new ?_ ?_ | with_reducible refine wpAny_loadPart_at hx ?_ | with_reducible refine clsD.at ?_ | wp_step)
  · exact ⟨_, #[], _, (Heap.get?_update_ne _ _ _ _ xs.symm).trans (Heap.get?_push_at rfl rfl), rfl, fun e he => absurd he (by simp), fun _ => rfl⟩
  · intro h' tk' hn' sm
    have old : (hp.push { cls := .type "dict", data := .dict #[] }).get? x = some { cls := .ref C, data := .fields fv } := Heap.get?_push_of_some _ hx
    refine fin h' tk' hp.objs.size ?_ (Nat.le_refl _) xs.symm ((sm.2 x xs).trans (Heap.get?_update_self _ old rfl)) hn'
    intro b o hb ho
    exact (sm.2 b (Nat.ne_of_lt (Heap.lt_size ho))).trans ((Heap.get?_update_ne _ _ _ _ hb).trans (Heap.get?_push_of_some _ ho))
end
end HandSPX
end PySem
namespace Tk
open PySem PySem.Spec PyProof.Rows L2
/-- what the written part says of an own exception class over a built-in base -/
structure OxC (K : PySem.W.Frag) (C : Addr) : Prop where
  cls : ∃ nm q N bs bm sn sub ab col dd k0 k1 k2 k3 k5 Bn newId initId bmN, K.lookup C = some (excClassObj nm q C N bs bm true sn sub ab col dd k0 k1 k2 k3 k5 newId) ∧ ExcBaseFacts Bn newId initId bmN ∧ PySem.HandSPX.Tail bm Bn ∧
    (∀ self, refuseLoop self "__setattr__" (.ref C :: bm) = pure ()) ∧ (Value.ref C :: bm).contains (.type "object") = true
  sa : PySem.W.findIn K (.ref C) "__setattr__" = some (some (.builtin "object.__setattr__"))
  kC : PySem.W.keepIn K (.ref C) = true
section
variable {X : Cx} {pins : List (Addr × Obj)} {σ : L2.St} {H : Hp} {s : Shared} {a C : Addr} {f : Str} {y : V} {u : Value} {Q : Unit → Shared → Prop} {E : Value → Shared → Prop} {A : Around}
theorem exo_other {e C : Addr} {d : Option Addr} {H : Hp} (h : H e = some (exo e C d)) {b : Addr} {o : HO} (hb : H b = some o) (n : ∀ φ, o ≠ .ext φ) : b ≠ e := by
  rintro rfl
  rw [h] at hb
  exact n _ (Option.some.inj hb).symm
theorem setFirst (T : OxC X.K C) (I : Inv X pins σ H s) (e : H a = some (exo a C none)) (no : PySem.W.findIn X.K (.ref C) f = some none) (ry : RelV y u)
    (fin : ∀ dx s', H dx = none → dx ≠ a → Inv X pins σ (upd (upd H dx (exd dx [(f, y)])) a (exo a C (some dx))) s' → Q () s') : wpAny (model X.prog X.w) A (setAttr (.ref a) f u) Q E s := by
  obtain ⟨nm, q, N, bs, bm, sn, sub, ab, col, dd, k0, k1, k2, k3, k5, Bn, newId, initId, bmN, hC, _, _, pass, hob⟩ := T.cls
  have cd : PySem.W.clsIn X.K C = some { name := nm, bases := bs, mro := .ref C :: bm, ns := N, qualname := q, hasDict := true, slotNames := sn, subclasses := sub, abstract := ab, collection := col, hasDel := false } := by
    unfold PySem.W.clsIn
    rw [hC] <;> rfl
  obtain ⟨t1, ho⟩ := exo_at I.hok e
  obtain ⟨hp, g, dr, tk, os⟩ := s
  refine PySem.W.set_plain I.kIn (ox := PySem.HandSPX.excO C t1) (od := none) ⟨ho, rfl, rfl, trivial⟩ T.sa ?_
  refine PySem.HandSPX.storeK I.kIn ho cd pass hob rfl rfl no ?_
  intro h' tk' dx keep big ne hx hn
  have fresh : H dx = none := I.hok.fresh big
  have offA : ∀ {b : Addr}, H b = none → b ≠ a := by
    rintro b n rfl
    rw [e] at n
    cases n
  have offD : ∀ {b : Addr} {o : HO}, H b = some o → b ≠ dx := fun q => ne_of_none q fresh
  have same : ∀ {b : Addr} {o : HO}, H b = some o → (∀ φ, o ≠ .ext φ) → upd (upd H dx (exd dx [(f, y)])) a (exo a C (some dx)) b = some o := fun q n => by
    rw [upd_ne (exo_other e q n), upd_ne (offD q)]
    exact q
  have UN : Un X.fs [] H (upd (upd H dx (exd dx [(f, y)])) a (exo a C (some dx))) hp h' :=
    { keep := fun b o q n _ _ => keep b o (offA n) q
      slot := fun b o q n _ _ => ⟨o.slots, keep b o (offA n) q⟩
      free := fun b o q n _ => by
        have hb : b ≠ dx := Nat.ne_of_lt (Nat.lt_of_lt_of_le (Heap.lt_size q) big)
        rw [upd_ne (offA n), upd_ne hb]
        exact n
      there := fun b o q _ => by
        rcases Nat.decEq b a with hb | hb
        · exact ⟨o, keep b o hb q⟩
        · exact ⟨_, hb ▸ hx⟩
      tups := fun b xs q => same q (fun φ z => by cases z)
      frzs := fun b o v q => same q (fun φ z => by cases z)
      tbls := fun b ps q => ⟨#[], by rw [same q (fun φ z => by cases z)]; simp⟩ }
  refine fin dx _ fresh ne (I.un (t' := tk') UN ?_)
  intro b o q
  rcases Nat.decEq b a with hb | hb
  · rw [upd_ne hb] at q
    rcases Nat.decEq b dx with hd | hd
    · rw [upd_ne hd] at q
      refine (I.hok b o q).stay (fun c v hc z => keep c v ?_ z) (fun c hc => same hc (fun φ z => by cases z)) (fun c xs hc => same hc (fun φ z => by cases z))
      rcases hc with rfl | hc
      · exact hb
      · exact exo_other e hc (fun φ z => by cases z)
    · subst hd
      rw [upd_same] at q
      cases q
      exact exd_ok hn (relO_put (fs := []) ry fun _ => True.intro)
  · subst hb
    rw [upd_same] at q
    cases q
    exact exo_ok hx
end
/-- self.f = e, self a new exception without a dict -/
def tFirst (K : PySem.W.Frag) (f : Str) (to te : TE) : TS := fun D σ H => te σ H fun y H1 => to σ H1 fun x H2 => ∃ a C : Addr, x = .ref a ∧ OxC K C ∧ PySem.W.findIn K (.ref C) f = some none ∧ H2 a = some (exo a C none) ∧
  ∀ dx, H2 dx = none → dx ≠ a → D.nx σ (upd (upd H2 dx (exd dx [(f, y)])) a (exo a C (some dx)))
theorem ps_first {X : Cx} {o e : Expr} {to te : TE} {f : Str} {p pos : Pos} (ho : PE X o to) (he : PE X e te) (hs : swapsWith e (some (.Attribute o f p)) pos.line X.env = pure false := by rfl) : PS X (.Assign [.Attribute o f p] e pos) (tFirst X.K f to te) := by
  constructor
  intro pins s σ H D I h
  refine plainObj_wpAny_Assign_Attribute (thn (he.run pins s σ H _ I h) ?_) hs
  rintro v s1 ⟨y, H1, I1, r1, q1⟩
  refine thn (ho.run pins s1 σ H1 _ I1 q1) ?_
  rintro u s2 ⟨x, H2, I2, r2, a, C, rfl, T, no, ea, q⟩
  cases r2
  exact setFirst T I2 ea no r1 fun dx s' n ne J => ⟨σ, _, J, q dx n ne⟩
end Tk
set_option Elab.async false
set_option maxRecDepth 100000
set_option maxHeartbeats 4000000
/-! Own exceptions as values: made, asked for a field, asked for their class. -/
namespace Tk
open PySem PySem.Spec PyProof.Rows L2
/-- __init__(self, f): self.f = f, of an own exception -/
def spInit (K : PySem.W.Frag) (f : Str) : Sp := fun vs H Q _ => ∃ (a C : Addr) (y : V), vs = [.ref a, y] ∧ OxC K C ∧ PySem.W.findIn K (.ref C) f = some none ∧ H a = some (exo a C none) ∧
  ∀ dx, H dx = none → dx ≠ a → Q .non (upd (upd H dx (exd dx [(f, y)])) a (exo a C (some dx)))
section
variable {X : Cx} {pins : List (Addr × Obj)} {σ : L2.St} {H : Hp} {s : Shared} {C fI : Addr} {f nm : Str} {y : V} {u : Value} {k : Nat} {fd : FuncData} {Q : VK}
/-- C(y) or C(f=y): the call itself -/
theorem make_ox (T : OxC X.K C) (iC : PySem.W.findIn X.K (.ref C) "__init__" = some (some (.ref fI))) (tI : PySem.W.typeIn X.K (.ref fI) = some (.type "function")) (F : FnOk X.prog X.w X.K X.mg X.base CX0 k fI fd ["self", nm] (spInit X.K f))
    (hr : Room (k + 1) X.A) (no : PySem.W.findIn X.K (.ref C) f = some none) (I : Inv X pins σ H s) (ry : RelV y u) {rest : List Value} {kw : List (Str × Value)} (short : rest.length ≤ 1)
    (bnd : ∀ (s : Shared) (self : Value), BindsTo s fd ⟨self :: rest, kw⟩ [("self", self), (nm, u)])
    (fin : ∀ a dx, H a = none → H dx = none → dx ≠ a → Q (.ref a) (upd (upd (upd H a (exo a C none)) dx (exd dx [(f, y)])) a (exo a C (some dx)))) :
    wpAny (model X.prog X.w) X.A (call (.ref C) rest kw) (EP X pins σ Q) X.xe s := by
  obtain ⟨nm', q, N, bs, bm, sn, sub, ab, col, dd, k0, k1, k2, k3, k5, Bn, newId, initId, bmN, hC, FB, TT, pass, hob⟩ := T.cls
  obtain ⟨hp, g, dr, tk, os⟩ := s
  have big : hp.objs.size ≤ hp.objs.size + 1 := Nat.le_succ _
  have fresh : H (hp.objs.size + 1) = none := I.hok.fresh big
  have up : ∀ b o, hp.get? b = some o → ((hp.push (PySem.W.kdv_tup rest)).push (PySem.HandSPX.excO C hp.objs.size)).get? b = some o := fun b o e => Heap.get?_push_of_some _ (Heap.get?_push_of_some _ e)
  have at_ : ((hp.push (PySem.W.kdv_tup rest)).push (PySem.HandSPX.excO C hp.objs.size)).get? (hp.objs.size + 1) = some (PySem.HandSPX.excO C hp.objs.size) := by heap_get
  have J : Inv X pins σ (upd H (hp.objs.size + 1) (exo (hp.objs.size + 1) C none)) ⟨(hp.push (PySem.W.kdv_tup rest)).push (PySem.HandSPX.excO C hp.objs.size), g, dr, tk, os⟩ := I.laid (t' := tk) up big (exo_ok at_)
  have rel : Vals [V.ref (hp.objs.size + 1), y] [Value.ref (hp.objs.size + 1), u] := .cons rfl (.cons ry .nil)
  have sz : rest.length ≤ sizeLine := Nat.le_trans short (by rw [sizeLine_eq]; decide)
  have ask : spInit X.K f [V.ref (hp.objs.size + 1), y] (upd H (hp.objs.size + 1) (exo (hp.objs.size + 1) C none)) (fun v H' => v = .non ∧ Q (.ref (hp.objs.size + 1)) H') (fun _ _ _ => False) := by
    refine ⟨_, C, y, rfl, T, no, upd_same, fun dx n ne => ⟨rfl, fin _ dx fresh ?_ ne⟩⟩
    rw [upd_ne ne] at n
    exact n
  refine wpAny_call (PySem.HandSPX.classCallK FB TT (I.kIn _ _ hC) (PySem.W.looks_findIn I.kIn iC) (fun self => PySem.W.bind_fn I.kIn self tI) sz ?_)
  refine codeAny_mono (F.run _ X.stack _ _ ⟨Value.ref (hp.objs.size + 1) :: rest, kw⟩ [Value.ref (hp.objs.size + 1), u] _ _ (fun _ _ _ => False) (hr.make C rest kw) (J.env0.make C rest kw) (bnd _ _) rel ask) ?_
  rintro (er | fl) s' out
  · exact out.elim
  · cases fl with
    | next => exact out.elim
    | brk => exact out.elim
    | cont => exact out.elim
    | ret v =>
      obtain ⟨v', H', J', rv, rfl, qq⟩ := J.after out
      exact ⟨rv, ⟨V.ref (hp.objs.size + 1), H', J', rfl, qq⟩⟩
end
/-- C(e), C(f=e): a new exception with its field -/
def tOx (C : Addr) (f : Str) (t : TA) : TE := fun σ H Q => t σ H fun vs H1 => ∃ y, vs = [y] ∧ ∀ a dx H2, H1 a = none → H1 dx = none → dx ≠ a → H2 a = some (exo a C (some dx)) → H2 dx = some (exd dx [(f, y)]) → Same H1 H2 → Q (.ref a) H2
/-- C() without an __init__ -/
def tOx0 (C : Addr) : TE := fun _ H Q => ∀ a, H a = none → Q (.ref a) (upd H a (exo a C none))
theorem tOx_end {H : Hp} {C : Addr} {f : Str} {y : V} {Q : VK} (q : ∀ a dx H2, H a = none → H dx = none → dx ≠ a → H2 a = some (exo a C (some dx)) → H2 dx = some (exd dx [(f, y)]) → Same H H2 → Q (.ref a) H2)
    (a dx : Addr) (na : H a = none) (nd : H dx = none) (ne : dx ≠ a) : Q (.ref a) (upd (upd (upd H a (exo a C none)) dx (exd dx [(f, y)])) a (exo a C (some dx))) := by
  refine q a dx _ na nd ne upd_same ?_ ?_
  · rw [upd_ne ne, upd_same]
  · intro b o h
    rw [upd_ne (ne_of_none h na), upd_ne (ne_of_none h nd), upd_ne (ne_of_none h na)]
    exact h
section
variable {X : Cx} {C fI : Addr} {f nm x : Str} {k : Nat} {fd : FuncData} {e : Expr} {t : TA} {p pos kp : Pos}
theorem pe_ox (T : OxC X.K C) (iC : PySem.W.findIn X.K (.ref C) "__init__" = some (some (.ref fI))) (tI : PySem.W.typeIn X.K (.ref fI) = some (.type "function")) (F : FnOk X.prog X.w X.K X.mg X.base CX0 k fI fd ["self", nm] (spInit X.K f))
    (hr : Room (k + 1) X.A) (no : PySem.W.findIn X.K (.ref C) f = some none) (bnd : ∀ (s : Shared) (self u : Value), BindsTo s fd ⟨[self, u], []⟩ [("self", self), (nm, u)]) (hg : Gl X x) (hm : X.mg x = some (.ref C)) (ha : PA X [e] t)
    (hdb : (x == ("__debug__" : Str)) = false := by decide) (he : starEach [e] X.env = (false, eval e X.env) :: starEach [] X.env := by rfl) (hpl : (backTo pos (starEach [] X.env)).any (·.1) = false := by rfl) :
    PE X (.Call (.Name x p) [e] [] pos) (tOx C f t) := by
  constructor
  intro pins s σ H Q I h
  refine wpAny_Call_Name_kw (ld_glob I hg hm ?_ hdb)
  refine PySem.W.callWith_K (h₀ := X.base) I.ok.mod.kin T.kC ?_ he hpl
  refine thn (ha.run pos pins s σ H _ I h) ?_
  rintro us s1 ⟨vs, H1, I1, r, y, rfl, q⟩
  obtain ⟨u, rfl, ru⟩ := vals1 r
  exact ⟨I1.kIn, make_ox T iC tI F hr no I1 ru (rest := [u]) (kw := []) (Nat.le_refl 1) (fun s self => bnd s self u) (tOx_end q)⟩
theorem pe_oxK (T : OxC X.K C) (iC : PySem.W.findIn X.K (.ref C) "__init__" = some (some (.ref fI))) (tI : PySem.W.typeIn X.K (.ref fI) = some (.type "function")) (F : FnOk X.prog X.w X.K X.mg X.base CX0 k fI fd ["self", nm] (spInit X.K f))
    (hr : Room (k + 1) X.A) (no : PySem.W.findIn X.K (.ref C) f = some none) (bnd : ∀ (s : Shared) (self u : Value), BindsTo s fd ⟨[self], [(nm, u)]⟩ [("self", self), (nm, u)]) (hg : Gl X x) (hm : X.mg x = some (.ref C)) (hk : PK X [⟨some nm, e, kp⟩] t)
    (hall : (backToKw pos (keywordEach [⟨some nm, e, kp⟩] X.env)).all (·.1.isSome) = true := by rfl) (hks : (backToKw pos (keywordEach [⟨some nm, e, kp⟩] X.env)).filterMap (·.1) = [nm] := by rfl) (hdb : (x == ("__debug__" : Str)) = false := by decide)
    (hpl : ((backTo pos (starEach [] X.env)).any (·.1) || (backToKw pos (keywordEach [⟨some nm, e, kp⟩] X.env)).any (·.1.isNone)) = false := by rfl) :
    PE X (.Call (.Name x p) [] [⟨some nm, e, kp⟩] pos) (tOx C f t) := by
  constructor
  intro pins s σ H Q I h
  refine wpAny_Call_Name_kw (ld_glob I hg hm ?_ hdb)
  refine PySem.W.callWith_KW0 (h₀ := X.base) I.ok.mod.kin T.kC hall ?_ hpl
  refine thn (hk.run pos pins s σ H _ I h) ?_
  rintro us s1 ⟨vs, H1, I1, r, y, rfl, q⟩
  obtain ⟨u, rfl, ru⟩ := vals1 r
  refine ⟨I1.kIn, ?_⟩
  rw [hks]
  exact make_ox T iC tI F hr no I1 ru (rest := []) (kw := [(nm, u)]) (Nat.zero_le 1) (fun s self => bnd s self u) (tOx_end q)
theorem pe_ox0 {bmB : List Value} {B newId initId : String} (FB : ExcBaseFacts B newId initId bmB) (q : PySem.W.excIn X.K C bmB newId = true) (hg : Gl X x) (hm : X.mg x = some (.ref C)) (kC : PySem.W.keepIn X.K (.ref C) = true) (hdb : (x == ("__debug__" : Str)) = false := by decide) :
    PE X (.Call (.Name x p) [] [] pos) (tOx0 C) := by
  constructor
  intro pins s σ H Q I h
  refine wpAny_Call_Name_kw (ld_glob I hg hm ?_ hdb)
  refine PySem.W.callWith_K0 I.kIn kC ?_
  obtain ⟨bm, N, nm, qn, bs, hdct, sn, sub, ab, col, dd, k0, k1, k2, k3, k5, mN, hC, hN, hni, T⟩ := exc_obj I.kIn q
  refine wpAny_call_exc_subT FB T hC hN hni (fun h' a made => ?_) (Nat.zero_le _)
  have fresh : H a = none := I.hok.gone made.new
  obtain ⟨t, at_, _, _⟩ := made.there
  exact ⟨.ref a, _, I.laidN made.keeps made.new fresh (exo_ok at_), rfl, h a fresh⟩
end
/-- e.f, e a made exception -/
def tGetX (K : PySem.W.Frag) (f : Str) (te : TE) : TE := fun σ H Q => te σ H fun x H1 => ∃ (a C dx : Addr) (y : V), x = .ref a ∧ H1 a = some (exo a C (some dx)) ∧ H1 dx = some (exd dx [(f, y)]) ∧ XfC K C ∧ PySem.W.findIn K (.ref C) f = some none ∧ Q y H1
theorem pe_getX {X : Cx} {e : Expr} {te : TE} {pos : Pos} {f : Str} (he : PE X e te) (hb : attributeBase e f X.env (eval e X.env) = eval e X.env := by rfl) : PE X (.Attribute e f pos) (tGetX X.K f te) := by
  constructor
  intro pins s σ H Q I h
  refine attr_of hb (thn (he.run pins s σ H _ I h) ?_)
  rintro u s1 ⟨x, H1, I1, rx, a, C, dx, y, rfl, ea, ed, T, no, q⟩
  cases rx
  obtain ⟨t1, obj⟩ := exo_at I1.hok ea
  obtain ⟨mA, hns, rel⟩ := exd_at I1.hok ed
  obtain ⟨od, hod, hl⟩ := lookIn_ns hns
  have lk : List.lookup f [(f, y)] = some y := by rw [lookup_put, if_pos rfl]
  obtain ⟨v, hv, rv⟩ := RelO.some_of (v := y) (o := mA f) (by rw [← lk]; exact rel f)
  have inst : PySem.W.InstAt s1.heap a { cls := .ref C, dict := some dx, data := .fields #[.ref t1, .none, .none, .none, .bool false, .none] } C (some od) := ⟨obj, rfl, rfl, hod⟩
  exact HandSPX.exc_get I1.kIn inst T.ga T.gg T.exC (PySem.W.findObj_own T.hdC no rfl (by rw [hl, hv])) (handed_of rv) ⟨y, H1, I1.tok _, rv, q⟩
/-! ### isinstance of a made exception -/
section
variable {K : PySem.W.Frag} {D x : Addr} {ox : Obj} {od : Option Obj}
open PySem.Calls PySem.W in
theorem kitxV (c : ExcC K D) (hob : clsIn K D ≠ none) : KitX K (.ref x) (.ref D) (fun h => InstAt h x ox D od) := by
  have found : findObj K D od "__class__" = some (.bind (.builtin "getset_descriptor.__get__") (.builtin "object.__class__")) := by
    obtain ⟨cd, hc, _⟩ := any_some c.hd
    unfold findObj
    rw [hc, Option.bind_some, c.ha, Option.bind_some]
    simp [c.hn, c.ht]
  refine ⟨fun _ _ _ I => I.type, ?_, ?_, ?_⟩
  · intro M h X _ A Q E s k q
    unfold isType loadHead
    cases e : clsIn K D with
    | none => exact absurd e hob
    | some cd =>
      unfold clsIn at e
      split at e
      · rename_i ho
        exact wpAny_bind (wpAny_loadPart (k _ _ (X _ _ ho)) (wpAny_pure q))
      · cases e
  · intro h tp dd its n sl X htp
    cases e : clsIn K D with
    | none => exact absurd e hob
    | some cd =>
      unfold clsIn at e
      split at e
      · rename_i ho
        refine Bool.eq_false_iff.mpr fun q => ?_
        obtain rfl : D = tp := Value.ref.inj (beq_iff_eq.mp q)
        rw [X _ _ ho] at htp
        cases htp
      · cases e
  · intro prog w A E Q s X I fin
    obtain ⟨hp, g, d, t, os⟩ := s
    have ty := I.type (M := model prog w)
    have lk1 := looks_findIn (M := model prog w) X c.hg
    have lk2 := looks_findIn (M := model prog w) X c.hk
    have lk3 := looks_find (M := model prog w) X I found
    have sb : Looks (model prog w) hp (isInstance (.ref x) (.type "BaseException")) true := ty.andThen (looks_subIn X c.hs)
    have n0 : (Value.builtin "BaseException.__getattribute__" == Value.builtin "object.__getattribute__") = false := by decide +kernel
    have n1 : (onTheHeap (Value.ref D) && Value.builtin "BaseException.__getattribute__" == Value.builtin "object.__getattribute__") = false := by rw [n0]; rfl
    have n2 : (false && onTheHeap (Value.builtin "BaseException.__getattribute__")) = false := rfl
    unfold getAttr? getAttrBy? getAttrBy
    refine wpAny_bind (wpAny_mkText (wpAny_bind (wpAny_attempt (wpAny_holding (wpAny_bind (ty.at (wpAny_bind (lk1.at ?_))))))))
    show wpAny _ _ (if (onTheHeap (Value.ref D) && Value.builtin "BaseException.__getattribute__" == Value.builtin "object.__getattribute__") = true then _ else _) _ _ _
    rw [n1, if_neg Bool.false_ne_true]
    unfold getAttrByItsOwn hookBefore
    refine wpAny_bind ?_
    rw [if_pos (show onTheHeap (Value.ref D) = true from rfl)]
    refine lk2.at (wpAny_bind (wpAny_attempt (wpAny_holding ?_)))
    unfold callGetattribute
    rw [n2, if_neg Bool.false_ne_true]
    unfold boundAndCalled
    rw [PySem.F.excAttr_ValueError.ga.bind (.ref x)]
    refine wpAny_bind (wpAny_pure ?_)
    show wpAny _ _ (call (.builtin "BaseException.__getattribute__") [.ref x, .str "__class__" t]) _ _ _
    refine wpAny_call (codeAny_call_builtin PySem.F.excAttr_ValueError.ga.plain PySem.F.entry_bexc_ga ?_)
    refine @check_slot (model prog w) _ _ ⟨hp, g, d, t + 1, os⟩ "BaseException.__getattribute__" "BaseException" "__getattribute__" (.ref x) [.str "__class__" t] [] _ (by decide +kernel) (by decide +kernel) sb (PySem.F.args_bexc_ga (.ref x) (.str "__class__" t)) ?_
    unfold Builtin.«object.__getattribute__»
    refine wpAny_bind (wpAny_of_eq (a := ((Value.ref x : Value), [Value.str "__class__" t])) (by first | rfl | (simp only [slotArgs]; rfl)) ?_)
    refine wpAny_bind (wpAny_pure (wpAny_bind (ty.at (wpAny_bind (lk3.at ?_)))))
    show wpAny _ _ (holding [Value.builtin "object.__class__"] (call (.builtin "getset_descriptor.__get__") [.builtin "object.__class__", .ref x, .ref D]) >>= ret) _ _ _
    refine wpAny_bind (wpAny_holding (wpAny_call (class_get (s := ⟨hp, g, d, t + 1, os⟩) (ox := ox) (od := od) X I c.hm (wpAny_pure ?_))))
    show wpAny _ _ (handedOut (.ref D)) _ _ _
    rw [handedOut_of (v := .ref D) rfl]
    first
      | exact wpAny_pure (wpAny_pure fin)
      | exact wpAny_pure fin
      | exact wpAny_pure (wpAny_bind (wpAny_pure (wpAny_pure fin)))
end
/-- isinstance(e, c), e a made exception, c one class -/
def rIsX (K : PySem.W.Frag) : List V → Hp → VK → Prop := fun xs H Q => ∃ (a C : Addr) (c : V) (u : Value) (b : Bool), xs = [.ref a, c] ∧ ClsV c u ∧ ExcC K C ∧ (H a = some (exo a C none) ∨ ∃ dx fs, H a = some (exo a C (some dx)) ∧ H dx = some (exd dx fs)) ∧
  PySem.W.kitOne K (.ref C) u = some b ∧ Q (.bl b) H
theorem call_isX {X : Cx} : CallR X (.builtin "isinstance") (rIsX X.K) := by
  intro pins s σ H xs us Q I r h
  obtain ⟨a, C, c, u, b, rfl, cv, ec, obj, kit, q⟩ := h
  obtain ⟨u1, u2, rfl, r1, r2⟩ := vals2 r
  cases r1
  obtain rfl := cv.eq r2
  have hob : PySem.W.clsIn X.K C ≠ none := by
    obtain ⟨cd, hc, _⟩ := PySem.W.any_some ec.hd
    rw [hc]
    simp
  rcases obj with e | ⟨dx, fs, e, ed⟩
  · obtain ⟨t1, at_⟩ := exo_at I.hok e
    exact PySem.W.kia_one (kitxV (od := none) ec hob) I.kIn ⟨at_, rfl, rfl, trivial⟩ kit (fun z => nomatch z) fun tk => ⟨.bl b, H, I.tok tk, rfl, q⟩
  · obtain ⟨t1, at_⟩ := exo_at I.hok e
    obtain ⟨mA, hns, rel⟩ := exd_at I.hok ed
    obtain ⟨od, hod, _⟩ := lookIn_ns hns
    exact PySem.W.kia_one (kitxV (od := some od) ec hob) I.kIn ⟨at_, rfl, rfl, hod⟩ kit (fun z => nomatch z) fun tk => ⟨.bl b, H, I.tok tk, rfl, q⟩
end Tk
set_option Elab.async false
set_option maxRecDepth 100000
set_option maxHeartbeats 4000000
/-! Data of any depth that stands apart from one address; how long it is shown. -/
namespace Tk
open PySem PySem.Spec PyProof.Rows L2
mutual
inductive Da (S : Addr → Prop) (H : Hp) : V → PyData → Prop
  | non : Da S H .non .none
  | bl (b : Bool) : Da S H (.bl b) (.bool b)
  | int (i : Int) : Da S H (.int i) (.int i)
  | str (x : Str) : Da S H (.str x) (.str x)
  | lst {p : Addr} {xs : List V} {ds : List PyData} : S p → H p = some (.lst xs) → DaAll S H xs ds → Da S H (.ref p) (.list ds)
  | tup {p : Addr} {xs : List V} {ds : List PyData} : S p → H p = some (.tup xs) → DaAll S H xs ds → Da S H (.ref p) (.tuple ds)
inductive DaAll (S : Addr → Prop) (H : Hp) : List V → List PyData → Prop
  | nil : DaAll S H [] []
  | cons {v : V} {vs : List V} {d : PyData} {ds : List PyData} : Da S H v d → DaAll S H vs ds → DaAll S H (v :: vs) (d :: ds)
end
section
variable {S S' : Addr → Prop} {H H' : Hp} {K : PySem.W.Frag}
mutual
theorem Da.dp : ∀ (d : PyData) (v : V), Da S H v d → Dp K H v d
  | .none, _, h => by cases h; exact .non
  | .bool b, _, h => by cases h; exact .bl b
  | .int i, _, h => by cases h; exact .int i
  | .str x, _, h => by cases h; exact .str x
  | .list ds, _, h => by
    cases h with
    | lst _ e r => exact .lst (SqL.of e) (DaAll.dp ds _ r)
  | .tuple ds, _, h => by
    cases h with
    | tup _ e r => exact .tup (SqT.of e) (DaAll.dp ds _ r)
  | .dict _, _, h => by cases h
theorem DaAll.dp : ∀ (ds : List PyData) (vs : List V), DaAll S H vs ds → DpAll K H vs ds
  | [], _, h => by cases h; exact .nil
  | d :: ds, _, h => by
    cases h with
    | cons x r => exact .cons (Da.dp d _ x) (DaAll.dp ds _ r)
end
mutual
theorem Da.to (k : ∀ b o, S b → H b = some o → H' b = some o) : ∀ (d : PyData) (v : V), Da S H v d → Da S H' v d
  | .none, _, h => by cases h; exact .non
  | .bool b, _, h => by cases h; exact .bl b
  | .int i, _, h => by cases h; exact .int i
  | .str x, _, h => by cases h; exact .str x
  | .list ds, _, h => by
    cases h with
    | lst n e r => exact .lst n (k _ _ n e) (DaAll.to k ds _ r)
  | .tuple ds, _, h => by
    cases h with
    | tup n e r => exact .tup n (k _ _ n e) (DaAll.to k ds _ r)
  | .dict _, _, h => by cases h
theorem DaAll.to (k : ∀ b o, S b → H b = some o → H' b = some o) : ∀ (ds : List PyData) (vs : List V), DaAll S H vs ds → DaAll S H' vs ds
  | [], _, h => by cases h; exact .nil
  | d :: ds, _, h => by
    cases h with
    | cons x r => exact .cons (Da.to k d _ x) (DaAll.to k ds _ r)
end
mutual
theorem Da.weak (k : ∀ b, S b → S' b) : ∀ (d : PyData) (v : V), Da S H v d → Da S' H v d
  | .none, _, h => by cases h; exact .non
  | .bool b, _, h => by cases h; exact .bl b
  | .int i, _, h => by cases h; exact .int i
  | .str x, _, h => by cases h; exact .str x
  | .list ds, _, h => by
    cases h with
    | lst n e r => exact .lst (k _ n) e (DaAll.weak k ds _ r)
  | .tuple ds, _, h => by
    cases h with
    | tup n e r => exact .tup (k _ n) e (DaAll.weak k ds _ r)
  | .dict _, _, h => by cases h
theorem DaAll.weak (k : ∀ b, S b → S' b) : ∀ (ds : List PyData) (vs : List V), DaAll S H vs ds → DaAll S' H vs ds
  | [], _, h => by cases h; exact .nil
  | d :: ds, _, h => by
    cases h with
    | cons x r => exact .cons (Da.weak k d _ x) (DaAll.weak k ds _ r)
end
theorem DaAll.snoc : ∀ {vs : List V} {ds : List PyData} {v : V} {d : PyData}, DaAll S H vs ds → Da S H v d → DaAll S H (vs ++ [v]) (ds ++ [d])
  | _, _, _, _, .nil, x => .cons x .nil
  | _, _, _, _, .cons y r, x => .cons y (r.snoc x)
theorem DaAll.length : ∀ {vs : List V} {ds : List PyData}, DaAll S H vs ds → vs.length = ds.length
  | _, _, .nil => rfl
  | _, _, .cons _ r => congrArg Nat.succ r.length
theorem DaAll.get : ∀ {vs : List V} {ds : List PyData} {i : Nat} {v : V}, DaAll S H vs ds → vs[i]? = some v → ∃ d, ds[i]? = some d ∧ Da S H v d
  | _, _, _, _, .nil, e => by simp at e
  | _, _, 0, _, .cons x _, e => by simp at e; subst e; exact ⟨_, rfl, x⟩
  | _, _, i + 1, _, .cons _ r, e => by
    obtain ⟨d, h1, h2⟩ := r.get (i := i) (by simpa using e)
    exact ⟨d, by simpa using h1, h2⟩
end
/-- data that is shown in at most m signs, at most k deep -/
structure Fine (m k : Nat) (d : PyData) : Prop where
  shows : d.showable = true
  plain : d.hasDict = false
  dep : d.depth ≤ k
  len : d.shown.length ≤ m
theorem Fine.mono {m k m' k' : Nat} {d : PyData} (f : Fine m k d) (h1 : m ≤ m') (h2 : k ≤ k') : Fine m' k' d := ⟨f.shows, f.plain, Nat.le_trans f.dep h2, Nat.le_trans f.len h1⟩
theorem Fine.none : Fine 4 0 .none := ⟨rfl, rfl, Nat.le_refl _, by decide +kernel⟩
theorem Fine.bool (b : Bool) : Fine 5 0 (.bool b) := ⟨rfl, rfl, Nat.le_refl _, by cases b <;> decide +kernel⟩
theorem fine_all {m k : Nat} : ∀ {ds : List PyData}, (∀ d ∈ ds, Fine m k d) → PyData.showableAll ds = true ∧ PyData.hasDictAll ds = false ∧ PyData.depthAll ds ≤ k ∧ piled (PyData.shownAll ds) ≤ (m + 2) * ds.length
  | [], _ => ⟨rfl, rfl, Nat.zero_le _, Nat.zero_le _⟩
  | d :: ds, h => by
    obtain ⟨a1, a2, a3, a4⟩ := fine_all (ds := ds) fun e he => h e (List.mem_cons_of_mem _ he)
    have f := h d List.mem_cons_self
    refine ⟨?_, ?_, ?_, ?_⟩
    · simp only [PyData.showableAll, f.shows, a1, Bool.and_self]
    · simp only [PyData.hasDictAll, f.plain, a2, Bool.or_self]
    · simp only [PyData.depthAll]
      exact Nat.max_le.mpr ⟨f.dep, a3⟩
    · have l := f.len
      simp only [PyData.shownAll, piled_cons, List.length_cons, Nat.mul_add, Nat.mul_one]
      omega
theorem listText_le (ts : List Str) : (listText ts).length ≤ piled ts + 2 := by
  cases ts with
  | nil => decide +kernel
  | cons t r =>
    have h := textFrom_length_pos r 1 (("[" : Str) ++ (if (0 : Nat) > 0 then ", " else "" : String) ++ t) (Nat.succ_pos 0)
    have e : (listText (t :: r)).length = (textFrom 1 (("[" : Str) ++ (if (0 : Nat) > 0 then ", " else "" : String) ++ t) r).length + 1 := by
      show (textFrom 0 "[" (t :: r) ++ "]").length = _
      rw [strLen_append]; rfl
    have e2 : ((("[" : Str) ++ (if (0 : Nat) > 0 then ", " else "" : String) ++ t)).length = 1 + t.length := by
      rw [strLen_append, strLen_append]; rfl
    rw [e, h, e2, piled_cons]
    omega
theorem tupleText_le (ts : List Str) : (tupleText ts).length ≤ piled ts + 2 := by
  have close : (((if ts.length == 1 then ",)" else ")" : String) : Str)).length ≤ 2 := by split <;> decide +kernel
  have opn : ((("(" : String) : Str)).length = 1 := rfl
  by_cases h : ts = []
  · subst h
    decide +kernel
  · have j := join_length_add ts h
    unfold tupleText
    rw [strLen_append, strLen_append, opn]
    omega
theorem Fine.list {m k : Nat} {ds : List PyData} (h : ∀ d ∈ ds, Fine m k d) : Fine ((m + 2) * ds.length + 2) (k + 1) (.list ds) := by
  obtain ⟨a1, a2, a3, a4⟩ := fine_all h
  refine ⟨by simpa [PyData.showable] using a1, by simpa [PyData.hasDict] using a2, ?_, ?_⟩
  · simp only [PyData.depth]; omega
  · simp only [PyData.shown]
    exact Nat.le_trans (listText_le _) (by omega)
theorem Fine.tuple {m k : Nat} {ds : List PyData} (h : ∀ d ∈ ds, Fine m k d) : Fine ((m + 2) * ds.length + 2) (k + 1) (.tuple ds) := by
  obtain ⟨a1, a2, a3, a4⟩ := fine_all h
  refine ⟨by simpa [PyData.showable] using a1, by simpa [PyData.hasDict] using a2, ?_, ?_⟩
  · simp only [PyData.depth]; omega
  · simp only [PyData.shown]
    exact Nat.le_trans (tupleText_le _) (by omega)
end Tk
set_option Elab.async false
set_option maxRecDepth 100000
set_option maxHeartbeats 4000000
namespace K01
open PySem PySem.Spec PyProof.Rows L2 Tk
def top (i : Nat) : Stmt := PySem.Challenge.pw_talkmeans_k01_errors_and_what_they_keep.main.body.getD i (.Pass ⟨0, 0, 0, 0⟩)
abbrev sBox : Stmt := top 12
abbrev sTake : Stmt := top 13
abbrev sPick : Stmt := top 14
abbrev sAny : Stmt := top 15
/-- a box of numbers to draw from -/
def Box (H : Hp) (a : Addr) : Prop := ∃ w s c : Int, H a = some (.lst [.int w, .int s, .int c]) ∧ 0 ≤ w ∧ 0 ≤ s ∧ 0 ≤ c
/-- all that was tracked stands, but for a -/
def But (a : Addr) (H H' : Hp) : Prop := ∀ b o, b ≠ a → H b = some o → H' b = some o
theorem But.refl (a : Addr) (H : Hp) : But a H H := fun _ _ _ h => h
theorem But.trans {a : Addr} {H H1 H2 : Hp} (x : But a H H1) (y : But a H1 H2) : But a H H2 := fun b o n h => y b o n (x b o n h)
theorem But.of {a : Addr} {H H1 : Hp} (x : Same H H1) : But a H H1 := fun b o _ h => x b o h
theorem But.upd (a : Addr) (H : Hp) (o : HO) : But a H (upd H a o) := fun b u n h => by rw [upd_ne n]; exact h
theorem But.free {a b : Addr} {H H' : Hp} (x : But a H H') (n : b ≠ a) (h : H' b = none) : H b = none := by
  cases q : H b with
  | none => rfl
  | some o => rw [x b o n q] at h; cases h
/-- _law_take(box, many) -/
def spTake : Sp := fun vs H Q _ => ∃ (a : Addr) (many : Int), vs = [.ref a, .int many] ∧ Box H a ∧ 0 < many ∧ many < 1073741824 ∧
  ∀ (d : Int) (H' : Hp), 0 ≤ d → d < many → Box H' a → But a H H' → (∀ b, b ≠ a → H' b = H b) → Q (.int d) H'
section
variable {P : Program} {w : World} {K : PySem.W.Frag} {mg : Str → Option Value} {base : Heap}
theorem scTake : FnScope ["_law_box_here", "_law_many", "_law_digit", "_law_near"] ["_law_box_here", "_law_many"] (defScope sTake) := ⟨rfl, rfl, rfl, by decide +kernel, rfl, by decide +kernel, by decide +kernel⟩
theorem ok_take {f : Addr} {fd : FuncData} (F : Fun K "_law_take" "_law_take" sTake f fd) (mi : mg "int" = none) : FnOk P w K mg base CX0 1 f fd ["_law_box_here", "_law_many"] spTake := by
  refine F.ok scTake (fun vs H Q E h => ?_) (fun cdv A outer s H vs Q E hr h => ?_)
  · obtain ⟨a, many, rfl, _⟩ := h
    rfl
  obtain ⟨a, many, rfl, ⟨wd, sd, ct, hb, h0, h1, h2⟩, m0, m1, q⟩ := h
  refine ⟨_, pss_cons (ps_if (pt_cmpR op_gt (pe_ix ix_list (pv 0) pe_int (fun _ _ => rfl)) pe_int (nomark _))
      (pss_cons (ps_set (i := 2) scTake.nd rfl (.inl rfl) (pe_op op_mod (pe_callTy call_int1 (by rfl) mi (by decide +kernel) (pa_cons (pe_ix ix_list (pv 0) pe_int (fun _ _ => rfl)) pa_nil)) (pv 1)))
        (pss_cons (ps_asg (pe_op op_fdiv (pe_ix ix_list (pv 0) pe_int (fun _ _ => rfl)) (pv 1)) (pg_sub (pv 0) pe_int set_list))
          (pss_one (ps_ret (pv 2))))) pss_nil)
    (pss_cons (ps_asg (pe_op op_add (pe_ix ix_list (pv 0) pe_int (fun _ _ => rfl)) pe_int) (pg_sub (pv 0) pe_int set_list))
    (pss_cons (ps_set (i := 3) scTake.nd rfl (.inl rfl) (pe_op op_mod (pe_callTy call_int1 (by rfl) mi (by decide +kernel) (pa_cons (pe_op op_mul (pe_op op_add (pe_ix ix_list (pv 0) pe_int (fun _ _ => rfl)) (pe_op op_mul pe_int (pe_ix ix_list (pv 0) pe_int (fun _ _ => rfl)))) pe_int) pa_nil)) pe_int))
    (pss_cons (ps_asg (pe_op op_add (pe_op op_mod (pe_callTy call_int1 (by rfl) mi (by decide +kernel) (pa_cons (pe_op op_add (pe_op op_mul (pv 3) pe_int) pe_int) pa_nil)) pe_int) pe_int) (pg_sub (pv 0) pe_int set_list))
    (pss_one (ps_ret (pe_op op_mod (pe_callTy call_int1 (by rfl) mi (by decide +kernel) (pa_cons (pe_op op_fdiv (pe_op op_add (pe_op op_mul (pv 3) pe_int) (pe_ix ix_list (pv 0) pe_int (fun _ _ => rfl))) pe_int) pa_nil)) (pv 1))))))), ?_⟩
  refine ⟨_, rfl, a, _, _, _, rfl, rfl, SqL.of hb, atI_nat (j := 0) rfl, _, _, rfl, rfl, _, rfl, ?_⟩
  refine ite2 (fun c => ?_) (fun c => ?_)
  · have c' : 0 < wd := of_decide_eq_true c
    refine ⟨_, rfl, a, _, _, _, rfl, rfl, SqL.of hb, atI_nat (j := 0) rfl, .inl ⟨_, rfl, _, rfl, _, _, rfl, rfl, m0, ?_⟩⟩
    refine ⟨_, rfl, a, _, _, _, rfl, rfl, SqL.of hb, atI_nat (j := 0) rfl, _, rfl, _, _, rfl, rfl, ⟨m0, m1⟩, _, rfl, a, _, _, 0, rfl, rfl, hb, rfl, ?_⟩
    refine ⟨_, rfl, q _ _ (Int.emod_nonneg _ (by omega)) (Int.emod_lt_of_pos _ m0) ⟨_, _, _, upd_same, Int.ediv_nonneg h0 (by omega), h1, h2⟩ (But.upd _ _ _) (fun b n => upd_ne n)⟩
  · refine ⟨_, rfl, a, _, _, _, rfl, rfl, SqL.of hb, atI_nat (j := 2) rfl, _, _, rfl, rfl, _, rfl, a, _, _, 2, rfl, rfl, hb, rfl, ?_⟩
    refine ⟨_, rfl, a, _, _, _, rfl, rfl, SqL.of upd_same, atI_nat (j := 1) rfl, _, rfl, a, _, _, _, rfl, rfl, SqL.of upd_same, atI_nat (j := 2) rfl, _, _, rfl, rfl, .inl ⟨by decide, by decide⟩, _, _, rfl, rfl, _, _, rfl, rfl, .inr ⟨by decide, by decide⟩, .inl ⟨_, rfl, _, _, rfl, rfl, (by show (0 : Int) < 2147483647; decide), ?_⟩⟩
    refine ⟨_, rfl, _, _, rfl, rfl, .inr ⟨by decide, by decide⟩, _, _, rfl, rfl, .inl ⟨_, rfl, _, _, rfl, rfl, (by show (0 : Int) < 2147483629; decide), _, _, rfl, rfl, _, rfl, a, _, _, 1, rfl, rfl, upd_same, rfl, ?_⟩⟩
    refine ⟨_, rfl, _, _, rfl, rfl, .inr ⟨by decide, by decide⟩, _, rfl, a, _, _, _, rfl, rfl, SqL.of upd_same, atI_nat (j := 1) rfl, _, _, rfl, rfl, _, _, rfl, rfl, ⟨by decide, by decide⟩, .inl ⟨_, rfl, _, rfl, _, _, rfl, rfl, m0, ?_⟩⟩
    refine q _ _ (Int.emod_nonneg _ (by omega)) (Int.emod_lt_of_pos _ m0) ⟨wd, _, ct + 1, upd_same, h0, ?_, by omega⟩ ?_ ?_
    · exact Int.le_trans (Int.emod_nonneg _ (by decide)) (Int.le_of_lt (Int.lt_succ _))
    · exact ((But.upd _ _ _).trans (But.upd _ _ _))
    · intro b n
      rw [upd_ne n, upd_ne n]

/-- _law_pick(box, some) -/
def spPick : Sp := fun vs H Q _ => ∃ (a p : Addr) (xs : List V), vs = [.ref a, .ref p] ∧ Box H a ∧ p ≠ a ∧ H p = some (.lst xs) ∧ 0 < xs.length ∧ xs.length < 1073741824 ∧
  ∀ (j : Nat) (x : V) (H' : Hp), xs[j]? = some x → Box H' a → But a H H' → (∀ b, b ≠ a → H' b = H b) → Q x H'
theorem scPick : FnScope ["_law_box_here", "_law_some"] ["_law_box_here", "_law_some"] (defScope sPick) := ⟨rfl, rfl, rfl, by decide +kernel, rfl, by decide +kernel, by decide +kernel⟩
theorem ok_pick {f g : Addr} {fd gd : FuncData} (F : Fun K "_law_pick" "_law_pick" sPick f fd) (G : FnOk P w K mg base CX0 1 g gd ["_law_box_here", "_law_many"] spTake) (bG : Binds K gd ["_law_box_here", "_law_many"] []) (kG : PySem.W.keepIn K (.ref g) = true) (mG : mg "_law_take" = some (.ref g)) (ml : mg "len" = none) :
    FnOk P w K mg base CX0 2 f fd ["_law_box_here", "_law_some"] spPick := by
  refine F.ok scPick (fun vs H Q E h => ?_) (fun cdv A outer s H vs Q E hr h => ?_)
  · obtain ⟨a, p, xs, rfl, _⟩ := h
    rfl
  obtain ⟨a, p, xs, rfl, hb, ne, hp, l0, l1, q⟩ := h
  refine ⟨_, pss_one (ps_ret (pe_ix ix_list (pv 1) (pe_call G hr rfl mG kG bG .nil pass0 (pa_cons (pv 0) (pa_cons (pe_callB call_len_seq rfl ml PySem.boot_len (pa_cons (pv 1) pa_nil)) pa_nil))) (fun _ _ => rfl))), ?_⟩
  refine ⟨_, rfl, _, rfl, _, rfl, p, _, rfl, .inl (SqL.of hp), a, _, rfl, hb, by omega, by omega, fun d H' d0 d1 hb' but same => ?_⟩
  obtain ⟨j, rfl⟩ : ∃ j : Nat, d = (j : Int) := ⟨d.toNat, by omega⟩
  have hj : j < xs.length := by omega
  exact ⟨p, _, _, _, rfl, rfl, SqL.of (but p _ ne hp), atI_nat (List.getElem?_eq_getElem hj), q j _ H' (List.getElem?_eq_getElem hj) hb' but same⟩
end
end K01
set_option Elab.async false
set_option maxRecDepth 100000
set_option maxHeartbeats 4000000
namespace K01
open PySem PySem.Spec PyProof.Rows L2 Tk
def big : Nat → Nat
  | 0 => 20
  | n + 1 => (big n + 2) * 2 + 2
theorem big_le : ∀ n, 20 ≤ big n
  | 0 => Nat.le_refl _
  | n + 1 => by have := big_le n; show 20 ≤ (big n + 2) * 2 + 2; omega
/-- _law_any(box, n), by how many calls deep it may go -/
def spAny : Nat → Sp
  | 0 => fun _ _ _ _ => False
  | n + 1 => fun vs H Q _ => ∃ a : Addr, vs = [.ref a, .int n] ∧ Box H a ∧ ∀ (v : V) (d : PyData) (H' : Hp), Box H' a → But a H H' → Da (fun p => H p = none) H' v d → Fine (big n) (n + 1) d → Q v H'
def nsAny : List Str := ["_law_box_here", "_law_deep", "_law_form", "_law_some", "_law_words", "_law_plain", "_law_k"]
section
variable {P : Program} {w : World} {K : PySem.W.Frag} {mg : Str → Option Value} {base : Heap}
theorem scAny : FnScope ["_law_box_here", "_law_deep", "_law_form", "_law_some", "_law_words", "_law_plain", "_law_k"] ["_law_box_here", "_law_deep"] (defScope sAny) := ⟨rfl, rfl, rfl, by decide +kernel, rfl, by decide +kernel, by decide +kernel⟩
def words : List V := [.str "", .str "a", .str "left", .str "talk", .str "behind", .str "1 1", .str "1", .str "1 0, 1 1", .str "7 8", .str "abcdefg", .str "A", .str "\n"]
theorem words_fine : ∀ x ∈ words, ∃ y : Str, x = .str y ∧ Fine 20 0 (.str y) := by
  have go : ∀ y : Str, (reprText y).length ≤ 20 → ∃ z : Str, V.str y = .str z ∧ Fine 20 0 (.str z) := fun y h => ⟨y, rfl, rfl, rfl, Nat.le_refl _, h⟩
  intro x hx
  simp only [words, List.mem_cons, List.not_mem_nil, or_false] at hx
  rcases hx with rfl | rfl | rfl | rfl | rfl | rfl | rfl | rfl | rfl | rfl | rfl | rfl <;> exact go _ (by decide +kernel)
theorem fine_int {i : Int} (h1 : i.natAbs.log2 < 1920) (h2 : ((toString i : String) : Str).length ≤ 16) : Fine 16 0 (.int i) := ⟨decide_eq_true h1, rfl, Nat.le_refl _, h2⟩
theorem fine2 {m : Nat} (h : 20 ≤ m) {ds : List PyData} (hd : ∀ d ∈ ds, Fine 1 0 d) (hl : ds.length ≤ 2) : Fine m 1 (.list ds) ∧ Fine m 1 (.tuple ds) := by
  have e : (1 + 2) * ds.length + 2 ≤ m := by omega
  exact ⟨(Fine.list hd).mono e (Nat.le_refl _), (Fine.tuple hd).mono e (Nat.le_refl _)⟩
theorem fine_dig {i : Int} (h1 : i.natAbs.log2 < 1920) (h2 : ((toString i : String) : Str).length ≤ 1) : Fine 1 0 (.int i) := ⟨decide_eq_true h1, rfl, Nat.le_refl _, h2⟩
theorem Same.new {H : Hp} {p : Addr} (h : H p = none) (o : HO) : Same H (upd H p o) := fun b u q => by rw [upd_ne (ne_of_none q h)]; exact q
theorem any_none {f : Addr} {fd : FuncData} : FnOk P w K mg base CX0 2 f fd ["_law_box_here", "_law_deep"] (spAny 0) := ⟨fun _ _ _ _ h => h.elim, fun _ _ _ _ _ _ _ _ _ _ _ _ _ h => h.elim⟩
theorem ok_any {n : Nat} {f g p : Addr} {fd gd pd : FuncData} (F : Fun K "_law_any" "_law_any" sAny f fd) (bF : Binds K fd ["_law_box_here", "_law_deep"] []) (mF : mg "_law_any" = some (.ref f))
    (G : FnOk P w K mg base CX0 1 g gd ["_law_box_here", "_law_many"] spTake) (bG : Binds K gd ["_law_box_here", "_law_many"] []) (kG : PySem.W.keepIn K (.ref g) = true) (mG : mg "_law_take" = some (.ref g))
    (GP : FnOk P w K mg base CX0 2 p pd ["_law_box_here", "_law_some"] spPick) (bP : Binds K pd ["_law_box_here", "_law_some"] []) (kP : PySem.W.keepIn K (.ref p) = true) (mP : mg "_law_pick" = some (.ref p))
    (mr : mg "range" = none) (mt : mg "tuple" = none) (R : FnOk P w K mg base CX0 (n + 2) f fd ["_law_box_here", "_law_deep"] (spAny n)) : FnOk P w K mg base CX0 (n + 3) f fd ["_law_box_here", "_law_deep"] (spAny (n + 1)) := by
  refine F.ok scAny (fun vs H Q E h => ?_) (fun cdv A outer s H vs Q E hr h => ?_)
  · obtain ⟨a, rfl, _⟩ := h
    rfl
  obtain ⟨a, rfl, hb, q⟩ := h
  have hr1 : Room 1 _ := hr.mono (by omega)
  have hr2 : Room 2 _ := hr.mono (by omega)
  refine ⟨_, pss_cons (ps_set (i := 2) scAny.nd rfl (.inl rfl) (pe_call G hr1 rfl mG kG bG .nil pass0 (pa_cons (pv 0) (pa_cons pe_int pa_nil))))
    (pss_cons (ps_if (PW.pt (pw_and (pt_cmpR op_lt (pv 2) pe_int (nomark _)) (pw_and1 (pt_cmpR op_gt (pv 1) pe_int (nomark _)))))
      (pss_cons (ps_setLc (i := 3) (own := [("_law_k", 6)]) (g := gName 6) (tt := tYes) rfl scAny.nd rfl rfl (sw_true rfl rfl rfl (by decide +kernel)) (pi_range1 (by rfl) mr (pa_cons (pe_call G hr1 rfl mG kG bG .nil pass0 (pa_cons (pv 0) (pa_cons pe_int pa_nil))) pa_nil))
          (blkOk_by (N := nsAny) (sc := defScope sAny) (by decide +kernel)) (fun _ _ _ _ _ => pg_name (i := 6) scAny.nd rfl (.inl rfl)) (fun _ _ _ _ _ => pts_nil)
          (fun _ _ _ _ _ => pe_call R hr rfl mF F.kp bF .nil pass0 (pa_cons (pv 0) (pa_cons (pe_op op_sub (pv 1) pe_int) pa_nil))))
        (pss_one (ps_ret (pe_ifExp (pt_cmpR op_lt (pv 2) pe_int (nomark _)) (pv 3) (pe_callTy call_tuple_of (by rfl) mt (by decide +kernel) (pa_cons (pv 3) pa_nil))))))
      pss_nil)
    (pss_cons (ps_set (i := 4) scAny.nd rfl (.inl rfl) (pe_lst (pa_cons pe_str (pa_cons pe_str (pa_cons pe_str (pa_cons pe_str (pa_cons pe_str (pa_cons pe_str (pa_cons pe_str (pa_cons pe_str (pa_cons pe_str (pa_cons pe_str (pa_cons pe_str (pa_cons pe_str pa_nil))))))))))))))
    (pss_cons (ps_set (i := 5) scAny.nd rfl (.inl rfl) (pe_lst (pa_cons pe_non (pa_cons pe_bl (pa_cons pe_bl (pa_cons pe_int (pa_cons pe_int (pa_cons pe_int (pa_cons (pe_op op_sub pe_int pe_int) (pa_cons (pe_op op_sub (pe_op op_pow pe_int pe_int) pe_int)
        (pa_cons (pe_lst (pa_cons pe_int pa_nil)) (pa_cons (pe_tup (pa_cons pe_int (pa_cons pe_int pa_nil))) (pa_cons (pe_tup (pa_cons pe_int (pa_cons pe_int pa_nil))) (pa_cons (pe_lst (pa_cons pe_int (pa_cons pe_int pa_nil))) pa_nil))))))))))))))
    (pss_one (ps_ret (pe_ifExp (pt_cmpR op_lt (pv 2) pe_int (nomark _)) (pe_call GP hr2 rfl mP kP bP .nil pass0 (pa_cons (pv 0) (pa_cons (pv 4) pa_nil))) (pe_call GP hr2 rfl mP kP bP .nil pass0 (pa_cons (pv 0) (pa_cons (pv 5) pa_nil))))))))), ?_⟩
  refine ⟨_, rfl, a, _, rfl, hb, by decide, by decide, fun form H1 f0 f1 hb1 but1 _ => ?_⟩
  refine (fun rest => ⟨_, rfl, _, _, rfl, rfl, _, rfl, ite2 (fun c1 => ⟨_, rfl, _, _, rfl, rfl, _, rfl, ite2 (fun c2 => ?yes) (fun _ => rest)⟩) (fun _ => rest)⟩) ?rest
  case yes =>
    have c2' : (0 : Int) < n := of_decide_eq_true c2
    obtain ⟨m, rfl⟩ : ∃ m, n = m + 1 := ⟨n - 1, by omega⟩
    refine ⟨_, rfl, a, _, rfl, hb1, by decide, by decide, fun many H2 m0 m1 hb2 but2 _ => ?_⟩
    have nea : ∀ {p : Addr} {H' : Hp}, Box H' a → H' p = none → p ≠ a := by
      rintro p H' ⟨_, _, _, e, _⟩ n rfl
      rw [e] at n
      cases n
    refine ⟨_, rfl, by omega, by omega, fun D nD => lc_range (lo := 0) (n := many.toNat) (fun i H' => ∃ vs ds, H' D = some (.lst vs) ∧ vs.length = i ∧ DaAll (fun p => H2 p = none ∧ p ≠ D) H' vs ds ∧ (∀ d ∈ ds, Fine (big m) (m + 1) d) ∧ Box H' a ∧ But a H2 H') ?_ ?_ ?_⟩
    · have nDa := nea hb2 nD
      refine ⟨[], [], upd_same, rfl, .nil, (fun d hd => absurd hd List.not_mem_nil), ?_, fun b o n e => ?_⟩
      · obtain ⟨x, y, z, e, r⟩ := hb2
        exact ⟨x, y, z, by rw [upd_ne nDa.symm]; exact e, r⟩
      · rw [upd_ne (ne_of_none e nD)]
        exact e
    · rintro i H' hi ⟨vs, ds, e1, e2, e3, e4, e5, e6⟩
      have nDa := nea hb2 nD
      refine ⟨rfl, _, rfl, _, rfl, _, _, rfl, rfl, a, ?_, e5, fun v d H4 hb4 but4 da fine => ⟨vs, but4 _ _ nDa e1, ?_, vs ++ [v], ds ++ [d], upd_same, by simp [e2], ?_, ?_, ?_, ?_⟩⟩
      · have e : ((m + 1 : Nat) : Int) - 1 = (m : Int) := by omega
        show [V.ref a, V.int (((m + 1 : Nat) : Int) - 1)] = _
        rw [e]
      · have : i < 3 := by omega
        rw [e2, sizeLine_eq]
        omega
      · refine DaAll.snoc ?_ ?_
        · refine DaAll.to (fun b o n e => ?_) ds vs e3
          rw [upd_ne n.2]
          exact but4 b o (nea hb2 n.1) e
        · refine Da.to (fun b o n e => ?_) d v (Da.weak (S' := fun p => H2 p = none ∧ p ≠ D) (fun p n => ⟨e6.free (nea e5 n) n, fun z => ?_⟩) d v da)
          · rw [upd_ne n.2]
            exact e
          · rw [z, e1] at n
            cases n
      · intro d' hd
        rcases List.mem_append.mp hd with z | z
        · exact e4 d' z
        · rw [List.mem_singleton.mp z]
          exact fine
      · obtain ⟨x, y, z, e, r⟩ := hb4
        exact ⟨x, y, z, by rw [upd_ne nDa.symm]; exact e, r⟩
      · intro b o n e
        rw [upd_ne (ne_of_none e nD)]
        exact but4 b o n (e6 b o n e)
    · rintro H' ⟨vs, ds, e1, e2, e3, e4, e5, e6⟩
      have nDa := nea hb2 nD
      have all := (but1.trans but2).trans e6
      have out : ∀ p, H2 p = none → H p = none := fun p n => (but1.trans but2).free (nea hb2 n) n
      have len : ds.length ≤ 2 := by
        have := e3.length
        omega
      have more : (big m + 2) * ds.length + 2 ≤ big (m + 1) := by
        have := Nat.mul_le_mul_left (big m + 2) len
        show _ ≤ (big m + 2) * 2 + 2
        omega
      refine ⟨_, rfl, _, _, rfl, rfl, _, rfl, ite2 (fun _ => ?_) (fun _ => ?_)⟩
      · refine ⟨_, rfl, q _ (.list ds) H' e5 all (.lst (out D nD) e1 (DaAll.weak (fun p n => out p n.1) ds vs e3)) ((Fine.list e4).mono more (Nat.le_refl _))⟩
      · refine ⟨_, rfl, D, vs, rfl, .inl ⟨SqL.of e1, fun l hl => ?_⟩⟩
        have old : ∀ b o, H' b = some o → upd H' l (.tup vs) b = some o := fun b o e => by
          rw [upd_ne (ne_of_none e hl)]
          exact e
        obtain ⟨x, y, z, e, r⟩ := id e5
        refine q _ (.tuple ds) _ ⟨x, y, z, old _ _ e, r⟩ (fun b o n e => old _ _ (all b o n e)) (.tup ?_ upd_same (DaAll.to (fun b o _ e => old b o e) ds vs (DaAll.weak (fun p n => out p n.1) ds vs e3))) ((Fine.tuple e4).mono more (Nat.le_refl _))
        exact all.free (nea e5 hl) hl
  case rest =>
    have nea : ∀ {p : Addr} {H' : Hp}, Box H' a → H' p = none → p ≠ a := by
      rintro p H' ⟨_, _, _, e, _⟩ n rfl
      rw [e] at n
      cases n
    have box : ∀ {H' : Hp}, Same H1 H' → Box H' a := fun s => by
      obtain ⟨x, y, z, e, r⟩ := hb1
      exact ⟨x, y, z, s _ _ e, r⟩
    refine ⟨(by show 12 ≤ sizeLine; decide), fun p4 n4 => ?_⟩
    refine ⟨_, _, rfl, rfl, _, _, rfl, rfl, ⟨by decide, by decide, by decide⟩, _, _, rfl, rfl, (by show 1 ≤ sizeLine; decide), fun pa na => ⟨(by show 2 ≤ sizeLine; decide), fun pb nb => ⟨(by show 2 ≤ sizeLine; decide), fun pc nc => ⟨(by show 2 ≤ sizeLine; decide), fun pd nd => ⟨(by show 12 ≤ sizeLine; decide), fun pe ne => ?_⟩⟩⟩⟩⟩
    have s4 := Same.new n4 (.lst [.str "", .str "a", .str "left", .str "talk", .str "behind", .str "1 1", .str "1", .str "1 0, 1 1", .str "7 8", .str "abcdefg", .str "A", .str "\n"])
    have sa := Same.new na (.lst [.int 1])
    have sb := Same.new nb (.tup [.int 1, .int 2])
    have sc := Same.new nc (.tup [.int 1, .int 0])
    have sd := Same.new nd (.lst [.int 1, .int 1])
    have se := Same.new ne (.lst [.non, .bl true, .bl false, .int 0, .int 1, .int 2, .int (0 - 1), .int (10 ^ Int.toNat 9 - 1), .ref pa, .ref pb, .ref pc, .ref pd])
    have all := s4.trans (sa.trans (sb.trans (sc.trans (sd.trans se))))
    have nb9 := big_le n
    have d1 : Fine 1 0 (.int 1) := fine_dig (by decide) (by decide +kernel)
    have d2 : Fine 1 0 (.int 2) := fine_dig (by decide) (by decide +kernel)
    have d0 : Fine 1 0 (.int 0) := fine_dig (by decide) (by decide +kernel)
    have free : ∀ {p : Addr} {H' : Hp}, Same H1 H' → H' p = none → H p = none := fun s n => by
      have n1 := s.free n
      exact but1.free (nea hb1 n1) n1
    refine ⟨_, rfl, _, _, rfl, rfl, _, rfl, ite2 (fun _ => ?_) (fun _ => ?_)⟩
    · refine ⟨_, rfl, _, rfl, a, p4, words, rfl, box all, nea hb1 n4, (sa.trans (sb.trans (sc.trans (sd.trans se)))) _ _ upd_same, by decide, by decide, fun j x H' hx hb' but' _ => ?_⟩
      obtain ⟨y, rfl, fy⟩ := words_fine x (List.mem_of_getElem? hx)
      exact q _ (.str y) H' hb' (but1.trans ((But.of all).trans but')) (.str y) (fy.mono nb9 (Nat.zero_le _))
    · refine ⟨_, rfl, _, rfl, a, pe, _, rfl, box all, nea (box (s4.trans (sa.trans (sb.trans (sc.trans sd))))) ne, upd_same, (by show 0 < 12; decide), (by show 12 < 1073741824; decide), fun j x H' hx hb' but' _ => ?_⟩
      have fin : ∀ (v : V) (d : PyData), Da (fun p => H p = none) H' v d → Fine (big n) (n + 1) d → Q v H' := fun v d da f => q v d H' hb' (but1.trans ((But.of all).trans but')) da f
      have one : ∀ i : Int, Fine 16 0 (.int i) → Q (.int i) H' := fun i f => fin _ (.int i) (.int i) (f.mono (by omega) (Nat.zero_le _))
      have la := but' pa (.lst [.int 1]) (nea (box s4) na) ((sb.trans (sc.trans (sd.trans se))) _ _ upd_same)
      have lb := but' pb (.tup [.int 1, .int 2]) (nea (box (s4.trans sa)) nb) ((sc.trans (sd.trans se)) _ _ upd_same)
      have lc := but' pc (.tup [.int 1, .int 0]) (nea (box (s4.trans (sa.trans sb))) nc) ((sd.trans se) _ _ upd_same)
      have ld := but' pd (.lst [.int 1, .int 1]) (nea (box (s4.trans (sa.trans (sb.trans sc)))) nd) (se _ _ upd_same)
      have hm := List.mem_of_getElem? hx
      simp only [List.mem_cons, List.not_mem_nil, or_false] at hm
      rcases hm with rfl | rfl | rfl | rfl | rfl | rfl | rfl | rfl | rfl | rfl | rfl | rfl
      · exact fin _ .none .non (Fine.none.mono (by omega) (Nat.zero_le _))
      · exact fin _ (.bool true) (.bl _) ((Fine.bool _).mono (by omega) (Nat.zero_le _))
      · exact fin _ (.bool false) (.bl _) ((Fine.bool _).mono (by omega) (Nat.zero_le _))
      · exact one 0 (fine_int (by decide) (by decide +kernel))
      · exact one 1 (fine_int (by decide) (by decide +kernel))
      · exact one 2 (fine_int (by decide) (by decide +kernel))
      · exact one (0 - 1) (fine_int (by decide) (by decide +kernel))
      · exact one (10 ^ Int.toNat 9 - 1) (fine_int (by decide +kernel) (by decide +kernel))
      · exact fin _ (.list [.int 1]) (.lst (free s4 na) la (.cons (.int 1) .nil)) ((fine2 nb9 (by simpa using d1) (by decide)).1.mono (Nat.le_refl _) (by omega))
      · exact fin _ (.tuple [.int 1, .int 2]) (.tup (free (s4.trans sa) nb) lb (.cons (.int 1) (.cons (.int 2) .nil))) ((fine2 nb9 (by simpa using ⟨d1, d2⟩) (by decide)).2.mono (Nat.le_refl _) (by omega))
      · exact fin _ (.tuple [.int 1, .int 0]) (.tup (free (s4.trans (sa.trans sb)) nc) lc (.cons (.int 1) (.cons (.int 0) .nil))) ((fine2 nb9 (by simpa using ⟨d1, d0⟩) (by decide)).2.mono (Nat.le_refl _) (by omega))
      · exact fin _ (.list [.int 1, .int 1]) (.lst (free (s4.trans (sa.trans (sb.trans sc))) nd) ld (.cons (.int 1) (.cons (.int 1) .nil))) ((fine2 nb9 (by simpa using d1) (by decide)).1.mono (Nat.le_refl _) (by omega))
/-- every depth -/
theorem any_all {f g p : Addr} {fd gd pd : FuncData} (F : Fun K "_law_any" "_law_any" sAny f fd) (bF : Binds K fd ["_law_box_here", "_law_deep"] []) (mF : mg "_law_any" = some (.ref f))
    (G : FnOk P w K mg base CX0 1 g gd ["_law_box_here", "_law_many"] spTake) (bG : Binds K gd ["_law_box_here", "_law_many"] []) (kG : PySem.W.keepIn K (.ref g) = true) (mG : mg "_law_take" = some (.ref g))
    (GP : FnOk P w K mg base CX0 2 p pd ["_law_box_here", "_law_some"] spPick) (bP : Binds K pd ["_law_box_here", "_law_some"] []) (kP : PySem.W.keepIn K (.ref p) = true) (mP : mg "_law_pick" = some (.ref p))
    (mr : mg "range" = none) (mt : mg "tuple" = none) : ∀ n : Nat, FnOk P w K mg base CX0 (n + 2) f fd ["_law_box_here", "_law_deep"] (spAny n)
  | 0 => any_none
  | n + 1 => ok_any F bF mF G bG kG mG GP bP kP mP mr mt (any_all F bF mF G bG kG mG GP bP kP mP mr mt n)
/-- _law_box(script, k) -/
def spBox (K : PySem.W.Frag) : Sp := fun vs H Q _ => ∃ (a : Addr) (ns : List Int) (k : Int), vs = [.ref a, .int k] ∧ SqL K H a (ns.map V.int) ∧ ns.length ≤ 63 ∧ 0 ≤ k ∧ k < 5 ∧ ∀ (b : Addr) (H' : Hp), H b = none → Box H' b → Same H H' → Q (.ref b) H'
theorem scBox : FnScope ["_law_script", "_law_k", "_law_cell", "_law_seed", "_law_wide"] ["_law_script", "_law_k"] (defScope sBox) := ⟨rfl, rfl, rfl, by decide +kernel, rfl, by decide +kernel, by decide +kernel⟩
theorem ok_box {f : Addr} {fd : FuncData} (F : Fun K "_law_box" "_law_box" sBox f fd) (mi : mg "int" = none) (ma : mg "abs" = none) (ml : mg "len" = none) : FnOk P w K mg base CX0 1 f fd ["_law_script", "_law_k"] (spBox K) := by
  refine F.ok scBox (fun vs H Q E h => ?_) (fun cdv A outer s H vs Q E hr h => ?_)
  · obtain ⟨a, ns, k, rfl, _⟩ := h
    rfl
  obtain ⟨a, ns, k, rfl, hS, h63, k0, k5, q⟩ := h
  have len : (ns.map V.int).length = ns.length := List.length_map _
  have item : ∀ i : Int, 0 ≤ i → i < ns.length → ∃ z : Int, atI (ns.map V.int) i = some (.int z) := fun i i0 i1 => by
    obtain ⟨j, rfl⟩ : ∃ j : Nat, i = (j : Int) := ⟨i.toNat, by omega⟩
    have hj : j < ns.length := by omega
    exact ⟨ns[j], atI_nat (by rw [List.getElem?_map, List.getElem?_eq_getElem hj] <;> rfl)⟩
  refine ⟨_, pss_cons (ps_set (i := 2) scBox.nd rfl (.inl rfl) (pe_op op_add (pe_op op_mul pe_int (pv 1)) pe_int))
    (pss_cons (ps_if (pt_cmpR op_lt (pv 1) (pe_callB call_len_seq rfl ml PySem.boot_len (pa_cons (pv 0) pa_nil)) (nomark _))
        (pss_one (ps_set (i := 2) scBox.nd rfl (.inl rfl) (pe_callB call_abs (by rfl) ma (by decide +kernel) (pa_cons (pe_callTy call_int1 (by rfl) mi (by decide +kernel) (pa_cons (pe_ix ix_list (pv 0) (pv 1) (fun _ _ => rfl)) pa_nil)) pa_nil))))
        (pss_one (ps_if (pt_cmpR op_gt (pe_callB call_len_seq rfl ml PySem.boot_len (pa_cons (pv 0) pa_nil)) pe_int (nomark _))
          (pss_one (ps_set (i := 2) scBox.nd rfl (.inl rfl) (pe_op op_add (pv 2) (pe_op op_mul (pe_op op_mod (pe_callTy call_int1 (by rfl) mi (by decide +kernel) (pa_cons (pe_ix ix_list (pv 0)
              (pe_op op_mod (pe_callTy call_int1 (by rfl) mi (by decide +kernel) (pa_cons (pv 1) pa_nil)) (pe_callB call_len_seq rfl ml PySem.boot_len (pa_cons (pv 0) pa_nil))) (fun _ _ => rfl)) pa_nil)) pe_int) pe_int)))) pss_nil)))
    (pss_cons (ps_set (i := 3) scBox.nd rfl (.inl rfl) (pe_op op_add (pe_op op_mod (pe_callTy call_int1 (by rfl) mi (by decide +kernel) (pa_cons (pe_op op_add (pe_op op_add (pe_op op_mul (pe_op op_mod (pe_callTy call_int1 (by rfl) mi (by decide +kernel) (pa_cons (pv 2) pa_nil)) pe_int) pe_int) (pe_op op_mul pe_int (pv 1))) pe_int) pa_nil)) pe_int) pe_int))
    (pss_cons (ps_set (i := 4) scBox.nd rfl (.inl rfl) (pe_ifExp (pt_cmpR op_ge (pv 2) (pe_op op_pow pe_int pe_int) (nomark _)) (pv 2) pe_int))
    (pss_one (ps_ret (pe_lst (pa_cons (pv 4) (pa_cons (pv 3) (pa_cons pe_int pa_nil))))))))), ?_⟩
  refine ⟨_, rfl, _, _, rfl, rfl, .inl ⟨by decide, by decide⟩, _, _, rfl, rfl, ?_⟩
  refine ⟨_, rfl, _, rfl, a, _, rfl, .inl hS, _, _, rfl, rfl, _, rfl, ite2 (fun c => ?one) (fun c => ⟨_, rfl, a, _, rfl, .inl hS, _, _, rfl, rfl, _, rfl, ite2 (fun c2 => ?two) (fun _ => ?three)⟩)⟩
  case' one =>
    have c' : k < ((ns.map V.int).length : Int) := of_decide_eq_true c
    rw [len] at c'
    obtain ⟨z, hz⟩ := item k k0 c'
    refine ⟨_, rfl, _, rfl, a, _, _, _, rfl, rfl, hS, hz, .inl ⟨_, rfl, _, rfl, ?_⟩⟩
  case' two =>
    have c' : (0 : Int) < ((ns.map V.int).length : Int) := of_decide_eq_true c2
    obtain ⟨z, hz⟩ := item (k % ((ns.map V.int).length : Int)) (Int.emod_nonneg _ (by omega)) (by rw [← len]; exact Int.emod_lt_of_pos _ c')
    refine ⟨_, rfl, _, rfl, _, rfl, .inl ⟨_, rfl, _, rfl, a, _, rfl, .inl hS, _, _, rfl, rfl, c', a, _, _, _, rfl, rfl, hS, hz, .inl ⟨_, rfl, _, _, rfl, rfl, (by show (0 : Int) < 2147483629; decide), _, _, rfl, rfl, .inr ⟨by decide, by decide⟩, _, _, rfl, rfl, ?_⟩⟩⟩
  all_goals
    refine ⟨_, rfl, .inl ⟨_, rfl, _, _, rfl, rfl, (by show (0 : Int) < 2147483629; decide), _, _, rfl, rfl, .inr ⟨by decide, by decide⟩, _, rfl, _, _, rfl, rfl, .inl ⟨by decide, by decide⟩, _, _, rfl, rfl, _, _, rfl, rfl, .inl ⟨_, rfl, _, _, rfl, rfl, (by show (0 : Int) < 2147483629; decide), _, _, rfl, rfl, ?_⟩⟩⟩
    refine ⟨_, rfl, _, _, rfl, rfl, ⟨by decide, by decide, by decide⟩, _, _, rfl, rfl, _, rfl, ite2 (fun c9 => ?_) (fun _ => ?_)⟩
    · refine ⟨_, rfl, _, rfl, _, rfl, (by show 3 ≤ sizeLine; decide), fun p hp => q p _ hp ⟨_, _, _, upd_same, ?_, ?_, Int.le_refl 0⟩ (Same.new hp _)⟩
      · exact Int.le_trans (by decide) (of_decide_eq_true c9)
      · exact Int.le_trans (Int.emod_nonneg _ (by decide)) (Int.le_of_lt (Int.lt_succ _))
    · refine ⟨_, rfl, _, rfl, (by show 3 ≤ sizeLine; decide), fun p hp => q p _ hp ⟨_, _, _, upd_same, Int.le_refl 0, ?_, Int.le_refl 0⟩ (Same.new hp _)⟩
      exact Int.le_trans (Int.emod_nonneg _ (by decide)) (Int.le_of_lt (Int.lt_succ _))
end
end K01
set_option Elab.async false
set_option maxRecDepth 100000
set_option maxHeartbeats 4000000
namespace K01
open PySem PySem.Spec PyProof.Rows L2 Tk
abbrev sMade : Stmt := top 16
abbrev sNamed : Stmt := top 17
abbrev sSorts : Stmt := top 18
abbrev sKept : Stmt := top 19
abbrev sLaw : Stmt := top 20
def fld (i : Nat) : Str := if i < 5 then "at" else if i = 5 then "word" else "name"
def clsName (i : Nat) : Str := [("InvalidText" : Str), ("InvalidTalk" : Str), ("InvalidRow" : Str), ("Refused" : Str), ("InvalidNumbers" : Str), ("InvalidBook" : Str), ("NoTalk" : Str), ("InvalidLot" : Str), ("InvalidCommand" : Str)].getD i ""
def sInit (i : Nat) : Stmt := inClass (top ([4, 2, 5, 9, 6, 3, 10].getD i 0)) 0

/-- what the top says of the nine classes (cs i the class, is i its __init__, ts the base) -/
structure Txt (K : PySem.W.Frag) (mg : Str → Option Value) (cs is : Nat → Addr) (ts : Addr) : Prop where
  gC : ∀ i, i < 9 → mg (clsName i) = some (.ref (cs i))
  gT : mg "TalkError" = some (.ref ts)
  ox : ∀ i, i < 7 → OxC K (cs i)
  iC : ∀ i, i < 7 → PySem.W.findIn K (.ref (cs i)) "__init__" = some (some (.ref (is i)))
  tI : ∀ i, i < 7 → PySem.W.typeIn K (.ref (is i)) = some (.type "function")
  no : ∀ i, i < 7 → PySem.W.findIn K (.ref (cs i)) (fld i) = some none
  xf : ∀ i, i < 7 → XfC K (cs i)
  ec : ∀ i, i < 9 → ExcC K (cs i)
  ex0 : ∀ i, 7 ≤ i → i < 9 → PySem.W.excIn K (cs i) [.type "ValueError", .type "Exception", .type "BaseException", .type "object"] "ValueError.__new__" = true
  kC : ∀ i, i < 9 → PySem.W.keepIn K (.ref (cs i)) = true
  kit : ∀ i j, i < 9 → j < 9 → PySem.W.kitOne K (.ref (cs i)) (.ref (cs j)) = some (decide (i = j))
  kitT : ∀ i, i < 9 → PySem.W.kitOne K (.ref (cs i)) (.ref ts) = some (decide (i ≠ 6))
  kitV : ∀ i, i < 9 → PySem.W.kitOne K (.ref (cs i)) (.type "ValueError") = some (decide (i ≠ 6))
  kitK : PySem.W.kitOne K (.ref (cs 6)) (.type "KeyError") = some true
/-- e is a made exception of the i-th class, which keeps y -/
def MadeE (cs : Nat → Addr) (i : Nat) (H : Hp) (e : Addr) (y : V) : Prop :=
  (i < 7 ∧ ∃ dx, H e = some (exo e (cs i) (some dx)) ∧ H dx = some (exd dx [(fld i, y)])) ∨ (7 ≤ i ∧ H e = some (exo e (cs i) none))
theorem MadeE.same {cs : Nat → Addr} {i : Nat} {H H' : Hp} {e : Addr} {y : V} (m : MadeE cs i H e y) (s : Same H H') : MadeE cs i H' e y := by
  rcases m with ⟨h, dx, a, b⟩ | ⟨h, a⟩
  · exact .inl ⟨h, dx, s _ _ a, s _ _ b⟩
  · exact .inr ⟨h, s _ _ a⟩
theorem MadeE.obj {K : PySem.W.Frag} {cs : Nat → Addr} {i : Nat} {H : Hp} {e : Addr} {y : V} (m : MadeE cs i H e y) : H e = some (exo e (cs i) none) ∨ ∃ dx fs, H e = some (exo e (cs i) (some dx)) ∧ H dx = some (exd dx fs) := by
  rcases m with ⟨h, dx, a, b⟩ | ⟨h, a⟩
  · exact .inr ⟨dx, _, a, b⟩
  · exact .inl a
/-- an exception of the i-th class is made of y -/
def spMade (cs : Nat → Addr) (n : Nat) : Sp := fun vs H Q _ => ∃ (i : Nat) (y : V), vs = [.int i, y] ∧ i < n ∧ ∀ (e : Addr) (H' : Hp), H e = none → MadeE cs i H' e y → Same H H' → Q (.ref e) H'
section
variable {P : Program} {w : World} {K : PySem.W.Frag} {mg : Str → Option Value} {base : Heap} {cs is : Nat → Addr} {ts : Addr}
/-- the __init__ of each -/
abbrev Inits (P : Program) (w : World) (K : PySem.W.Frag) (mg : Str → Option Value) (base : Heap) (is : Nat → Addr) (fd : Nat → FuncData) : Prop := ∀ i, i < 7 → FnOk P w K mg base CX0 1 (is i) (fd i) ["self", fld i] (spInit K (fld i))

theorem scI0 : FnScope ["self", "at"] ["self", "at"] (defScope (sInit 0)) := ⟨rfl, rfl, rfl, by decide +kernel, rfl, by decide +kernel, by decide +kernel⟩
theorem ok_init0 {f : Addr} {fd : FuncData} (F : Fun K "__init__" "InvalidText.__init__" (sInit 0) f fd) : FnOk P w K mg base CX0 1 f fd ["self", "at"] (spInit K "at") := by
  refine F.ok scI0 (fun vs H Q E h => ?_) (fun cdv A outer s H vs Q E hr h => ?_)
  · obtain ⟨a, C, y, rfl, _⟩ := h
    rfl
  obtain ⟨a, C, y, rfl, T, no, ea, q⟩ := h
  refine ⟨_, pss_one (ps_first (pv 0) (pv 1)), ?_⟩
  exact ⟨_, rfl, _, rfl, a, C, rfl, T, no, ea, q⟩

theorem scI1 : FnScope ["self", "at"] ["self", "at"] (defScope (sInit 1)) := ⟨rfl, rfl, rfl, by decide +kernel, rfl, by decide +kernel, by decide +kernel⟩
theorem ok_init1 {f : Addr} {fd : FuncData} (F : Fun K "__init__" "InvalidTalk.__init__" (sInit 1) f fd) : FnOk P w K mg base CX0 1 f fd ["self", "at"] (spInit K "at") := by
  refine F.ok scI1 (fun vs H Q E h => ?_) (fun cdv A outer s H vs Q E hr h => ?_)
  · obtain ⟨a, C, y, rfl, _⟩ := h
    rfl
  obtain ⟨a, C, y, rfl, T, no, ea, q⟩ := h
  refine ⟨_, pss_one (ps_first (pv 0) (pv 1)), ?_⟩
  exact ⟨_, rfl, _, rfl, a, C, rfl, T, no, ea, q⟩

theorem scI2 : FnScope ["self", "at"] ["self", "at"] (defScope (sInit 2)) := ⟨rfl, rfl, rfl, by decide +kernel, rfl, by decide +kernel, by decide +kernel⟩
theorem ok_init2 {f : Addr} {fd : FuncData} (F : Fun K "__init__" "InvalidRow.__init__" (sInit 2) f fd) : FnOk P w K mg base CX0 1 f fd ["self", "at"] (spInit K "at") := by
  refine F.ok scI2 (fun vs H Q E h => ?_) (fun cdv A outer s H vs Q E hr h => ?_)
  · obtain ⟨a, C, y, rfl, _⟩ := h
    rfl
  obtain ⟨a, C, y, rfl, T, no, ea, q⟩ := h
  refine ⟨_, pss_one (ps_first (pv 0) (pv 1)), ?_⟩
  exact ⟨_, rfl, _, rfl, a, C, rfl, T, no, ea, q⟩

theorem scI3 : FnScope ["self", "at"] ["self", "at"] (defScope (sInit 3)) := ⟨rfl, rfl, rfl, by decide +kernel, rfl, by decide +kernel, by decide +kernel⟩
theorem ok_init3 {f : Addr} {fd : FuncData} (F : Fun K "__init__" "Refused.__init__" (sInit 3) f fd) : FnOk P w K mg base CX0 1 f fd ["self", "at"] (spInit K "at") := by
  refine F.ok scI3 (fun vs H Q E h => ?_) (fun cdv A outer s H vs Q E hr h => ?_)
  · obtain ⟨a, C, y, rfl, _⟩ := h
    rfl
  obtain ⟨a, C, y, rfl, T, no, ea, q⟩ := h
  refine ⟨_, pss_one (ps_first (pv 0) (pv 1)), ?_⟩
  exact ⟨_, rfl, _, rfl, a, C, rfl, T, no, ea, q⟩

theorem scI4 : FnScope ["self", "at"] ["self", "at"] (defScope (sInit 4)) := ⟨rfl, rfl, rfl, by decide +kernel, rfl, by decide +kernel, by decide +kernel⟩
theorem ok_init4 {f : Addr} {fd : FuncData} (F : Fun K "__init__" "InvalidNumbers.__init__" (sInit 4) f fd) : FnOk P w K mg base CX0 1 f fd ["self", "at"] (spInit K "at") := by
  refine F.ok scI4 (fun vs H Q E h => ?_) (fun cdv A outer s H vs Q E hr h => ?_)
  · obtain ⟨a, C, y, rfl, _⟩ := h
    rfl
  obtain ⟨a, C, y, rfl, T, no, ea, q⟩ := h
  refine ⟨_, pss_one (ps_first (pv 0) (pv 1)), ?_⟩
  exact ⟨_, rfl, _, rfl, a, C, rfl, T, no, ea, q⟩

theorem scI5 : FnScope ["self", "word"] ["self", "word"] (defScope (sInit 5)) := ⟨rfl, rfl, rfl, by decide +kernel, rfl, by decide +kernel, by decide +kernel⟩
theorem ok_init5 {f : Addr} {fd : FuncData} (F : Fun K "__init__" "InvalidBook.__init__" (sInit 5) f fd) : FnOk P w K mg base CX0 1 f fd ["self", "word"] (spInit K "word") := by
  refine F.ok scI5 (fun vs H Q E h => ?_) (fun cdv A outer s H vs Q E hr h => ?_)
  · obtain ⟨a, C, y, rfl, _⟩ := h
    rfl
  obtain ⟨a, C, y, rfl, T, no, ea, q⟩ := h
  refine ⟨_, pss_one (ps_first (pv 0) (pv 1)), ?_⟩
  exact ⟨_, rfl, _, rfl, a, C, rfl, T, no, ea, q⟩

theorem scI6 : FnScope ["self", "name"] ["self", "name"] (defScope (sInit 6)) := ⟨rfl, rfl, rfl, by decide +kernel, rfl, by decide +kernel, by decide +kernel⟩
theorem ok_init6 {f : Addr} {fd : FuncData} (F : Fun K "__init__" "NoTalk.__init__" (sInit 6) f fd) : FnOk P w K mg base CX0 1 f fd ["self", "name"] (spInit K "name") := by
  refine F.ok scI6 (fun vs H Q E h => ?_) (fun cdv A outer s H vs Q E hr h => ?_)
  · obtain ⟨a, C, y, rfl, _⟩ := h
    rfl
  obtain ⟨a, C, y, rfl, T, no, ea, q⟩ := h
  refine ⟨_, pss_one (ps_first (pv 0) (pv 1)), ?_⟩
  exact ⟨_, rfl, _, rfl, a, C, rfl, T, no, ea, q⟩

theorem sc_made : FnScope ["_law_spot", "_law_value"] ["_law_spot", "_law_value"] (defScope sMade) := ⟨rfl, rfl, rfl, by decide +kernel, rfl, by decide +kernel, by decide +kernel⟩
theorem ok_made {f : Addr} {fd : FuncData} {id : Nat → FuncData} (F0 : Fun K "_law_made" "_law_made" sMade f fd) (T : Txt K mg cs is ts) (I : Inits P w K mg base is id) (B : ∀ i, i < 7 → ∀ (s : Shared) (self u : Value), BindsTo s (id i) ⟨[self, u], []⟩ [("self", self), (fld i, u)]) : FnOk P w K mg base CX0 3 f fd ["_law_spot", "_law_value"] (spMade cs 9) := by
  refine F0.ok sc_made (fun vs H Q E h => ?_) (fun cdv A outer s H vs Q E hr h => ?_)
  · obtain ⟨i, y, rfl, _⟩ := h
    rfl
  obtain ⟨i, y, rfl, hi, q⟩ := h
  refine ⟨_, (pss_cons (ps_if (pt_cmpR op_lt (pv 0) pe_int (nomark _)) (pss_cons (ps_if (pt_cmpR op_lt (pv 0) pe_int (nomark _)) (pss_one (ps_ret (pe_ifExp (pt_cmpR op_eq (pv 0) pe_int (nomark _)) (pe_ox (T.ox 0 (by decide)) (T.iC 0 (by decide)) (T.tI 0 (by decide)) (I 0 (by decide)) hr (T.no 0 (by decide)) (B 0 (by decide)) rfl (T.gC 0 (by decide)) (pa_cons (pv 1) pa_nil)) (pe_ox (T.ox 1 (by decide)) (T.iC 1 (by decide)) (T.tI 1 (by decide)) (I 1 (by decide)) hr (T.no 1 (by decide)) (B 1 (by decide)) rfl (T.gC 1 (by decide)) (pa_cons (pv 1) pa_nil))))) pss_nil)
      (pss_cons (ps_if (pt_cmpR op_eq (pv 0) pe_int (nomark _)) (pss_one (ps_ret (pe_ox (T.ox 2 (by decide)) (T.iC 2 (by decide)) (T.tI 2 (by decide)) (I 2 (by decide)) hr (T.no 2 (by decide)) (B 2 (by decide)) rfl (T.gC 2 (by decide)) (pa_cons (pv 1) pa_nil)))) pss_nil)
      (pss_one (ps_ret (pe_ifExp (pt_cmpR op_eq (pv 0) pe_int (nomark _)) (pe_ox (T.ox 3 (by decide)) (T.iC 3 (by decide)) (T.tI 3 (by decide)) (I 3 (by decide)) hr (T.no 3 (by decide)) (B 3 (by decide)) rfl (T.gC 3 (by decide)) (pa_cons (pv 1) pa_nil)) (pe_ox (T.ox 4 (by decide)) (T.iC 4 (by decide)) (T.tI 4 (by decide)) (I 4 (by decide)) hr (T.no 4 (by decide)) (B 4 (by decide)) rfl (T.gC 4 (by decide)) (pa_cons (pv 1) pa_nil))))))) pss_nil)
    (pss_cons (ps_if (pt_cmpR op_lt (pv 0) pe_int (nomark _)) (pss_one (ps_ret (pe_ifExp (pt_cmpR op_eq (pv 0) pe_int (nomark _)) (pe_ox (T.ox 5 (by decide)) (T.iC 5 (by decide)) (T.tI 5 (by decide)) (I 5 (by decide)) hr (T.no 5 (by decide)) (B 5 (by decide)) rfl (T.gC 5 (by decide)) (pa_cons (pv 1) pa_nil)) (pe_ox (T.ox 6 (by decide)) (T.iC 6 (by decide)) (T.tI 6 (by decide)) (I 6 (by decide)) hr (T.no 6 (by decide)) (B 6 (by decide)) rfl (T.gC 6 (by decide)) (pa_cons (pv 1) pa_nil))))) pss_nil)
    (pss_one (ps_ret (pe_ifExp (pt_cmpR op_eq (pv 0) pe_int (nomark _)) (pe_ox0 F.excBase_ValueError (T.ex0 7 (by decide) (by decide)) rfl (T.gC 7 (by decide)) (T.kC 7 (by decide))) (pe_ox0 F.excBase_ValueError (T.ex0 8 (by decide) (by decide)) rfl (T.gC 8 (by decide)) (T.kC 8 (by decide)))))))), ?_⟩
  have eq_ : ∀ {j : Int}, decide (V.int (i : Int) = V.int j) = true → (i : Int) = j := fun h => V.int.inj (of_decide_eq_true h)
  have ne_ : ∀ {j : Int}, ¬ decide (V.int (i : Int) = V.int j) = true → (i : Int) ≠ j := fun h e => h (decide_eq_true (congrArg V.int e))
  have leaf : ∀ j : Nat, j < 7 → i = j → ∀ (a dx : Addr) (H2 : Hp), H a = none → H dx = none → dx ≠ a → H2 a = some (exo a (cs j) (some dx)) → H2 dx = some (exd dx [(fld j, y)]) → Same H H2 → Q (.ref a) H2 := fun j hj e a dx H2 na nd ne ea ed sm => q a H2 na (.inl ⟨by omega, dx, by rw [e]; exact ea, by rw [e]; exact ed⟩) sm
  have last : ∀ j : Nat, 7 ≤ j → i = j → ∀ a : Addr, H a = none → Q (.ref a) (upd H a (exo a (cs j) none)) := fun j hj e a na => q a _ na (.inr ⟨by omega, by rw [e]; exact upd_same⟩) (Same.new na _)
  refine ⟨_, rfl, _, _, rfl, rfl, _, rfl, ite2 (fun c1 => ⟨_, rfl, _, _, rfl, rfl, _, rfl, ite2 (fun c5 => ⟨_, rfl, rfl, _, rfl, ite2 (fun c2 => ⟨_, rfl, _, rfl, leaf 0 (by decide) ?_⟩) (fun c2 => ⟨_, rfl, _, rfl, leaf 1 (by decide) ?_⟩)⟩) (fun c5 => ⟨_, rfl, rfl, _, rfl, ite2 (fun c4 => ⟨_, rfl, _, rfl, leaf 2 (by decide) ?_⟩) (fun c4 => ⟨_, rfl, rfl, _, rfl, ite2 (fun c3 => ⟨_, rfl, _, rfl, leaf 3 (by decide) ?_⟩) (fun c3 => ⟨_, rfl, _, rfl, leaf 4 (by decide) ?_⟩)⟩)⟩)⟩) (fun c1 => ⟨_, rfl, _, _, rfl, rfl, _, rfl, ite2 (fun c8 => ⟨_, rfl, rfl, _, rfl, ite2 (fun c6 => ⟨_, rfl, _, rfl, leaf 5 (by decide) ?_⟩) (fun c6 => ⟨_, rfl, _, rfl, leaf 6 (by decide) ?_⟩)⟩) (fun c8 => ⟨_, rfl, rfl, _, rfl, ite2 (fun c7 => last 7 (by decide) ?_) (fun c7 => last 8 (by decide) ?_)⟩)⟩)⟩
  all_goals
    (try have e2 := eq_ c2) <;> (try have e3 := eq_ c3) <;> (try have e4 := eq_ c4) <;> (try have e6 := eq_ c6) <;> (try have e7 := eq_ c7)
    (try have n2 := ne_ c2) <;> (try have n3 := ne_ c3) <;> (try have n4 := ne_ c4) <;> (try have n6 := ne_ c6) <;> (try have n7 := ne_ c7)
    simp only [decide_eq_true_eq] at *
    omega
theorem sc_named : FnScope ["_law_spot", "_law_value"] ["_law_spot", "_law_value"] (defScope sNamed) := ⟨rfl, rfl, rfl, by decide +kernel, rfl, by decide +kernel, by decide +kernel⟩
theorem ok_named {f : Addr} {fd : FuncData} {id : Nat → FuncData} (F0 : Fun K "_law_named" "_law_named" sNamed f fd) (T : Txt K mg cs is ts) (I : Inits P w K mg base is id) (B : ∀ i, i < 7 → ∀ (s : Shared) (self u : Value), BindsTo s (id i) ⟨[self], [(fld i, u)]⟩ [("self", self), (fld i, u)]) : FnOk P w K mg base CX0 3 f fd ["_law_spot", "_law_value"] (spMade cs 7) := by
  refine F0.ok sc_named (fun vs H Q E h => ?_) (fun cdv A outer s H vs Q E hr h => ?_)
  · obtain ⟨i, y, rfl, _⟩ := h
    rfl
  obtain ⟨i, y, rfl, hi, q⟩ := h
  refine ⟨_, (pss_cons (ps_if (pt_cmpR op_lt (pv 0) pe_int (nomark _)) (pss_cons (ps_if (pt_cmpR op_lt (pv 0) pe_int (nomark _)) (pss_one (ps_ret (pe_ifExp (pt_cmpR op_eq (pv 0) pe_int (nomark _)) (pe_oxK (nm := "at") (T.ox 0 (by decide)) (T.iC 0 (by decide)) (T.tI 0 (by decide)) (I 0 (by decide)) hr (T.no 0 (by decide)) (B 0 (by decide)) rfl (T.gC 0 (by decide)) (pk_cons (pv 1) pk_nil)) (pe_oxK (nm := "at") (T.ox 1 (by decide)) (T.iC 1 (by decide)) (T.tI 1 (by decide)) (I 1 (by decide)) hr (T.no 1 (by decide)) (B 1 (by decide)) rfl (T.gC 1 (by decide)) (pk_cons (pv 1) pk_nil))))) pss_nil)
      (pss_cons (ps_if (pt_cmpR op_eq (pv 0) pe_int (nomark _)) (pss_one (ps_ret (pe_oxK (nm := "at") (T.ox 2 (by decide)) (T.iC 2 (by decide)) (T.tI 2 (by decide)) (I 2 (by decide)) hr (T.no 2 (by decide)) (B 2 (by decide)) rfl (T.gC 2 (by decide)) (pk_cons (pv 1) pk_nil)))) pss_nil)
      (pss_one (ps_ret (pe_ifExp (pt_cmpR op_eq (pv 0) pe_int (nomark _)) (pe_oxK (nm := "at") (T.ox 3 (by decide)) (T.iC 3 (by decide)) (T.tI 3 (by decide)) (I 3 (by decide)) hr (T.no 3 (by decide)) (B 3 (by decide)) rfl (T.gC 3 (by decide)) (pk_cons (pv 1) pk_nil)) (pe_oxK (nm := "at") (T.ox 4 (by decide)) (T.iC 4 (by decide)) (T.tI 4 (by decide)) (I 4 (by decide)) hr (T.no 4 (by decide)) (B 4 (by decide)) rfl (T.gC 4 (by decide)) (pk_cons (pv 1) pk_nil))))))) pss_nil)
    (pss_one (ps_ret (pe_ifExp (pt_cmpR op_eq (pv 0) pe_int (nomark _)) (pe_oxK (nm := "word") (T.ox 5 (by decide)) (T.iC 5 (by decide)) (T.tI 5 (by decide)) (I 5 (by decide)) hr (T.no 5 (by decide)) (B 5 (by decide)) rfl (T.gC 5 (by decide)) (pk_cons (pv 1) pk_nil)) (pe_oxK (nm := "name") (T.ox 6 (by decide)) (T.iC 6 (by decide)) (T.tI 6 (by decide)) (I 6 (by decide)) hr (T.no 6 (by decide)) (B 6 (by decide)) rfl (T.gC 6 (by decide)) (pk_cons (pv 1) pk_nil)))))), ?_⟩
  have eq_ : ∀ {j : Int}, decide (V.int (i : Int) = V.int j) = true → (i : Int) = j := fun h => V.int.inj (of_decide_eq_true h)
  have ne_ : ∀ {j : Int}, ¬ decide (V.int (i : Int) = V.int j) = true → (i : Int) ≠ j := fun h e => h (decide_eq_true (congrArg V.int e))
  have leaf : ∀ j : Nat, j < 7 → i = j → ∀ (a dx : Addr) (H2 : Hp), H a = none → H dx = none → dx ≠ a → H2 a = some (exo a (cs j) (some dx)) → H2 dx = some (exd dx [(fld j, y)]) → Same H H2 → Q (.ref a) H2 := fun j hj e a dx H2 na nd ne ea ed sm => q a H2 na (.inl ⟨by omega, dx, by rw [e]; exact ea, by rw [e]; exact ed⟩) sm
  have last : ∀ j : Nat, 7 ≤ j → i = j → ∀ a : Addr, H a = none → Q (.ref a) (upd H a (exo a (cs j) none)) := fun j hj e a na => q a _ na (.inr ⟨by omega, by rw [e]; exact upd_same⟩) (Same.new na _)
  refine ⟨_, rfl, _, _, rfl, rfl, _, rfl, ite2 (fun c1 => ⟨_, rfl, _, _, rfl, rfl, _, rfl, ite2 (fun c5 => ⟨_, rfl, rfl, _, rfl, ite2 (fun c2 => ⟨_, rfl, _, rfl, leaf 0 (by decide) ?_⟩) (fun c2 => ⟨_, rfl, _, rfl, leaf 1 (by decide) ?_⟩)⟩) (fun c5 => ⟨_, rfl, rfl, _, rfl, ite2 (fun c4 => ⟨_, rfl, _, rfl, leaf 2 (by decide) ?_⟩) (fun c4 => ⟨_, rfl, rfl, _, rfl, ite2 (fun c3 => ⟨_, rfl, _, rfl, leaf 3 (by decide) ?_⟩) (fun c3 => ⟨_, rfl, _, rfl, leaf 4 (by decide) ?_⟩)⟩)⟩)⟩) (fun c1 => ⟨_, rfl, rfl, _, rfl, ite2 (fun c6 => ⟨_, rfl, _, rfl, leaf 5 (by decide) ?_⟩) (fun c6 => ⟨_, rfl, _, rfl, leaf 6 (by decide) ?_⟩)⟩)⟩
  all_goals
    (try have e2 := eq_ c2) <;> (try have e3 := eq_ c3) <;> (try have e4 := eq_ c4) <;> (try have e6 := eq_ c6) <;> (try have e7 := eq_ c7)
    (try have n2 := ne_ c2) <;> (try have n3 := ne_ c3) <;> (try have n4 := ne_ c4) <;> (try have n6 := ne_ c6) <;> (try have n7 := ne_ c7)
    simp only [decide_eq_true_eq] at *
    omega
end
end K01
set_option Elab.async false
set_option maxRecDepth 100000
set_option maxHeartbeats 4000000
namespace K01
open PySem PySem.Spec PyProof.Rows L2 Tk
theorem if_true_of {c : Bool} {A B : Prop} (hc : c = true) (h : A) : if c = true then A else B := by
  rw [if_pos hc]
  exact h
theorem if_false_of {c : Bool} {A B : Prop} (hc : c = false) (h : B) : if c = true then A else B := by
  rw [hc, if_neg Bool.false_ne_true]
  exact h
section
variable {P : Program} {w : World} {K : PySem.W.Frag} {mg : Str → Option Value} {base : Heap} {cs is : Nat → Addr} {ts : Addr}
/-- _law_sorts(e): the one class of e -/
def spSorts (cs : Nat → Addr) : Sp := fun vs H Q _ => ∃ (e : Addr) (i : Nat) (y : V), vs = [.ref e] ∧ i < 9 ∧ MadeE cs i H e y ∧ ∀ (p : Addr) (H' : Hp), H p = none → H' p = some (.lst [.int i]) → Same H H' → Q (.ref p) H'
def nsSorts : List Str := ["_law_e", "_law_found", "_law_spot", "_law_is_so"]
theorem scSorts : FnScope ["_law_e", "_law_found", "_law_spot", "_law_is_so"] ["_law_e"] (defScope sSorts) := ⟨rfl, rfl, rfl, by decide +kernel, rfl, by decide +kernel, by decide +kernel⟩
theorem ok_sorts {f : Addr} {fd : FuncData} (F0 : Fun K "_law_sorts" "_law_sorts" sSorts f fd) (T : Txt K mg cs is ts) (mi : mg "isinstance" = none) (me : mg "enumerate" = none) : FnOk P w K mg base CX0 1 f fd ["_law_e"] (spSorts cs) := by
  refine F0.ok scSorts (fun vs H Q E h => ?_) (fun cdv A outer s H vs Q E hr h => ?_)
  · obtain ⟨e, i, y, rfl, _⟩ := h
    rfl
  obtain ⟨e, i, y, rfl, hi, m, q⟩ := h
  refine ⟨_, pss_cons (ps_set (i := 1) scSorts.nd rfl (.inl rfl) (pe_lst (pa_cons (pe_callB call_isX (by rfl) mi (by decide +kernel) (pa_cons (pv 0) (pa_cons (pe_glob (v := .ref (cs 0)) rfl (T.gC 0 (by decide)) rfl) pa_nil))) (pa_cons (pe_callB call_isX (by rfl) mi (by decide +kernel) (pa_cons (pv 0) (pa_cons (pe_glob (v := .ref (cs 1)) rfl (T.gC 1 (by decide)) rfl) pa_nil))) (pa_cons (pe_callB call_isX (by rfl) mi (by decide +kernel) (pa_cons (pv 0) (pa_cons (pe_glob (v := .ref (cs 2)) rfl (T.gC 2 (by decide)) rfl) pa_nil))) pa_nil)))))
    (pss_cons (ps_set (i := 1) scSorts.nd rfl (.inl rfl) (pe_op op_cat (pv 1) (pe_lst (pa_cons (pe_callB call_isX (by rfl) mi (by decide +kernel) (pa_cons (pv 0) (pa_cons (pe_glob (v := .ref (cs 3)) rfl (T.gC 3 (by decide)) rfl) pa_nil))) (pa_cons (pe_callB call_isX (by rfl) mi (by decide +kernel) (pa_cons (pv 0) (pa_cons (pe_glob (v := .ref (cs 4)) rfl (T.gC 4 (by decide)) rfl) pa_nil))) (pa_cons (pe_callB call_isX (by rfl) mi (by decide +kernel) (pa_cons (pv 0) (pa_cons (pe_glob (v := .ref (cs 5)) rfl (T.gC 5 (by decide)) rfl) pa_nil))) pa_nil))))))
    (pss_cons (ps_set (i := 1) scSorts.nd rfl (.inl rfl) (pe_op op_cat (pv 1) (pe_lst (pa_cons (pe_callB call_isX (by rfl) mi (by decide +kernel) (pa_cons (pv 0) (pa_cons (pe_glob (v := .ref (cs 6)) rfl (T.gC 6 (by decide)) rfl) pa_nil))) (pa_cons (pe_callB call_isX (by rfl) mi (by decide +kernel) (pa_cons (pv 0) (pa_cons (pe_glob (v := .ref (cs 7)) rfl (T.gC 7 (by decide)) rfl) pa_nil))) (pa_cons (pe_callB call_isX (by rfl) mi (by decide +kernel) (pa_cons (pv 0) (pa_cons (pe_glob (v := .ref (cs 8)) rfl (T.gC 8 (by decide)) rfl) pa_nil))) pa_nil))))))
    (pss_one (ps_ret (pe_lc (own := [("_law_spot", 2), ("_law_is_so", 3)]) (g := gTup K 2 (gCons (gName 2) (gCons (gName 3) gNil))) (tt := tB (tVar 3)) (te := tVar 2) (by rfl) scSorts.nd (pi_enum (by rfl) me (pa_cons (pv 1) pa_nil)) (blkOk_by (N := nsSorts) (sc := defScope sSorts) (by decide +kernel))
      (fun _ _ _ _ _ => pg_tup rfl (pgs_cons (pg_name (i := 2) scSorts.nd rfl (.inl rfl)) (pgs_cons (pg_name (i := 3) scSorts.nd rfl (.inl rfl)) pgs_nil))) (fun _ _ _ _ _ => pts_one (pt_val (pv 3))) (fun _ _ _ _ _ => pv 2)))))), ?_⟩
  refine ⟨_, rfl, e, cs i, _, _, _, rfl, .own _, T.ec i hi, m.obj (K := K), T.kit i 0 hi (by decide), _, rfl, e, cs i, _, _, _, rfl, .own _, T.ec i hi, m.obj (K := K), T.kit i 1 hi (by decide), _, rfl, e, cs i, _, _, _, rfl, .own _, T.ec i hi, m.obj (K := K), T.kit i 2 hi (by decide), (by show 3 ≤ sizeLine; decide), fun p1 n1 => ?_⟩
  have s1 := Same.new n1 (.lst [.bl (decide (i = 0)), .bl (decide (i = 1)), .bl (decide (i = 2))])
  refine ⟨_, rfl, _, rfl, e, cs i, _, _, _, rfl, .own _, T.ec i hi, (m.same s1).obj (K := K), T.kit i 3 hi (by decide), _, rfl, e, cs i, _, _, _, rfl, .own _, T.ec i hi, (m.same s1).obj (K := K), T.kit i 4 hi (by decide), _, rfl, e, cs i, _, _, _, rfl, .own _, T.ec i hi, (m.same s1).obj (K := K), T.kit i 5 hi (by decide), (by show 3 ≤ sizeLine; decide), fun p2 n2 => ?_⟩
  have s2 := Same.new n2 (.lst [.bl (decide (i = 3)), .bl (decide (i = 4)), .bl (decide (i = 5))])
  refine ⟨p1, p2, _, _, rfl, rfl, s2 _ _ upd_same, upd_same, (by show 6 ≤ sizeLine; decide), fun p3 n3 => ?_⟩
  have s3 := Same.new n3 (.lst ([.bl (decide (i = 0)), .bl (decide (i = 1)), .bl (decide (i = 2))] ++ [.bl (decide (i = 3)), .bl (decide (i = 4)), .bl (decide (i = 5))]))
  refine ⟨_, rfl, _, rfl, e, cs i, _, _, _, rfl, .own _, T.ec i hi, (m.same (s1.trans (s2.trans s3))).obj (K := K), T.kit i 6 hi (by decide), _, rfl, e, cs i, _, _, _, rfl, .own _, T.ec i hi, (m.same (s1.trans (s2.trans s3))).obj (K := K), T.kit i 7 hi (by decide), _, rfl, e, cs i, _, _, _, rfl, .own _, T.ec i hi, (m.same (s1.trans (s2.trans s3))).obj (K := K), T.kit i 8 hi (by decide), (by show 3 ≤ sizeLine; decide), fun p4 n4 => ?_⟩
  have s4 := Same.new n4 (.lst [.bl (decide (i = 6)), .bl (decide (i = 7)), .bl (decide (i = 8))])
  refine ⟨p3, p4, _, _, rfl, rfl, s4 _ _ upd_same, upd_same, (by show 9 ≤ sizeLine; decide), fun p5 n5 => ?_⟩
  have s5 := Same.new n5 (.lst (([.bl (decide (i = 0)), .bl (decide (i = 1)), .bl (decide (i = 2))] ++ [.bl (decide (i = 3)), .bl (decide (i = 4)), .bl (decide (i = 5))]) ++ [.bl (decide (i = 6)), .bl (decide (i = 7)), .bl (decide (i = 8))]))
  have all := s1.trans (s2.trans (s3.trans (s4.trans s5)))
  refine ⟨_, rfl, p5, _, rfl, SqL.of upd_same, fun D nD => lc_it (walk_enum (K := K) (a := p5) (xs := (List.range 9).map fun j => V.bl (decide (i = j)))) (fun t H' => H' D = some (.lst (if i < t then [.int i] else [])) ∧ H' p5 = some (.lst ((List.range 9).map fun j => V.bl (decide (i = j)))) ∧ Same H H') ?_ ?_ ?_ ?_⟩
  · refine ⟨?_, ?_, all.trans (Same.new nD _)⟩
    · rw [if_neg (Nat.not_lt_zero i)]
      exact upd_same
    · rw [upd_ne (ne_of_none upd_same nD)]
      exact upd_same
  · exact fun t H' _ h => SqL.of h.2.1
  · rintro t x H1 H' ht ⟨e1, e2, e3⟩ ⟨Tp, x1, x2, rfl, nT, rfl, hx1, hx2⟩
    have t9 : t < 9 := by simpa using ht
    obtain rfl : V.int (t : Nat) = x1 := Option.some.inj hx1
    obtain rfl : V.bl (decide (i = t)) = x2 := by
      dsimp only at hx2
      rw [List.getElem?_map, List.getElem?_range t9] at hx2
      exact Option.some.inj hx2
    have sT := Same.new nT (.tup [.int (t : Nat), .bl (decide (i = t))])
    refine ⟨Tp, _, rfl, SqT.of upd_same, rfl, _, _, rfl, _, _, rfl, rfl, rfl, _, rfl, _, rfl, ?_⟩
    by_cases c : i = t
    · subst c
      refine if_true_of (decide_eq_true rfl) ⟨_, rfl, _, sT _ _ e1, ?_, ?_, ?_, ?_⟩
      · rw [if_neg (Nat.lt_irrefl i), sizeLine_eq]
        decide
      · rw [upd_same, if_neg (Nat.lt_irrefl i), if_pos (Nat.lt_succ_self i)]
        rfl
      · rw [upd_ne (ne_of e2 e1 (fun z => ?_))]
        · exact sT _ _ e2
        · rw [if_neg (Nat.lt_irrefl i)] at z
          cases z
      · intro b o h
        rw [upd_ne (fun z => ?_)]
        · exact sT _ _ (e3 b o h)
        · have d := e3 b o h
          have n := (all.free nD)
          rw [← z, h] at n
          cases n
    · refine if_false_of (decide_eq_false c) ⟨?_, sT _ _ e2, e3.trans sT⟩
      rw [sT _ _ e1]
      by_cases l : i < t
      · rw [if_pos l, if_pos (Nat.lt_succ_of_lt l)]
      · rw [if_neg l, if_neg (by omega)]
  · rintro H' ⟨e1, e2, e3⟩
    refine q D H' (all.free nD) ?_ e3
    rw [e1, if_pos (by simpa using hi)]

/-- _law_is_kept(e, i, value): e keeps this very value -/
def spKept (K : PySem.W.Frag) (cs : Nat → Addr) : Sp := fun vs H Q _ => ∃ (e : Addr) (i : Nat) (y : V) (d : PyData), vs = [.ref e, .int i, y] ∧ i < 7 ∧ MadeE cs i H e y ∧ Dp K H y d ∧ Fine 10000 20 d ∧ Q (.bl true) H
theorem scKept : FnScope ["_law_e", "_law_spot", "_law_value"] ["_law_e", "_law_spot", "_law_value"] (defScope sKept) := ⟨rfl, rfl, rfl, by decide +kernel, rfl, by decide +kernel, by decide +kernel⟩
theorem ok_kept {f : Addr} {fd : FuncData} (F0 : Fun K "_law_is_kept" "_law_is_kept" sKept f fd) (T : Txt K mg cs is ts) (mr : mg "repr" = none) : FnG P w K mg base CX0 1 f fd ["_law_e", "_law_spot", "_law_value"] (spKept K cs) := by
  refine okG F0 scKept (fun vs H Q E h => ?_) (fun cdv A outer s H vs Q E gd hr h => ?_)
  · obtain ⟨e, i, y, d, rfl, _⟩ := h
    rfl
  obtain ⟨e, i, y, d, rfl, hi, m, dp, fine, q⟩ := h
  have hu := hr.units
  refine ⟨_, pss_cons (ps_if (pt_cmpR op_lt (pv 1) pe_int (nomark _))
      (pss_one (ps_ret (pe_cmpR op_eq (pe_callB (call_repr gd hu) (by rfl) mr (by decide +kernel) (pa_cons (pe_getX (pv 0) rfl) pa_nil)) (pe_callB (call_repr gd hu) (by rfl) mr (by decide +kernel) (pa_cons (pv 2) pa_nil)) (nomark _)))) pss_nil)
    (pss_one (ps_ret (pe_cmpR op_eq (pe_callB (call_repr gd hu) (by rfl) mr (by decide +kernel) (pa_cons (pe_ifExp (pt_cmpR op_eq (pv 1) pe_int (nomark _)) (pe_getX (pv 0) rfl) (pe_getX (pv 0) rfl)) pa_nil)) (pe_callB (call_repr gd hu) (by rfl) mr (by decide +kernel) (pa_cons (pv 2) pa_nil)) (nomark _)))), ?_⟩
  rcases m with ⟨_, dx, ea, ed⟩ | ⟨i7, _⟩
  · have sz : d.shown.length + 64 ≤ sizeLine := by
      have := fine.len
      rw [sizeLine_eq]
      omega
    have dep : d.depth ≤ 60 := Nat.le_trans fine.dep (by decide)
    have fin : Q (.bl (decide (V.str d.shown = V.str d.shown))) H := by
      rw [decide_eq_true rfl]
      exact q
    have field : ∀ {g : Str}, fld i = g → H dx = some (exd dx [(g, y)]) := fun z => by rw [← z]; exact ed
    have none_ : ∀ {g : Str}, fld i = g → PySem.W.findIn K (.ref (cs i)) g = some none := fun z => by rw [← z]; exact T.no i hi
    refine ⟨_, rfl, _, _, rfl, rfl, _, rfl, ite2 (fun c => ?_) (fun c => ?_)⟩
    · have c' : (i : Int) < 5 := of_decide_eq_true c
      have f : fld i = "at" := if_pos (by omega)
      exact ⟨_, rfl, e, cs i, dx, y, rfl, ea, field f, T.xf i hi, none_ f, y, d, rfl, dp, fine.shows, fine.plain, dep, sz, _, rfl, y, d, rfl, dp, fine.shows, fine.plain, dep, sz, rfl, fin⟩
    · have c' : ¬ (i : Int) < 5 := fun z => c (decide_eq_true z)
      refine ⟨_, rfl, rfl, _, rfl, ite2 (fun c2 => ?_) (fun c2 => ?_)⟩
      · have c3 : (i : Int) = 5 := V.int.inj (of_decide_eq_true c2)
        have f : fld i = "word" := by
          unfold fld
          rw [if_neg (by omega), if_pos (by omega)]
        exact ⟨_, rfl, e, cs i, dx, y, rfl, ea, field f, T.xf i hi, none_ f, y, d, rfl, dp, fine.shows, fine.plain, dep, sz, _, rfl, y, d, rfl, dp, fine.shows, fine.plain, dep, sz, rfl, fin⟩
      · have c3 : (i : Int) ≠ 5 := fun z => c2 (decide_eq_true (congrArg V.int z))
        have f : fld i = "name" := by
          unfold fld
          rw [if_neg (by omega), if_neg (by omega)]
        exact ⟨_, rfl, e, cs i, dx, y, rfl, ea, field f, T.xf i hi, none_ f, y, d, rfl, dp, fine.shows, fine.plain, dep, sz, _, rfl, y, d, rfl, dp, fine.shows, fine.plain, dep, sz, rfl, fin⟩
  · omega

end
end K01
set_option Elab.async false
set_option maxRecDepth 100000
set_option maxHeartbeats 16000000
namespace K01
open PySem PySem.Spec PyProof.Rows L2 Tk
theorem shaped1 : ∀ i : Nat, i < 9 → SeqAt.shaped (.list [.int (i : Int)]) = true := by decide +kernel
theorem eqv1 : ∀ i : Nat, i < 9 → PyData.eqv (.list [.int (i : Int)]) (.list [.int (i : Int)]) = true := fun i h => SeqAt.eqv_refl _ (SeqAt.canLay_of_shaped (shaped1 i h))
theorem keep_seq {K : PySem.W.Frag} {H H' : Hp} {a : Addr} {xs : List V} (e : Same H H') (h : SqL K H a xs) : SqL K H' a xs := e.seq h
theorem But.same {b : Addr} {H0 H H' : Hp} (s : Same H0 H) (n : H0 b = none) (e : But b H H') : Same H0 H' := fun c o h => e c o (ne_of_none h n) (s c o h)
theorem ne6 : ∀ i : Nat, i < 9 → (!decide (V.bl (decide (i ≠ 6)) = V.bl (!decide (V.int (i : Int) = V.int 6)))) = false := by decide +kernel
theorem Box.same {H H' : Hp} {b : Addr} (h : Box H b) (s : Same H H') : Box H' b := by
  obtain ⟨x, y, z, e, r⟩ := h
  exact ⟨x, y, z, s _ _ e, r⟩
theorem kitK6 {K : PySem.W.Frag} {mg : Str → Option Value} {cs is : Nat → Addr} {ts : Addr} {i : Nat} (T : Txt K mg cs is ts) (h : (i : Int) = 6) : PySem.W.kitOne K (.ref (cs i)) (.type "KeyError") = some true := by
  obtain rfl : i = 6 := by omega
  exact T.kitK
def spLaw (K : PySem.W.Frag) : Sp := fun vs H Q _ => ∃ (a : Addr) (ns : List Int), vs = [.ref a] ∧ SqL K H a (ns.map V.int) ∧ ns.length ≤ 63 ∧ ∀ H', Q (.bl true) H'
section
variable {P : Program} {w : World} {K : PySem.W.Frag} {mg : Str → Option Value} {base : Heap} {cs is : Nat → Addr} {ts : Addr}
/-- the law's defs as they stand -/
structure Defs (P : Program) (w : World) (K : PySem.W.Frag) (mg : Str → Option Value) (base : Heap) (cs : Nat → Addr) : Prop where
  box : ∃ f fd, FnOk P w K mg base CX0 1 f fd ["_law_script", "_law_k"] (spBox K) ∧ Binds K fd ["_law_script", "_law_k"] [] ∧ PySem.W.keepIn K (.ref f) = true ∧ mg "_law_box" = some (.ref f)
  any : ∃ f fd, (∀ n, FnOk P w K mg base CX0 (n + 2) f fd ["_law_box_here", "_law_deep"] (spAny n)) ∧ Binds K fd ["_law_box_here", "_law_deep"] [] ∧ PySem.W.keepIn K (.ref f) = true ∧ mg "_law_any" = some (.ref f)
  made : ∃ f fd, FnOk P w K mg base CX0 3 f fd ["_law_spot", "_law_value"] (spMade cs 9) ∧ Binds K fd ["_law_spot", "_law_value"] [] ∧ PySem.W.keepIn K (.ref f) = true ∧ mg "_law_made" = some (.ref f)
  named : ∃ f fd, FnOk P w K mg base CX0 3 f fd ["_law_spot", "_law_value"] (spMade cs 7) ∧ Binds K fd ["_law_spot", "_law_value"] [] ∧ PySem.W.keepIn K (.ref f) = true ∧ mg "_law_named" = some (.ref f)
  sorts : ∃ f fd, FnOk P w K mg base CX0 1 f fd ["_law_e"] (spSorts cs) ∧ Binds K fd ["_law_e"] [] ∧ PySem.W.keepIn K (.ref f) = true ∧ mg "_law_sorts" = some (.ref f)
  kept : ∃ f fd, FnG P w K mg base CX0 1 f fd ["_law_e", "_law_spot", "_law_value"] (spKept K cs) ∧ Binds K fd ["_law_e", "_law_spot", "_law_value"] [] ∧ PySem.W.keepIn K (.ref f) = true ∧ mg "_law_is_kept" = some (.ref f)
theorem scLaw : FnScope ["_law_script", "_law_k", "_law_box_here", "_law_spot", "_law_value", "_law_e", "_law_told"] ["_law_script"] (defScope sLaw) := ⟨rfl, rfl, rfl, by decide +kernel, rfl, by decide +kernel, by decide +kernel⟩
theorem ok_law {f : Addr} {fd : FuncData} (F0 : Fun K "law" "law" sLaw f fd) (T : Txt K mg cs is ts) (D : Defs P w K mg base cs) (mr : mg "range" = none) (mx : mg "max" = none) (mn : mg "min" = none) (ml : mg "len" = none) (mi : mg "isinstance" = none) (mv : mg "ValueError" = none) (mk : mg "KeyError" = none) :
    FnG P w K mg base CX0 7 f fd ["_law_script"] (spLaw K) := by
  obtain ⟨fb, db, GB, bB, kB, mB⟩ := D.box
  obtain ⟨fa, da, GA, bA, kA, mA⟩ := D.any
  obtain ⟨fm, dm, GM, bM, kM, mM⟩ := D.made
  obtain ⟨fn, dn, GN, bN, kN, mN⟩ := D.named
  obtain ⟨fs, ds, GS, bS, kS, mS⟩ := D.sorts
  obtain ⟨fk, dk, GK, bK, kK, mK⟩ := D.kept
  refine okG F0 scLaw (fun vs H Q E h => ?_) (fun cdv A outer s H0 vs Q E gd hr h => ?_)
  · obtain ⟨a, ns, rfl, _⟩ := h
    rfl
  obtain ⟨a, ns, rfl, hS, h63, q⟩ := h
  have hr1 : Room 1 _ := hr.mono (by decide)
  have hr3 : Room 3 _ := hr.mono (by decide)
  have hr4 : Room 4 _ := hr.mono (by decide)
  have hr6 : Room 6 _ := hr.mono (by decide)
  have hu := hr.units
  refine ⟨_, pss_cons (ps_for PassesOwn.never rfl (pi_range1 (by rfl) mr (pa_cons (pe_callB (call_max2 rfl) (by rfl) mx (by decide +kernel) (pa_cons pe_int (pa_cons (pe_callB (call_min2 rfl) (by rfl) mn (by decide +kernel) (pa_cons pe_int (pa_cons (pe_callB call_len_seq rfl ml PySem.boot_len (pa_cons (pv 0) pa_nil)) pa_nil))) pa_nil))) pa_nil)) (pg_name (i := 1) scLaw.nd rfl (.inl rfl))
      (pss_cons (ps_set (i := 2) scLaw.nd rfl (.inl rfl) (pe_call GB hr1 rfl mB kB bB .nil pass0 (pa_cons (pv 0) (pa_cons (pv 1) pa_nil))))
      (pss_one (ps_for PassesOwn.never rfl (pi_range1 (by rfl) mr (pa_cons pe_int pa_nil)) (pg_name (i := 3) scLaw.nd rfl (.inl rfl))
        (pss_cons (ps_set (i := 4) scLaw.nd rfl (.inl rfl) (pe_call (GA 4) hr6 rfl mA kA bA .nil pass0 (pa_cons (pv 2) (pa_cons pe_int pa_nil))))
        (pss_cons (ps_set (i := 5) scLaw.nd rfl (.inl rfl) (pe_call GM hr3 rfl mM kM bM .nil pass0 (pa_cons (pv 3) (pa_cons (pv 4) pa_nil))))
        (pss_cons (ps_if (PW.pt (pw_or (pt_cmpR (op_neD hu) (pe_call GS hr1 rfl mS kS bS .nil pass0 (pa_cons (pv 5) pa_nil)) (pe_lst (pa_cons (pv 3) pa_nil)) (nomark _))
            (pw_or1 (pt_cmpR op_ne (pe_callB call_isX (by rfl) mi (by decide +kernel) (pa_cons (pv 5) (pa_cons (pe_glob (v := .ref ts) rfl T.gT rfl) pa_nil))) (pe_cmpR op_ne (pv 3) pe_int (nomark _)) (nomark _)))))
          (pss_one (ps_ret pe_bl)) pss_nil)
        (pss_cons (ps_if (PW.pt (pw_and (pt_val (pe_callB call_isX (by rfl) mi (by decide +kernel) (pa_cons (pv 5) (pa_cons (pe_glob (v := .ref ts) rfl T.gT rfl) pa_nil)))) (pw_and1 (pt_not (pt_val (pe_callB call_isX (by rfl) mi (by decide +kernel) (pa_cons (pv 5) (pa_cons (pe_bltn (v := .ty "ValueError") rfl mv (by decide +kernel) rfl) pa_nil))))))))
          (pss_one (ps_ret pe_bl)) pss_nil)
        (pss_cons (ps_if (PW.pt (pw_and (pt_cmpR op_eq (pv 3) pe_int (nomark _)) (pw_and1 (pt_not (pt_val (pe_callB call_isX (by rfl) mi (by decide +kernel) (pa_cons (pv 5) (pa_cons (pe_bltn (v := .ty "KeyError") rfl mk (by decide +kernel) rfl) pa_nil))))))))
          (pss_one (ps_ret pe_bl)) pss_nil)
        (pss_cons (ps_if (pt_cmpR op_gt (pv 3) pe_int (nomark _)) (pss_one ps_continue) pss_nil)
        (pss_cons (ps_if (PW.pt (pw_or (pt_not (pt_val (pe_callG GK gd hr1 rfl mK kK bK .nil pass0 (pa_cons (pv 5) (pa_cons (pv 3) (pa_cons (pv 4) pa_nil))))))
            (pw_or1 (pt_not (pt_val (pe_callG GK gd hr1 rfl mK kK bK .nil pass0 (pa_cons (pe_call GN hr3 rfl mN kN bN .nil pass0 (pa_cons (pv 3) (pa_cons (pv 4) pa_nil))) (pa_cons (pv 3) (pa_cons (pv 4) pa_nil)))))))))
          (pss_one (ps_ret pe_bl)) pss_nil)
        (pss_cons (ps_set (i := 6) scLaw.nd rfl (.inl rfl) (pe_lst (pa_cons (pe_call (GA 2) hr4 rfl mA kA bA .nil pass0 (pa_cons (pv 2) (pa_cons pe_int pa_nil))) pa_nil)))
        (pss_cons (ps_set (i := 5) scLaw.nd rfl (.inl rfl) (pe_call GM hr3 rfl mM kM bM .nil pass0 (pa_cons (pv 3) (pa_cons (pv 6) pa_nil))))
        (pss_cons (ps_if (pt_not (pt_val (pe_callG GK gd hr1 rfl mK kK bK .nil pass0 (pa_cons (pv 5) (pa_cons (pv 3) (pa_cons (pv 6) pa_nil)))))) (pss_one (ps_ret pe_bl)) pss_nil)
        (pss_cons (ps_expr (pe_bm PySem.F.plainAttrs_list PySem.F.slot_list_append PySem.F.type_list_append mt_append (pv 6) (pa_cons pe_str pa_nil)))
        (pss_one (ps_if (pt_not (pt_val (pe_callG GK gd hr1 rfl mK kK bK .nil pass0 (pa_cons (pv 5) (pa_cons (pv 3) (pa_cons (pv 6) pa_nil)))))) (pss_one (ps_ret pe_bl)) pss_nil)))))))))))))))))
    (pss_one (ps_ret pe_bl)), ?_⟩
  have len : (ns.map V.int).length = ns.length := List.length_map _
  refine ⟨_, rfl, a, _, rfl, .inl hS, _, _, rfl, _, _, rfl, ?_⟩
  have top : ∀ L : Int, 0 ≤ L → 0 ≤ (if (if L < 5 then L else 5) > 1 then (if L < 5 then L else 5) else 1) ∧ (if (if L < 5 then L else 5) > 1 then (if L < 5 then L else 5) else 1) ≤ 5 := fun L h => by
    split <;> split <;> omega
  have tp := top ((ns.map V.int).length : Int) (by omega)
  refine ⟨_, rfl, Int.le_trans (by decide) tp.1, Int.lt_of_le_of_lt tp.2 (by decide), for_range (lo := 0) (fun i σ H => ∃ v1 v2 v3 v4 v5 v6, σ = [some (.ref a), v1, v2, v3, v4, v5, v6] ∧ Same H0 H) ⟨none, none, none, none, none, none, rfl, Same.refl _⟩ ?_ ?_⟩
  · rintro k σ H hk ⟨v1, v2, v3, v4, v5, v6, rfl, sm0⟩
    refine ⟨_, rfl, _, rfl, a, ns, _, rfl, sm0.seq hS, h63, by omega, by omega, fun b H1 nb hb sm1 => ?_⟩
    have sB : Same H0 H1 := sm0.trans sm1
    have n0 : H0 b = none := sm0.free nb
    refine ⟨_, rfl, by decide, by decide, for_range (lo := 0) (fun i σ H => ∃ v3 v4 v5 v6, σ = [some (.ref a), some (.int (0 + k)), some (.ref b), v3, v4, v5, v6] ∧ Same H0 H ∧ Box H b) ⟨v3, v4, v5, v6, rfl, sB, hb⟩ ?_ ?_⟩
    · rintro i σ H2 hi ⟨w3, w4, w5, w6, rfl, sm2, hb2⟩
      have i9 : i < 9 := hi
      have ez : (0 : Int) + (i : Int) = i := Int.zero_add _
      rw [ez]
      refine ⟨_, rfl, b, rfl, hb2, fun v d H3 hb3 but3 da fine => ?_⟩
      have sm3 := But.same sm2 n0 but3
      refine ⟨_, rfl, _, rfl, i, v, rfl, i9, fun e H4 ne m4 s4 => ?_⟩
      refine ⟨_, rfl, e, i, v, rfl, i9, m4, fun p H5 np hp s5 => ⟨_, rfl, (by show 1 ≤ sizeLine; decide), fun p2 n2 => ?_⟩⟩
      have s6 := Same.new n2 (.lst [.int i])
      refine ⟨.list [.int i], .list [.int i], .lst (SqL.of (s6 _ _ hp)) (.cons (.int _) .nil), .lst (SqL.of upd_same) (.cons (.int _) .nil), shaped1 i i9, shaped1 i i9, _, rfl, ?_⟩
      refine if_false_of (by rw [eqv1 i i9]; rfl) ?_
      have s46 := s4.trans (s5.trans s6)
      have m6 := m4.same (s5.trans s6)
      have ob : _ := m6.obj (K := K)
      refine ⟨_, rfl, e, cs i, _, _, _, rfl, .own _, T.ec i i9, ob, T.kitT i i9, _, rfl, rfl, rfl, _, rfl, if_false_of (ne6 i i9) ?_⟩
      refine (fun rest => ⟨_, rfl, e, cs i, _, _, _, rfl, .own _, T.ec i i9, ob, T.kitT i i9, _, rfl, ite2 (fun c => ⟨_, rfl, e, cs i, _, _, _, rfl, .ty _, T.ec i i9, ob, T.kitV i i9, _, rfl, if_false_of (by rw [c]; rfl) rest⟩) (fun _ => rest)⟩) ?_
      refine (fun rest => ⟨_, rfl, rfl, _, rfl, ite2 (fun c => ⟨_, rfl, e, cs i, _, _, true, rfl, .ty _, T.ec i i9, ob, kitK6 T (V.int.inj (of_decide_eq_true c)), _, rfl, if_false_of rfl rest⟩) (fun _ => rest)⟩) ?_
      refine ⟨_, rfl, _, _, rfl, rfl, _, rfl, ite2 (fun _ => ⟨_, _, _, _, rfl, sm3.trans s46, hb3.same s46⟩) (fun c => ?_)⟩
      have i7 : i < 7 := by
        have : ¬ (6 : Int) < i := fun z => c (decide_eq_true z)
        omega
      have fv : Fine 10000 20 d := fine.mono (by decide) (by decide)
      have da6 := Da.to (H' := upd H5 p2 (.lst [.int i])) (fun b o _ h => s46 b o h) d v da
      refine ⟨_, rfl, _, rfl, _, rfl, e, i, v, d, rfl, i7, m6, da6.dp, fv, true, rfl, if_false_of rfl ?_⟩
      refine ⟨_, rfl, _, rfl, i, v, rfl, i7, fun e2 H7 ne2 m7 s7 => ?_⟩
      refine ⟨_, rfl, _, rfl, e2, i, v, d, rfl, i7, m7, (Da.to (fun b o _ h => s7 b o h) d v da6).dp, fv, true, rfl, if_false_of rfl ?_⟩
      have hb7 := (hb3.same s46).same s7
      have sm7 := (sm3.trans s46).trans s7
      refine ⟨_, rfl, b, rfl, hb7, fun v1 d1 H8 hb8 but8 da1 fine1 => ⟨(by show 1 ≤ sizeLine; decide), fun pt nt => ?_⟩⟩
      have sm8 := But.same sm7 n0 but8
      have s9 := Same.new nt (.lst [v1])
      refine ⟨_, rfl, _, rfl, i, .ref pt, rfl, i9, fun e3 H10 ne3 m10 s10 => ?_⟩
      have ht := s10 _ _ upd_same
      have keep1 : ∀ H' : Hp, (∀ c o, H8 c = some o → H' c = some o) → Dp K H' v1 d1 := fun H' k => (Da.to (fun c o _ h => k c o h) d1 v1 da1).dp
      have k10 : ∀ c o, H8 c = some o → H10 c = some o := fun c o h => s10 _ _ (s9 _ _ h)
      have f1 : Fine 10000 20 (.list [d1]) := (Fine.list (m := big 1) (k := 2) (fun d' hd => by rw [List.mem_singleton.mp hd]; exact fine1)).mono (by show (big 1 + 2) * 1 + 2 ≤ 10000; decide) (by decide)
      have more : Fine 9 2 (.str "more") := ⟨rfl, rfl, by decide, by decide +kernel⟩
      have f2 : Fine 10000 20 (.list [d1, .str "more"]) := (Fine.list (m := big 1) (k := 2) (fun d' hd => by
        rcases List.mem_cons.mp hd with rfl | hd
        · exact fine1
        · rw [List.mem_singleton.mp hd]
          exact more.mono (by decide) (by decide))).mono (by show (big 1 + 2) * 2 + 2 ≤ 10000; decide) (by decide)
      refine ⟨_, rfl, _, rfl, _, rfl, e3, i, .ref pt, .list [d1], rfl, i7, m10, .lst (SqL.of ht) (.cons (keep1 H10 k10) .nil), f1, true, rfl, if_false_of rfl ?_⟩
      refine ⟨_, rfl, .inl ⟨rfl, _, SqL.of ht⟩, pt, _, _, rfl, rfl, ht, (by show 1 < sizeLine; rw [sizeLine_eq]; decide), ?_⟩
      have off : ∀ c o, H8 c = some o → upd H10 pt (.lst ([v1] ++ [.str "more"])) c = some o := fun c o h => by
        rw [upd_ne (ne_of_none h nt)]
        exact k10 c o h
      have m11 : MadeE cs i (upd H10 pt (.lst ([v1] ++ [.str "more"]))) e3 (.ref pt) := by
        rcases m10 with ⟨h, dx, ea, ed⟩ | ⟨h, ea⟩
        · refine .inl ⟨h, dx, ?_, ?_⟩
          · rw [upd_ne (ne_of ea ht (fun z => by cases z))]
            exact ea
          · rw [upd_ne (ne_of ed ht (fun z => by cases z))]
            exact ed
        · omega
      refine ⟨_, rfl, _, rfl, _, rfl, e3, i, .ref pt, .list [d1, .str "more"], rfl, i7, m11, .lst (SqL.of upd_same) (.cons (keep1 _ off) (.cons (.str _) .nil)), f2, true, rfl, if_false_of rfl ?_⟩
      refine ⟨_, _, _, _, rfl, fun c o h => off c o (sm8 c o h), ?_⟩
      obtain ⟨x, y, z, eb, r⟩ := hb8
      exact ⟨x, y, z, off _ _ eb, r⟩
    · rintro σ H2 ⟨w3, w4, w5, w6, rfl, sm2, hb2⟩
      exact ⟨_, _, _, _, _, _, rfl, sm2⟩
  · rintro σ H ⟨v1, v2, v3, v4, v5, v6, rfl, sm0⟩
    exact q H
end
end K01
set_option Elab.async false
set_option maxRecDepth 100000
set_option maxHeartbeats 16000000
namespace K01
open PySem PySem.Spec PyProof.Rows L2 Tk
theorem kit_self {K : PySem.W.Frag} {c : Addr} : PySem.W.kitOne K (.ref c) (.ref c) = some true := by
  unfold PySem.W.kitOne
  rw [if_pos (by simp)]
theorem tailVE {ct : Addr} : PySem.HandSPX.Tail [.ref ct, .type "ValueError", .type "Exception", .type "BaseException", .type "object"] "ValueError" :=
  ⟨(PySem.HandSPX.refsVE_contains _ _ rfl).trans (by decide +kernel), (PySem.HandSPX.refsVE_contains _ _ rfl).trans (by decide +kernel), (PySem.HandSPX.refsVE_contains _ _ rfl).trans (by decide +kernel)⟩
theorem tailKE : PySem.HandSPX.Tail [.type "KeyError", .type "LookupError", .type "Exception", .type "BaseException", .type "object"] "LookupError" := ⟨by decide +kernel, by decide +kernel, by decide +kernel⟩
theorem obVE {c ct : Addr} : (Value.ref c :: [.ref ct, .type "ValueError", .type "Exception", .type "BaseException", .type "object"]).contains (.type "object") = true := (PySem.HandSPX.refsVE_contains "object" _ rfl).trans (by decide +kernel)
theorem obKE {c : Addr} : (Value.ref c :: [.type "KeyError", .type "LookupError", .type "Exception", .type "BaseException", .type "object"]).contains (.type "object") = true := by
  rw [List.contains_cons, show ([.type "KeyError", .type "LookupError", .type "Exception", .type "BaseException", .type "object"] : List Value).contains (.type "object") = true by decide +kernel, Bool.or_true]
theorem passKE {c : Addr} (self : Value) : refuseLoop self "__setattr__" (.ref c :: [.type "KeyError", .type "LookupError", .type "Exception", .type "BaseException", .type "object"]) = pure () := by
  rw [refuseLoop_ref]
  kernel_rfl
theorem nine {p : Nat → Prop} (h0 : p 0) (h1 : p 1) (h2 : p 2) (h3 : p 3) (h4 : p 4) (h5 : p 5) (h6 : p 6) (h7 : p 7) (h8 : p 8) : ∀ i, i < 9 → p i
  | 0, _ => h0 | 1, _ => h1 | 2, _ => h2 | 3, _ => h3 | 4, _ => h4 | 5, _ => h5 | 6, _ => h6 | 7, _ => h7 | 8, _ => h8
  | n + 9, h => absurd h (by omega)
theorem seven {p : Nat → Prop} (h0 : p 0) (h1 : p 1) (h2 : p 2) (h3 : p 3) (h4 : p 4) (h5 : p 5) (h6 : p 6) : ∀ i, i < 7 → p i
  | 0, _ => h0 | 1, _ => h1 | 2, _ => h2 | 3, _ => h3 | 4, _ => h4 | 5, _ => h5 | 6, _ => h6
  | n + 7, h => absurd h (by omega)

theorem all_mk {l : PySem.W.OpenLaw} {w : World} {K : PySem.W.Frag} {h : Heap} {mg : Str → Option Value} {fa ct : Addr} {c0 c1 c2 c3 c4 c5 c6 c7 c8 : Addr} {f0 f1 f2 f3 f4 f5 f6 : Addr} (X : K.In h) (G : h.Ns mainGlobals mg) (hfa : mg "law" = some (.ref fa))
    {nm0 q0 : Str} {N0 : Addr} {bs0 : List Value} {sn0 : List Str} {sub0 : List Value} {ab0 : Bool} {col0 : Option Bool} {dd0 : Option Addr} {m00 m10 m20 m30 m50 : Option Value} {od0 an0 : Option Addr} {sl0 : Array (Option Value)} {oc0 kV0 dc0 pm0 cd0 ct0 : Value}
    {nm1 q1 : Str} {N1 : Addr} {bs1 : List Value} {sn1 : List Str} {sub1 : List Value} {ab1 : Bool} {col1 : Option Bool} {dd1 : Option Addr} {m01 m11 m21 m31 m51 : Option Value} {od1 an1 : Option Addr} {sl1 : Array (Option Value)} {oc1 kV1 dc1 pm1 cd1 ct1 : Value}
    {nm2 q2 : Str} {N2 : Addr} {bs2 : List Value} {sn2 : List Str} {sub2 : List Value} {ab2 : Bool} {col2 : Option Bool} {dd2 : Option Addr} {m02 m12 m22 m32 m52 : Option Value} {od2 an2 : Option Addr} {sl2 : Array (Option Value)} {oc2 kV2 dc2 pm2 cd2 ct2 : Value}
    {nm3 q3 : Str} {N3 : Addr} {bs3 : List Value} {sn3 : List Str} {sub3 : List Value} {ab3 : Bool} {col3 : Option Bool} {dd3 : Option Addr} {m03 m13 m23 m33 m53 : Option Value} {od3 an3 : Option Addr} {sl3 : Array (Option Value)} {oc3 kV3 dc3 pm3 cd3 ct3 : Value}
    {nm4 q4 : Str} {N4 : Addr} {bs4 : List Value} {sn4 : List Str} {sub4 : List Value} {ab4 : Bool} {col4 : Option Bool} {dd4 : Option Addr} {m04 m14 m24 m34 m54 : Option Value} {od4 an4 : Option Addr} {sl4 : Array (Option Value)} {oc4 kV4 dc4 pm4 cd4 ct4 : Value}
    {nm5 q5 : Str} {N5 : Addr} {bs5 : List Value} {sn5 : List Str} {sub5 : List Value} {ab5 : Bool} {col5 : Option Bool} {dd5 : Option Addr} {m05 m15 m25 m35 m55 : Option Value} {od5 an5 : Option Addr} {sl5 : Array (Option Value)} {oc5 kV5 dc5 pm5 cd5 ct5 : Value}
    {nm6 q6 : Str} {N6 : Addr} {bs6 : List Value} {sn6 : List Str} {sub6 : List Value} {ab6 : Bool} {col6 : Option Bool} {dd6 : Option Addr} {m06 m16 m26 m36 m56 : Option Value} {od6 an6 : Option Addr} {sl6 : Array (Option Value)} {oc6 kV6 dc6 pm6 cd6 ct6 : Value}
    {fBox : Addr} {odBox anBox : Option Addr} {slBox : Array (Option Value)} {ocBox kVBox dcBox pmBox cdBox ctBox : Value}
    {fTake : Addr} {odTake anTake : Option Addr} {slTake : Array (Option Value)} {ocTake kVTake dcTake pmTake cdTake ctTake : Value}
    {fPick : Addr} {odPick anPick : Option Addr} {slPick : Array (Option Value)} {ocPick kVPick dcPick pmPick cdPick ctPick : Value}
    {fAny : Addr} {odAny anAny : Option Addr} {slAny : Array (Option Value)} {ocAny kVAny dcAny pmAny cdAny ctAny : Value}
    {fMade : Addr} {odMade anMade : Option Addr} {slMade : Array (Option Value)} {ocMade kVMade dcMade pmMade cdMade ctMade : Value}
    {fNamed : Addr} {odNamed anNamed : Option Addr} {slNamed : Array (Option Value)} {ocNamed kVNamed dcNamed pmNamed cdNamed ctNamed : Value}
    {fSorts : Addr} {odSorts anSorts : Option Addr} {slSorts : Array (Option Value)} {ocSorts kVSorts dcSorts pmSorts cdSorts ctSorts : Value}
    {fKept : Addr} {odKept anKept : Option Addr} {slKept : Array (Option Value)} {ocKept kVKept dcKept pmKept cdKept ctKept : Value}
    {fLaw : Addr} {odLaw anLaw : Option Addr} {slLaw : Array (Option Value)} {ocLaw kVLaw dcLaw pmLaw cdLaw ctLaw : Value}
    (aC0 : PySem.W.nsIn K mainGlobals "InvalidText" = some (some (.ref c0)))
    (aC1 : PySem.W.nsIn K mainGlobals "InvalidTalk" = some (some (.ref c1)))
    (aC2 : PySem.W.nsIn K mainGlobals "InvalidRow" = some (some (.ref c2)))
    (aC3 : PySem.W.nsIn K mainGlobals "Refused" = some (some (.ref c3)))
    (aC4 : PySem.W.nsIn K mainGlobals "InvalidNumbers" = some (some (.ref c4)))
    (aC5 : PySem.W.nsIn K mainGlobals "InvalidBook" = some (some (.ref c5)))
    (aC6 : PySem.W.nsIn K mainGlobals "NoTalk" = some (some (.ref c6)))
    (aC7 : PySem.W.nsIn K mainGlobals "InvalidLot" = some (some (.ref c7)))
    (aC8 : PySem.W.nsIn K mainGlobals "InvalidCommand" = some (some (.ref c8)))
    (aT : PySem.W.nsIn K mainGlobals "TalkError" = some (some (.ref ct)))
    (xL0 : K.lookup c0 = some (excClassObj nm0 q0 c0 N0 bs0 [.ref ct, .type "ValueError", .type "Exception", .type "BaseException", .type "object"] true sn0 sub0 ab0 col0 dd0 m00 m10 m20 m30 m50 "ValueError.__new__"))
    (sa0 : PySem.W.findIn K (.ref c0) "__setattr__" = some (some (.builtin "object.__setattr__")))
    (no0 : PySem.W.findIn K (.ref c0) "at" = some none)
    (in0 : PySem.W.findIn K (.ref c0) "__init__" = some (some (.ref f0)))
    (ti0 : PySem.W.typeIn K (.ref f0) = some (.type "function"))
    (li0 : K.lookup f0 = some ⟨oc0, od0, .func (PySem.W.fnOf "__init__" "InvalidText.__init__" (defArgs (sInit 0)) (defBody (sInit 0)) (defScope (sInit 0)) .none kV0 dc0 pm0 an0 cd0 ct0), sl0⟩)
    (ci0 : PySem.W.codeIn K cd0 "InvalidText.__init__" = true)
    (ki0 : PySem.W.keepIn K (.ref f0) = true)
    (ga0 : PySem.W.findIn K (.ref c0) "__getattribute__" = some (some (.builtin "BaseException.__getattribute__")))
    (gg0 : PySem.W.findIn K (.ref c0) "__getattr__" = some none)
    (kC0 : PySem.W.keepIn K (.ref c0) = true)
    (eC0 : PySem.W.subIn K (.ref c0) (.type "BaseException") = some true)
    (hC0 : PySem.W.hasDictIn K c0 = true)
    (ha0 : PySem.W.findIn K (.ref c0) "__class__" = some (some (.builtin "object.__class__")))
    (hm0 : PySem.W.mroIn K c0 (.type "object") = some true)
    (xL1 : K.lookup c1 = some (excClassObj nm1 q1 c1 N1 bs1 [.ref ct, .type "ValueError", .type "Exception", .type "BaseException", .type "object"] true sn1 sub1 ab1 col1 dd1 m01 m11 m21 m31 m51 "ValueError.__new__"))
    (sa1 : PySem.W.findIn K (.ref c1) "__setattr__" = some (some (.builtin "object.__setattr__")))
    (no1 : PySem.W.findIn K (.ref c1) "at" = some none)
    (in1 : PySem.W.findIn K (.ref c1) "__init__" = some (some (.ref f1)))
    (ti1 : PySem.W.typeIn K (.ref f1) = some (.type "function"))
    (li1 : K.lookup f1 = some ⟨oc1, od1, .func (PySem.W.fnOf "__init__" "InvalidTalk.__init__" (defArgs (sInit 1)) (defBody (sInit 1)) (defScope (sInit 1)) .none kV1 dc1 pm1 an1 cd1 ct1), sl1⟩)
    (ci1 : PySem.W.codeIn K cd1 "InvalidTalk.__init__" = true)
    (ki1 : PySem.W.keepIn K (.ref f1) = true)
    (ga1 : PySem.W.findIn K (.ref c1) "__getattribute__" = some (some (.builtin "BaseException.__getattribute__")))
    (gg1 : PySem.W.findIn K (.ref c1) "__getattr__" = some none)
    (kC1 : PySem.W.keepIn K (.ref c1) = true)
    (eC1 : PySem.W.subIn K (.ref c1) (.type "BaseException") = some true)
    (hC1 : PySem.W.hasDictIn K c1 = true)
    (ha1 : PySem.W.findIn K (.ref c1) "__class__" = some (some (.builtin "object.__class__")))
    (hm1 : PySem.W.mroIn K c1 (.type "object") = some true)
    (xL2 : K.lookup c2 = some (excClassObj nm2 q2 c2 N2 bs2 [.ref ct, .type "ValueError", .type "Exception", .type "BaseException", .type "object"] true sn2 sub2 ab2 col2 dd2 m02 m12 m22 m32 m52 "ValueError.__new__"))
    (sa2 : PySem.W.findIn K (.ref c2) "__setattr__" = some (some (.builtin "object.__setattr__")))
    (no2 : PySem.W.findIn K (.ref c2) "at" = some none)
    (in2 : PySem.W.findIn K (.ref c2) "__init__" = some (some (.ref f2)))
    (ti2 : PySem.W.typeIn K (.ref f2) = some (.type "function"))
    (li2 : K.lookup f2 = some ⟨oc2, od2, .func (PySem.W.fnOf "__init__" "InvalidRow.__init__" (defArgs (sInit 2)) (defBody (sInit 2)) (defScope (sInit 2)) .none kV2 dc2 pm2 an2 cd2 ct2), sl2⟩)
    (ci2 : PySem.W.codeIn K cd2 "InvalidRow.__init__" = true)
    (ki2 : PySem.W.keepIn K (.ref f2) = true)
    (ga2 : PySem.W.findIn K (.ref c2) "__getattribute__" = some (some (.builtin "BaseException.__getattribute__")))
    (gg2 : PySem.W.findIn K (.ref c2) "__getattr__" = some none)
    (kC2 : PySem.W.keepIn K (.ref c2) = true)
    (eC2 : PySem.W.subIn K (.ref c2) (.type "BaseException") = some true)
    (hC2 : PySem.W.hasDictIn K c2 = true)
    (ha2 : PySem.W.findIn K (.ref c2) "__class__" = some (some (.builtin "object.__class__")))
    (hm2 : PySem.W.mroIn K c2 (.type "object") = some true)
    (xL3 : K.lookup c3 = some (excClassObj nm3 q3 c3 N3 bs3 [.ref ct, .type "ValueError", .type "Exception", .type "BaseException", .type "object"] true sn3 sub3 ab3 col3 dd3 m03 m13 m23 m33 m53 "ValueError.__new__"))
    (sa3 : PySem.W.findIn K (.ref c3) "__setattr__" = some (some (.builtin "object.__setattr__")))
    (no3 : PySem.W.findIn K (.ref c3) "at" = some none)
    (in3 : PySem.W.findIn K (.ref c3) "__init__" = some (some (.ref f3)))
    (ti3 : PySem.W.typeIn K (.ref f3) = some (.type "function"))
    (li3 : K.lookup f3 = some ⟨oc3, od3, .func (PySem.W.fnOf "__init__" "Refused.__init__" (defArgs (sInit 3)) (defBody (sInit 3)) (defScope (sInit 3)) .none kV3 dc3 pm3 an3 cd3 ct3), sl3⟩)
    (ci3 : PySem.W.codeIn K cd3 "Refused.__init__" = true)
    (ki3 : PySem.W.keepIn K (.ref f3) = true)
    (ga3 : PySem.W.findIn K (.ref c3) "__getattribute__" = some (some (.builtin "BaseException.__getattribute__")))
    (gg3 : PySem.W.findIn K (.ref c3) "__getattr__" = some none)
    (kC3 : PySem.W.keepIn K (.ref c3) = true)
    (eC3 : PySem.W.subIn K (.ref c3) (.type "BaseException") = some true)
    (hC3 : PySem.W.hasDictIn K c3 = true)
    (ha3 : PySem.W.findIn K (.ref c3) "__class__" = some (some (.builtin "object.__class__")))
    (hm3 : PySem.W.mroIn K c3 (.type "object") = some true)
    (xL4 : K.lookup c4 = some (excClassObj nm4 q4 c4 N4 bs4 [.ref ct, .type "ValueError", .type "Exception", .type "BaseException", .type "object"] true sn4 sub4 ab4 col4 dd4 m04 m14 m24 m34 m54 "ValueError.__new__"))
    (sa4 : PySem.W.findIn K (.ref c4) "__setattr__" = some (some (.builtin "object.__setattr__")))
    (no4 : PySem.W.findIn K (.ref c4) "at" = some none)
    (in4 : PySem.W.findIn K (.ref c4) "__init__" = some (some (.ref f4)))
    (ti4 : PySem.W.typeIn K (.ref f4) = some (.type "function"))
    (li4 : K.lookup f4 = some ⟨oc4, od4, .func (PySem.W.fnOf "__init__" "InvalidNumbers.__init__" (defArgs (sInit 4)) (defBody (sInit 4)) (defScope (sInit 4)) .none kV4 dc4 pm4 an4 cd4 ct4), sl4⟩)
    (ci4 : PySem.W.codeIn K cd4 "InvalidNumbers.__init__" = true)
    (ki4 : PySem.W.keepIn K (.ref f4) = true)
    (ga4 : PySem.W.findIn K (.ref c4) "__getattribute__" = some (some (.builtin "BaseException.__getattribute__")))
    (gg4 : PySem.W.findIn K (.ref c4) "__getattr__" = some none)
    (kC4 : PySem.W.keepIn K (.ref c4) = true)
    (eC4 : PySem.W.subIn K (.ref c4) (.type "BaseException") = some true)
    (hC4 : PySem.W.hasDictIn K c4 = true)
    (ha4 : PySem.W.findIn K (.ref c4) "__class__" = some (some (.builtin "object.__class__")))
    (hm4 : PySem.W.mroIn K c4 (.type "object") = some true)
    (xL5 : K.lookup c5 = some (excClassObj nm5 q5 c5 N5 bs5 [.ref ct, .type "ValueError", .type "Exception", .type "BaseException", .type "object"] true sn5 sub5 ab5 col5 dd5 m05 m15 m25 m35 m55 "ValueError.__new__"))
    (sa5 : PySem.W.findIn K (.ref c5) "__setattr__" = some (some (.builtin "object.__setattr__")))
    (no5 : PySem.W.findIn K (.ref c5) "word" = some none)
    (in5 : PySem.W.findIn K (.ref c5) "__init__" = some (some (.ref f5)))
    (ti5 : PySem.W.typeIn K (.ref f5) = some (.type "function"))
    (li5 : K.lookup f5 = some ⟨oc5, od5, .func (PySem.W.fnOf "__init__" "InvalidBook.__init__" (defArgs (sInit 5)) (defBody (sInit 5)) (defScope (sInit 5)) .none kV5 dc5 pm5 an5 cd5 ct5), sl5⟩)
    (ci5 : PySem.W.codeIn K cd5 "InvalidBook.__init__" = true)
    (ki5 : PySem.W.keepIn K (.ref f5) = true)
    (ga5 : PySem.W.findIn K (.ref c5) "__getattribute__" = some (some (.builtin "BaseException.__getattribute__")))
    (gg5 : PySem.W.findIn K (.ref c5) "__getattr__" = some none)
    (kC5 : PySem.W.keepIn K (.ref c5) = true)
    (eC5 : PySem.W.subIn K (.ref c5) (.type "BaseException") = some true)
    (hC5 : PySem.W.hasDictIn K c5 = true)
    (ha5 : PySem.W.findIn K (.ref c5) "__class__" = some (some (.builtin "object.__class__")))
    (hm5 : PySem.W.mroIn K c5 (.type "object") = some true)
    (xL6 : K.lookup c6 = some (excClassObj nm6 q6 c6 N6 bs6 [.type "KeyError", .type "LookupError", .type "Exception", .type "BaseException", .type "object"] true sn6 sub6 ab6 col6 dd6 m06 m16 m26 m36 m56 "LookupError.__new__"))
    (sa6 : PySem.W.findIn K (.ref c6) "__setattr__" = some (some (.builtin "object.__setattr__")))
    (no6 : PySem.W.findIn K (.ref c6) "name" = some none)
    (in6 : PySem.W.findIn K (.ref c6) "__init__" = some (some (.ref f6)))
    (ti6 : PySem.W.typeIn K (.ref f6) = some (.type "function"))
    (li6 : K.lookup f6 = some ⟨oc6, od6, .func (PySem.W.fnOf "__init__" "NoTalk.__init__" (defArgs (sInit 6)) (defBody (sInit 6)) (defScope (sInit 6)) .none kV6 dc6 pm6 an6 cd6 ct6), sl6⟩)
    (ci6 : PySem.W.codeIn K cd6 "NoTalk.__init__" = true)
    (ki6 : PySem.W.keepIn K (.ref f6) = true)
    (ga6 : PySem.W.findIn K (.ref c6) "__getattribute__" = some (some (.builtin "BaseException.__getattribute__")))
    (gg6 : PySem.W.findIn K (.ref c6) "__getattr__" = some none)
    (kC6 : PySem.W.keepIn K (.ref c6) = true)
    (eC6 : PySem.W.subIn K (.ref c6) (.type "BaseException") = some true)
    (hC6 : PySem.W.hasDictIn K c6 = true)
    (ha6 : PySem.W.findIn K (.ref c6) "__class__" = some (some (.builtin "object.__class__")))
    (hm6 : PySem.W.mroIn K c6 (.type "object") = some true)
    (xi7 : PySem.W.excIn K c7 [.type "ValueError", .type "Exception", .type "BaseException", .type "object"] "ValueError.__new__" = true)
    (ga7 : PySem.W.findIn K (.ref c7) "__getattribute__" = some (some (.builtin "BaseException.__getattribute__")))
    (gg7 : PySem.W.findIn K (.ref c7) "__getattr__" = some none)
    (kC7 : PySem.W.keepIn K (.ref c7) = true)
    (eC7 : PySem.W.subIn K (.ref c7) (.type "BaseException") = some true)
    (hC7 : PySem.W.hasDictIn K c7 = true)
    (ha7 : PySem.W.findIn K (.ref c7) "__class__" = some (some (.builtin "object.__class__")))
    (hm7 : PySem.W.mroIn K c7 (.type "object") = some true)
    (xi8 : PySem.W.excIn K c8 [.type "ValueError", .type "Exception", .type "BaseException", .type "object"] "ValueError.__new__" = true)
    (ga8 : PySem.W.findIn K (.ref c8) "__getattribute__" = some (some (.builtin "BaseException.__getattribute__")))
    (gg8 : PySem.W.findIn K (.ref c8) "__getattr__" = some none)
    (kC8 : PySem.W.keepIn K (.ref c8) = true)
    (eC8 : PySem.W.subIn K (.ref c8) (.type "BaseException") = some true)
    (hC8 : PySem.W.hasDictIn K c8 = true)
    (ha8 : PySem.W.findIn K (.ref c8) "__class__" = some (some (.builtin "object.__class__")))
    (hm8 : PySem.W.mroIn K c8 (.type "object") = some true)
    (hn : PySem.W.specialIn K (.builtin "object.__class__") "__get__" = some (some (.builtin "getset_descriptor.__get__")))
    (ht : PySem.W.takesIn K (.builtin "object.__class__") = some true)
    (k01 : PySem.W.kitOne K (.ref c0) (.ref c1) = some false)
    (k02 : PySem.W.kitOne K (.ref c0) (.ref c2) = some false)
    (k03 : PySem.W.kitOne K (.ref c0) (.ref c3) = some false)
    (k04 : PySem.W.kitOne K (.ref c0) (.ref c4) = some false)
    (k05 : PySem.W.kitOne K (.ref c0) (.ref c5) = some false)
    (k06 : PySem.W.kitOne K (.ref c0) (.ref c6) = some false)
    (k07 : PySem.W.kitOne K (.ref c0) (.ref c7) = some false)
    (k08 : PySem.W.kitOne K (.ref c0) (.ref c8) = some false)
    (kT0 : PySem.W.kitOne K (.ref c0) (.ref ct) = some true)
    (kv0 : PySem.W.kitOne K (.ref c0) (.type "ValueError") = some true)
    (k10 : PySem.W.kitOne K (.ref c1) (.ref c0) = some false)
    (k12 : PySem.W.kitOne K (.ref c1) (.ref c2) = some false)
    (k13 : PySem.W.kitOne K (.ref c1) (.ref c3) = some false)
    (k14 : PySem.W.kitOne K (.ref c1) (.ref c4) = some false)
    (k15 : PySem.W.kitOne K (.ref c1) (.ref c5) = some false)
    (k16 : PySem.W.kitOne K (.ref c1) (.ref c6) = some false)
    (k17 : PySem.W.kitOne K (.ref c1) (.ref c7) = some false)
    (k18 : PySem.W.kitOne K (.ref c1) (.ref c8) = some false)
    (kT1 : PySem.W.kitOne K (.ref c1) (.ref ct) = some true)
    (kv1 : PySem.W.kitOne K (.ref c1) (.type "ValueError") = some true)
    (k20 : PySem.W.kitOne K (.ref c2) (.ref c0) = some false)
    (k21 : PySem.W.kitOne K (.ref c2) (.ref c1) = some false)
    (k23 : PySem.W.kitOne K (.ref c2) (.ref c3) = some false)
    (k24 : PySem.W.kitOne K (.ref c2) (.ref c4) = some false)
    (k25 : PySem.W.kitOne K (.ref c2) (.ref c5) = some false)
    (k26 : PySem.W.kitOne K (.ref c2) (.ref c6) = some false)
    (k27 : PySem.W.kitOne K (.ref c2) (.ref c7) = some false)
    (k28 : PySem.W.kitOne K (.ref c2) (.ref c8) = some false)
    (kT2 : PySem.W.kitOne K (.ref c2) (.ref ct) = some true)
    (kv2 : PySem.W.kitOne K (.ref c2) (.type "ValueError") = some true)
    (k30 : PySem.W.kitOne K (.ref c3) (.ref c0) = some false)
    (k31 : PySem.W.kitOne K (.ref c3) (.ref c1) = some false)
    (k32 : PySem.W.kitOne K (.ref c3) (.ref c2) = some false)
    (k34 : PySem.W.kitOne K (.ref c3) (.ref c4) = some false)
    (k35 : PySem.W.kitOne K (.ref c3) (.ref c5) = some false)
    (k36 : PySem.W.kitOne K (.ref c3) (.ref c6) = some false)
    (k37 : PySem.W.kitOne K (.ref c3) (.ref c7) = some false)
    (k38 : PySem.W.kitOne K (.ref c3) (.ref c8) = some false)
    (kT3 : PySem.W.kitOne K (.ref c3) (.ref ct) = some true)
    (kv3 : PySem.W.kitOne K (.ref c3) (.type "ValueError") = some true)
    (k40 : PySem.W.kitOne K (.ref c4) (.ref c0) = some false)
    (k41 : PySem.W.kitOne K (.ref c4) (.ref c1) = some false)
    (k42 : PySem.W.kitOne K (.ref c4) (.ref c2) = some false)
    (k43 : PySem.W.kitOne K (.ref c4) (.ref c3) = some false)
    (k45 : PySem.W.kitOne K (.ref c4) (.ref c5) = some false)
    (k46 : PySem.W.kitOne K (.ref c4) (.ref c6) = some false)
    (k47 : PySem.W.kitOne K (.ref c4) (.ref c7) = some false)
    (k48 : PySem.W.kitOne K (.ref c4) (.ref c8) = some false)
    (kT4 : PySem.W.kitOne K (.ref c4) (.ref ct) = some true)
    (kv4 : PySem.W.kitOne K (.ref c4) (.type "ValueError") = some true)
    (k50 : PySem.W.kitOne K (.ref c5) (.ref c0) = some false)
    (k51 : PySem.W.kitOne K (.ref c5) (.ref c1) = some false)
    (k52 : PySem.W.kitOne K (.ref c5) (.ref c2) = some false)
    (k53 : PySem.W.kitOne K (.ref c5) (.ref c3) = some false)
    (k54 : PySem.W.kitOne K (.ref c5) (.ref c4) = some false)
    (k56 : PySem.W.kitOne K (.ref c5) (.ref c6) = some false)
    (k57 : PySem.W.kitOne K (.ref c5) (.ref c7) = some false)
    (k58 : PySem.W.kitOne K (.ref c5) (.ref c8) = some false)
    (kT5 : PySem.W.kitOne K (.ref c5) (.ref ct) = some true)
    (kv5 : PySem.W.kitOne K (.ref c5) (.type "ValueError") = some true)
    (k60 : PySem.W.kitOne K (.ref c6) (.ref c0) = some false)
    (k61 : PySem.W.kitOne K (.ref c6) (.ref c1) = some false)
    (k62 : PySem.W.kitOne K (.ref c6) (.ref c2) = some false)
    (k63 : PySem.W.kitOne K (.ref c6) (.ref c3) = some false)
    (k64 : PySem.W.kitOne K (.ref c6) (.ref c4) = some false)
    (k65 : PySem.W.kitOne K (.ref c6) (.ref c5) = some false)
    (k67 : PySem.W.kitOne K (.ref c6) (.ref c7) = some false)
    (k68 : PySem.W.kitOne K (.ref c6) (.ref c8) = some false)
    (kT6 : PySem.W.kitOne K (.ref c6) (.ref ct) = some false)
    (kv6 : PySem.W.kitOne K (.ref c6) (.type "ValueError") = some false)
    (k70 : PySem.W.kitOne K (.ref c7) (.ref c0) = some false)
    (k71 : PySem.W.kitOne K (.ref c7) (.ref c1) = some false)
    (k72 : PySem.W.kitOne K (.ref c7) (.ref c2) = some false)
    (k73 : PySem.W.kitOne K (.ref c7) (.ref c3) = some false)
    (k74 : PySem.W.kitOne K (.ref c7) (.ref c4) = some false)
    (k75 : PySem.W.kitOne K (.ref c7) (.ref c5) = some false)
    (k76 : PySem.W.kitOne K (.ref c7) (.ref c6) = some false)
    (k78 : PySem.W.kitOne K (.ref c7) (.ref c8) = some false)
    (kT7 : PySem.W.kitOne K (.ref c7) (.ref ct) = some true)
    (kv7 : PySem.W.kitOne K (.ref c7) (.type "ValueError") = some true)
    (k80 : PySem.W.kitOne K (.ref c8) (.ref c0) = some false)
    (k81 : PySem.W.kitOne K (.ref c8) (.ref c1) = some false)
    (k82 : PySem.W.kitOne K (.ref c8) (.ref c2) = some false)
    (k83 : PySem.W.kitOne K (.ref c8) (.ref c3) = some false)
    (k84 : PySem.W.kitOne K (.ref c8) (.ref c4) = some false)
    (k85 : PySem.W.kitOne K (.ref c8) (.ref c5) = some false)
    (k86 : PySem.W.kitOne K (.ref c8) (.ref c6) = some false)
    (k87 : PySem.W.kitOne K (.ref c8) (.ref c7) = some false)
    (kT8 : PySem.W.kitOne K (.ref c8) (.ref ct) = some true)
    (kv8 : PySem.W.kitOne K (.ref c8) (.type "ValueError") = some true)
    (kk6 : PySem.W.kitOne K (.ref c6) (.type "KeyError") = some true)
    (aBox : PySem.W.nsIn K mainGlobals "_law_box" = some (some (.ref fBox)))
    (lBox : K.lookup fBox = some ⟨ocBox, odBox, .func (PySem.W.fnOf "_law_box" "_law_box" (defArgs sBox) (defBody sBox) (defScope sBox) .none kVBox dcBox pmBox anBox cdBox ctBox), slBox⟩)
    (cBox : PySem.W.codeIn K cdBox "_law_box" = true)
    (kBox : PySem.W.keepIn K (.ref fBox) = true)
    (aTake : PySem.W.nsIn K mainGlobals "_law_take" = some (some (.ref fTake)))
    (lTake : K.lookup fTake = some ⟨ocTake, odTake, .func (PySem.W.fnOf "_law_take" "_law_take" (defArgs sTake) (defBody sTake) (defScope sTake) .none kVTake dcTake pmTake anTake cdTake ctTake), slTake⟩)
    (cTake : PySem.W.codeIn K cdTake "_law_take" = true)
    (kTake : PySem.W.keepIn K (.ref fTake) = true)
    (aPick : PySem.W.nsIn K mainGlobals "_law_pick" = some (some (.ref fPick)))
    (lPick : K.lookup fPick = some ⟨ocPick, odPick, .func (PySem.W.fnOf "_law_pick" "_law_pick" (defArgs sPick) (defBody sPick) (defScope sPick) .none kVPick dcPick pmPick anPick cdPick ctPick), slPick⟩)
    (cPick : PySem.W.codeIn K cdPick "_law_pick" = true)
    (kPick : PySem.W.keepIn K (.ref fPick) = true)
    (aAny : PySem.W.nsIn K mainGlobals "_law_any" = some (some (.ref fAny)))
    (lAny : K.lookup fAny = some ⟨ocAny, odAny, .func (PySem.W.fnOf "_law_any" "_law_any" (defArgs sAny) (defBody sAny) (defScope sAny) .none kVAny dcAny pmAny anAny cdAny ctAny), slAny⟩)
    (cAny : PySem.W.codeIn K cdAny "_law_any" = true)
    (kAny : PySem.W.keepIn K (.ref fAny) = true)
    (aMade : PySem.W.nsIn K mainGlobals "_law_made" = some (some (.ref fMade)))
    (lMade : K.lookup fMade = some ⟨ocMade, odMade, .func (PySem.W.fnOf "_law_made" "_law_made" (defArgs sMade) (defBody sMade) (defScope sMade) .none kVMade dcMade pmMade anMade cdMade ctMade), slMade⟩)
    (cMade : PySem.W.codeIn K cdMade "_law_made" = true)
    (kMade : PySem.W.keepIn K (.ref fMade) = true)
    (aNamed : PySem.W.nsIn K mainGlobals "_law_named" = some (some (.ref fNamed)))
    (lNamed : K.lookup fNamed = some ⟨ocNamed, odNamed, .func (PySem.W.fnOf "_law_named" "_law_named" (defArgs sNamed) (defBody sNamed) (defScope sNamed) .none kVNamed dcNamed pmNamed anNamed cdNamed ctNamed), slNamed⟩)
    (cNamed : PySem.W.codeIn K cdNamed "_law_named" = true)
    (kNamed : PySem.W.keepIn K (.ref fNamed) = true)
    (aSorts : PySem.W.nsIn K mainGlobals "_law_sorts" = some (some (.ref fSorts)))
    (lSorts : K.lookup fSorts = some ⟨ocSorts, odSorts, .func (PySem.W.fnOf "_law_sorts" "_law_sorts" (defArgs sSorts) (defBody sSorts) (defScope sSorts) .none kVSorts dcSorts pmSorts anSorts cdSorts ctSorts), slSorts⟩)
    (cSorts : PySem.W.codeIn K cdSorts "_law_sorts" = true)
    (kSorts : PySem.W.keepIn K (.ref fSorts) = true)
    (aKept : PySem.W.nsIn K mainGlobals "_law_is_kept" = some (some (.ref fKept)))
    (lKept : K.lookup fKept = some ⟨ocKept, odKept, .func (PySem.W.fnOf "_law_is_kept" "_law_is_kept" (defArgs sKept) (defBody sKept) (defScope sKept) .none kVKept dcKept pmKept anKept cdKept ctKept), slKept⟩)
    (cKept : PySem.W.codeIn K cdKept "_law_is_kept" = true)
    (kKept : PySem.W.keepIn K (.ref fKept) = true)
    (aLaw : PySem.W.nsIn K mainGlobals "law" = some (some (.ref fLaw)))
    (lLaw : K.lookup fLaw = some ⟨ocLaw, odLaw, .func (PySem.W.fnOf "law" "law" (defArgs sLaw) (defBody sLaw) (defScope sLaw) .none kVLaw dcLaw pmLaw anLaw cdLaw ctLaw), slLaw⟩)
    (cLaw : PySem.W.codeIn K cdLaw "law" = true)
    (kLaw : PySem.W.keepIn K (.ref fLaw) = true)
    (zrange : PySem.W.nsIn K mainGlobals "range" = some none)
    (zmax : PySem.W.nsIn K mainGlobals "max" = some none)
    (zmin : PySem.W.nsIn K mainGlobals "min" = some none)
    (zlen : PySem.W.nsIn K mainGlobals "len" = some none)
    (zisinstance : PySem.W.nsIn K mainGlobals "isinstance" = some none)
    (zValueError : PySem.W.nsIn K mainGlobals "ValueError" = some none)
    (zKeyError : PySem.W.nsIn K mainGlobals "KeyError" = some none)
    (zint : PySem.W.nsIn K mainGlobals "int" = some none)
    (zabs : PySem.W.nsIn K mainGlobals "abs" = some none)
    (ztuple : PySem.W.nsIn K mainGlobals "tuple" = some none)
    (zenumerate : PySem.W.nsIn K mainGlobals "enumerate" = some none)
    (zrepr : PySem.W.nsIn K mainGlobals "repr" = some none)
    : ∃ fd : FuncData, (∀ (s : Shared) (v : Value), BindsTo s fd ⟨[v], []⟩ [("_law_script", v)]) ∧ ∀ base : Heap, K.In base → base.Ns mainGlobals mg → FnG l.prog w K mg base CX0 7 fa fd ["_law_script"] (spLaw K) := by
  have e := hfa.symm.trans (PySem.W.mg_of X G aLaw)
  cases e
  have F0 := fun_mk (st := sInit 0) li0 ci0 ki0
  have F1 := fun_mk (st := sInit 1) li1 ci1 ki1
  have F2 := fun_mk (st := sInit 2) li2 ci2 ki2
  have F3 := fun_mk (st := sInit 3) li3 ci3 ki3
  have F4 := fun_mk (st := sInit 4) li4 ci4 ki4
  have F5 := fun_mk (st := sInit 5) li5 ci5 ki5
  have F6 := fun_mk (st := sInit 6) li6 ci6 ki6
  have FBox := fun_mk (st := sBox) lBox cBox kBox
  have FTake := fun_mk (st := sTake) lTake cTake kTake
  have FPick := fun_mk (st := sPick) lPick cPick kPick
  have FAny := fun_mk (st := sAny) lAny cAny kAny
  have FMade := fun_mk (st := sMade) lMade cMade kMade
  have FNamed := fun_mk (st := sNamed) lNamed cNamed kNamed
  have FSorts := fun_mk (st := sSorts) lSorts cSorts kSorts
  have FKept := fun_mk (st := sKept) lKept cKept kKept
  have FLaw := fun_mk (st := sLaw) lLaw cLaw kLaw
  have bBox := FBox.binds (ps := ["_law_script", "_law_k"]) fun _ _ _ _ _ _ us hl => match us, hl with | [_, _], _ => rfl
  have bTake := FTake.binds (ps := ["_law_box_here", "_law_many"]) fun _ _ _ _ _ _ us hl => match us, hl with | [_, _], _ => rfl
  have bPick := FPick.binds (ps := ["_law_box_here", "_law_some"]) fun _ _ _ _ _ _ us hl => match us, hl with | [_, _], _ => rfl
  have bAny := FAny.binds (ps := ["_law_box_here", "_law_deep"]) fun _ _ _ _ _ _ us hl => match us, hl with | [_, _], _ => rfl
  have bMade := FMade.binds (ps := ["_law_spot", "_law_value"]) fun _ _ _ _ _ _ us hl => match us, hl with | [_, _], _ => rfl
  have bNamed := FNamed.binds (ps := ["_law_spot", "_law_value"]) fun _ _ _ _ _ _ us hl => match us, hl with | [_, _], _ => rfl
  have bSorts := FSorts.binds (ps := ["_law_e"]) fun _ _ _ _ _ _ us hl => match us, hl with | [_], _ => rfl
  have bKept := FKept.binds (ps := ["_law_e", "_law_spot", "_law_value"]) fun _ _ _ _ _ _ us hl => match us, hl with | [_, _, _], _ => rfl
  have T : Txt K mg (fun i => [c0, c1, c2, c3, c4, c5, c6, c7, c8].getD i c0) (fun i => [f0, f1, f2, f3, f4, f5, f6].getD i f0) ct :=
    { gC := nine (PySem.W.mg_of X G aC0) (PySem.W.mg_of X G aC1) (PySem.W.mg_of X G aC2) (PySem.W.mg_of X G aC3) (PySem.W.mg_of X G aC4) (PySem.W.mg_of X G aC5) (PySem.W.mg_of X G aC6) (PySem.W.mg_of X G aC7) (PySem.W.mg_of X G aC8)
      gT := PySem.W.mg_of X G aT
      ox := seven ⟨⟨_, _, _, _, _, _, _, _, _, _, _, _, _, _, _, _, _, _, _, xL0, F.excBase_ValueError, tailVE, fun self => PySem.HandSPX.refsVE_pass self _ rfl, obVE⟩, sa0, kC0⟩ ⟨⟨_, _, _, _, _, _, _, _, _, _, _, _, _, _, _, _, _, _, _, xL1, F.excBase_ValueError, tailVE, fun self => PySem.HandSPX.refsVE_pass self _ rfl, obVE⟩, sa1, kC1⟩ ⟨⟨_, _, _, _, _, _, _, _, _, _, _, _, _, _, _, _, _, _, _, xL2, F.excBase_ValueError, tailVE, fun self => PySem.HandSPX.refsVE_pass self _ rfl, obVE⟩, sa2, kC2⟩ ⟨⟨_, _, _, _, _, _, _, _, _, _, _, _, _, _, _, _, _, _, _, xL3, F.excBase_ValueError, tailVE, fun self => PySem.HandSPX.refsVE_pass self _ rfl, obVE⟩, sa3, kC3⟩ ⟨⟨_, _, _, _, _, _, _, _, _, _, _, _, _, _, _, _, _, _, _, xL4, F.excBase_ValueError, tailVE, fun self => PySem.HandSPX.refsVE_pass self _ rfl, obVE⟩, sa4, kC4⟩ ⟨⟨_, _, _, _, _, _, _, _, _, _, _, _, _, _, _, _, _, _, _, xL5, F.excBase_ValueError, tailVE, fun self => PySem.HandSPX.refsVE_pass self _ rfl, obVE⟩, sa5, kC5⟩ ⟨⟨_, _, _, _, _, _, _, _, _, _, _, _, _, _, _, _, _, _, _, xL6, F.excBase_LookupError, tailKE, passKE, obKE⟩, sa6, kC6⟩
      iC := seven in0 in1 in2 in3 in4 in5 in6
      tI := seven ti0 ti1 ti2 ti3 ti4 ti5 ti6
      no := seven no0 no1 no2 no3 no4 no5 no6
      xf := seven ⟨ga0, gg0, eC0, hC0⟩ ⟨ga1, gg1, eC1, hC1⟩ ⟨ga2, gg2, eC2, hC2⟩ ⟨ga3, gg3, eC3, hC3⟩ ⟨ga4, gg4, eC4, hC4⟩ ⟨ga5, gg5, eC5, hC5⟩ ⟨ga6, gg6, eC6, hC6⟩
      ec := nine ⟨ga0, gg0, eC0, hC0, ha0, hn, ht, hm0⟩ ⟨ga1, gg1, eC1, hC1, ha1, hn, ht, hm1⟩ ⟨ga2, gg2, eC2, hC2, ha2, hn, ht, hm2⟩ ⟨ga3, gg3, eC3, hC3, ha3, hn, ht, hm3⟩ ⟨ga4, gg4, eC4, hC4, ha4, hn, ht, hm4⟩ ⟨ga5, gg5, eC5, hC5, ha5, hn, ht, hm5⟩ ⟨ga6, gg6, eC6, hC6, ha6, hn, ht, hm6⟩ ⟨ga7, gg7, eC7, hC7, ha7, hn, ht, hm7⟩ ⟨ga8, gg8, eC8, hC8, ha8, hn, ht, hm8⟩
      ex0 := fun i h1 h2 => (by obtain rfl | rfl : i = 7 ∨ i = 8 := by omega
                                · exact xi7
                                · exact xi8)
      kC := nine kC0 kC1 kC2 kC3 kC4 kC5 kC6 kC7 kC8
      kit := fun i j hi hj => nine (p := fun i => ∀ j, j < 9 → PySem.W.kitOne K (.ref ([c0, c1, c2, c3, c4, c5, c6, c7, c8].getD i c0)) (.ref ([c0, c1, c2, c3, c4, c5, c6, c7, c8].getD j c0)) = some (decide (i = j))) (nine kit_self k01 k02 k03 k04 k05 k06 k07 k08) (nine k10 kit_self k12 k13 k14 k15 k16 k17 k18) (nine k20 k21 kit_self k23 k24 k25 k26 k27 k28) (nine k30 k31 k32 kit_self k34 k35 k36 k37 k38) (nine k40 k41 k42 k43 kit_self k45 k46 k47 k48) (nine k50 k51 k52 k53 k54 kit_self k56 k57 k58) (nine k60 k61 k62 k63 k64 k65 kit_self k67 k68) (nine k70 k71 k72 k73 k74 k75 k76 kit_self k78) (nine k80 k81 k82 k83 k84 k85 k86 k87 kit_self) i hi j hj
      kitT := nine kT0 kT1 kT2 kT3 kT4 kT5 kT6 kT7 kT8
      kitV := nine kv0 kv1 kv2 kv3 kv4 kv5 kv6 kv7 kv8
      kitK := kk6 }
  have yrange := PySem.W.mg_none_of X G zrange
  have ymax := PySem.W.mg_none_of X G zmax
  have ymin := PySem.W.mg_none_of X G zmin
  have ylen := PySem.W.mg_none_of X G zlen
  have yisinstance := PySem.W.mg_none_of X G zisinstance
  have yValueError := PySem.W.mg_none_of X G zValueError
  have yKeyError := PySem.W.mg_none_of X G zKeyError
  have yint := PySem.W.mg_none_of X G zint
  have yabs := PySem.W.mg_none_of X G zabs
  have ytuple := PySem.W.mg_none_of X G ztuple
  have yenumerate := PySem.W.mg_none_of X G zenumerate
  have yrepr := PySem.W.mg_none_of X G zrepr
  refine ⟨PySem.W.fnOf "law" "law" (defArgs sLaw) (defBody sLaw) (defScope sLaw) .none kVLaw dcLaw pmLaw anLaw cdLaw ctLaw, fun s v => .of_eq rfl, fun base _ _ => ?_⟩
  have GT := ok_take (P := l.prog) (w := w) (base := base) FTake yint
  have GP := ok_pick (P := l.prog) (w := w) (base := base) FPick GT bTake kTake (PySem.W.mg_of X G aTake) ylen
  have GA := any_all (P := l.prog) (w := w) (base := base) FAny bAny (PySem.W.mg_of X G aAny) GT bTake kTake (PySem.W.mg_of X G aTake) GP bPick kPick (PySem.W.mg_of X G aPick) yrange ytuple
  have I : Inits l.prog w K mg base (fun i => [f0, f1, f2, f3, f4, f5, f6].getD i f0) (fun i => [PySem.W.fnOf "__init__" "InvalidText.__init__" (defArgs (sInit 0)) (defBody (sInit 0)) (defScope (sInit 0)) .none kV0 dc0 pm0 an0 cd0 ct0, PySem.W.fnOf "__init__" "InvalidTalk.__init__" (defArgs (sInit 1)) (defBody (sInit 1)) (defScope (sInit 1)) .none kV1 dc1 pm1 an1 cd1 ct1, PySem.W.fnOf "__init__" "InvalidRow.__init__" (defArgs (sInit 2)) (defBody (sInit 2)) (defScope (sInit 2)) .none kV2 dc2 pm2 an2 cd2 ct2, PySem.W.fnOf "__init__" "Refused.__init__" (defArgs (sInit 3)) (defBody (sInit 3)) (defScope (sInit 3)) .none kV3 dc3 pm3 an3 cd3 ct3, PySem.W.fnOf "__init__" "InvalidNumbers.__init__" (defArgs (sInit 4)) (defBody (sInit 4)) (defScope (sInit 4)) .none kV4 dc4 pm4 an4 cd4 ct4, PySem.W.fnOf "__init__" "InvalidBook.__init__" (defArgs (sInit 5)) (defBody (sInit 5)) (defScope (sInit 5)) .none kV5 dc5 pm5 an5 cd5 ct5, PySem.W.fnOf "__init__" "NoTalk.__init__" (defArgs (sInit 6)) (defBody (sInit 6)) (defScope (sInit 6)) .none kV6 dc6 pm6 an6 cd6 ct6].getD i (PySem.W.fnOf "__init__" "InvalidText.__init__" (defArgs (sInit 0)) (defBody (sInit 0)) (defScope (sInit 0)) .none kV0 dc0 pm0 an0 cd0 ct0)) :=
    seven (ok_init0 F0) (ok_init1 F1) (ok_init2 F2) (ok_init3 F3) (ok_init4 F4) (ok_init5 F5) (ok_init6 F6)
  have GM := ok_made (P := l.prog) (w := w) (base := base) FMade T I (seven (fun s self u => .of_eq rfl) (fun s self u => .of_eq rfl) (fun s self u => .of_eq rfl) (fun s self u => .of_eq rfl) (fun s self u => .of_eq rfl) (fun s self u => .of_eq rfl) (fun s self u => .of_eq rfl))
  have GN := ok_named (P := l.prog) (w := w) (base := base) FNamed T I (seven (fun s self u => .of_eq rfl) (fun s self u => .of_eq rfl) (fun s self u => .of_eq rfl) (fun s self u => .of_eq rfl) (fun s self u => .of_eq rfl) (fun s self u => .of_eq rfl) (fun s self u => .of_eq rfl))
  have D : Defs l.prog w K mg base (fun i => [c0, c1, c2, c3, c4, c5, c6, c7, c8].getD i c0) :=
    { box := ⟨_, _, ok_box FBox yint yabs ylen, bBox, kBox, PySem.W.mg_of X G aBox⟩
      any := ⟨_, _, GA, bAny, kAny, PySem.W.mg_of X G aAny⟩
      made := ⟨_, _, GM, bMade, kMade, PySem.W.mg_of X G aMade⟩
      named := ⟨_, _, GN, bNamed, kNamed, PySem.W.mg_of X G aNamed⟩
      sorts := ⟨_, _, ok_sorts FSorts T yisinstance yenumerate, bSorts, kSorts, PySem.W.mg_of X G aSorts⟩
      kept := ⟨_, _, ok_kept FKept T yrepr, bKept, kKept, PySem.W.mg_of X G aKept⟩ }
  exact ok_law FLaw T D yrange ymax ymin ylen yisinstance yValueError yKeyError
end K01
set_option Elab.async false
open PySem PySem.W PyProof.Rows
set_option maxRecDepth 100000 in
set_option maxHeartbeats 0 in
theorem PySem.Challenge.cw_talkmeans_k01_errors_and_what_they_keep_holds : PySem.Challenge.rw_talkmeans_k01_errors_and_what_they_keep.Holds := by
  w_on; o_law; k_head; (case hw => w_witness2)
  k_fill
  refine Tk.walkG (l := PySem.Challenge.rw_talkmeans_k01_errors_and_what_they_keep) (k := 7) (x := "_law_script") (sp := K01.spLaw) rfl rfl ⟨rfl, by decide, by decide⟩ (fun w h Y => PySem.W.kIn_of Y) ?F (fun K H a ns hl _ hS => ⟨a, ns, rfl, hS, hl, fun _ => rfl⟩)
  case F =>
    intro w mg fa h KX G hmg
    refine' K01.all_mk KX G hmg ?aC0 ?aC1 ?aC2 ?aC3 ?aC4 ?aC5 ?aC6 ?aC7 ?aC8 ?aT ?xL0 ?sa0 ?no0 ?in0 ?ti0 ?li0 ?ci0 ?ki0 ?ga0 ?gg0 ?kC0 ?eC0 ?hC0 ?ha0 ?hm0 ?xL1 ?sa1 ?no1 ?in1 ?ti1 ?li1 ?ci1 ?ki1 ?ga1 ?gg1 ?kC1 ?eC1 ?hC1 ?ha1 ?hm1 ?xL2 ?sa2 ?no2 ?in2 ?ti2 ?li2 ?ci2 ?ki2 ?ga2 ?gg2 ?kC2 ?eC2 ?hC2 ?ha2 ?hm2 ?xL3 ?sa3 ?no3 ?in3 ?ti3 ?li3 ?ci3 ?ki3 ?ga3 ?gg3 ?kC3 ?eC3 ?hC3 ?ha3 ?hm3 ?xL4 ?sa4 ?no4 ?in4 ?ti4 ?li4 ?ci4 ?ki4 ?ga4 ?gg4 ?kC4 ?eC4 ?hC4 ?ha4 ?hm4 ?xL5 ?sa5 ?no5 ?in5 ?ti5 ?li5 ?ci5 ?ki5 ?ga5 ?gg5 ?kC5 ?eC5 ?hC5 ?ha5 ?hm5 ?xL6 ?sa6 ?no6 ?in6 ?ti6 ?li6 ?ci6 ?ki6 ?ga6 ?gg6 ?kC6 ?eC6 ?hC6 ?ha6 ?hm6 ?xi7 ?ga7 ?gg7 ?kC7 ?eC7 ?hC7 ?ha7 ?hm7 ?xi8 ?ga8 ?gg8 ?kC8 ?eC8 ?hC8 ?ha8 ?hm8 ?hn ?ht ?k01 ?k02 ?k03 ?k04 ?k05 ?k06 ?k07 ?k08 ?kT0 ?kv0 ?k10 ?k12 ?k13 ?k14 ?k15 ?k16 ?k17 ?k18 ?kT1 ?kv1 ?k20 ?k21 ?k23 ?k24 ?k25 ?k26 ?k27 ?k28 ?kT2 ?kv2 ?k30 ?k31 ?k32 ?k34 ?k35 ?k36 ?k37 ?k38 ?kT3 ?kv3 ?k40 ?k41 ?k42 ?k43 ?k45 ?k46 ?k47 ?k48 ?kT4 ?kv4 ?k50 ?k51 ?k52 ?k53 ?k54 ?k56 ?k57 ?k58 ?kT5 ?kv5 ?k60 ?k61 ?k62 ?k63 ?k64 ?k65 ?k67 ?k68 ?kT6 ?kv6 ?k70 ?k71 ?k72 ?k73 ?k74 ?k75 ?k76 ?k78 ?kT7 ?kv7 ?k80 ?k81 ?k82 ?k83 ?k84 ?k85 ?k86 ?k87 ?kT8 ?kv8 ?kk6 ?aBox ?lBox ?cBox ?kBox ?aTake ?lTake ?cTake ?kTake ?aPick ?lPick ?cPick ?kPick ?aAny ?lAny ?cAny ?kAny ?aMade ?lMade ?cMade ?kMade ?aNamed ?lNamed ?cNamed ?kNamed ?aSorts ?lSorts ?cSorts ?kSorts ?aKept ?lKept ?cKept ?kKept ?aLaw ?lLaw ?cLaw ?kLaw ?zrange ?zmax ?zmin ?zlen ?zisinstance ?zValueError ?zKeyError ?zint ?zabs ?ztuple ?zenumerate ?zrepr
    (case aC0 => k_is)
    (case aC1 => k_is)
    (case aC2 => k_is)
    (case aC3 => k_is)
    (case aC4 => k_is)
    (case aC5 => k_is)
    (case aC6 => k_is)
    (case aC7 => k_is)
    (case aC8 => k_is)
    (case aT => k_is)
    (case xL0 => k_is)
    (case sa0 => k_is)
    (case no0 => k_is)
    (case in0 => k_is)
    (case ti0 => k_is)
    (case li0 => k_is)
    (case ci0 => k_is)
    (case ki0 => k_is)
    (case ga0 => k_is)
    (case gg0 => k_is)
    (case kC0 => k_is)
    (case eC0 => k_is)
    (case hC0 => k_is)
    (case ha0 => k_is)
    (case hm0 => k_is)
    (case xL1 => k_is)
    (case sa1 => k_is)
    (case no1 => k_is)
    (case in1 => k_is)
    (case ti1 => k_is)
    (case li1 => k_is)
    (case ci1 => k_is)
    (case ki1 => k_is)
    (case ga1 => k_is)
    (case gg1 => k_is)
    (case kC1 => k_is)
    (case eC1 => k_is)
    (case hC1 => k_is)
    (case ha1 => k_is)
    (case hm1 => k_is)
    (case xL2 => k_is)
    (case sa2 => k_is)
    (case no2 => k_is)
    (case in2 => k_is)
    (case ti2 => k_is)
    (case li2 => k_is)
    (case ci2 => k_is)
    (case ki2 => k_is)
    (case ga2 => k_is)
    (case gg2 => k_is)
    (case kC2 => k_is)
    (case eC2 => k_is)
    (case hC2 => k_is)
    (case ha2 => k_is)
    (case hm2 => k_is)
    (case xL3 => k_is)
    (case sa3 => k_is)
    (case no3 => k_is)
    (case in3 => k_is)
    (case ti3 => k_is)
    (case li3 => k_is)
    (case ci3 => k_is)
    (case ki3 => k_is)
    (case ga3 => k_is)
    (case gg3 => k_is)
    (case kC3 => k_is)
    (case eC3 => k_is)
    (case hC3 => k_is)
    (case ha3 => k_is)
    (case hm3 => k_is)
    (case xL4 => k_is)
    (case sa4 => k_is)
    (case no4 => k_is)
    (case in4 => k_is)
    (case ti4 => k_is)
    (case li4 => k_is)
    (case ci4 => k_is)
    (case ki4 => k_is)
    (case ga4 => k_is)
    (case gg4 => k_is)
    (case kC4 => k_is)
    (case eC4 => k_is)
    (case hC4 => k_is)
    (case ha4 => k_is)
    (case hm4 => k_is)
    (case xL5 => k_is)
    (case sa5 => k_is)
    (case no5 => k_is)
    (case in5 => k_is)
    (case ti5 => k_is)
    (case li5 => k_is)
    (case ci5 => k_is)
    (case ki5 => k_is)
    (case ga5 => k_is)
    (case gg5 => k_is)
    (case kC5 => k_is)
    (case eC5 => k_is)
    (case hC5 => k_is)
    (case ha5 => k_is)
    (case hm5 => k_is)
    (case xL6 => k_is)
    (case sa6 => k_is)
    (case no6 => k_is)
    (case in6 => k_is)
    (case ti6 => k_is)
    (case li6 => k_is)
    (case ci6 => k_is)
    (case ki6 => k_is)
    (case ga6 => k_is)
    (case gg6 => k_is)
    (case kC6 => k_is)
    (case eC6 => k_is)
    (case hC6 => k_is)
    (case ha6 => k_is)
    (case hm6 => k_is)
    (case xi7 => k_exc)
    (case ga7 => k_is)
    (case gg7 => k_is)
    (case kC7 => k_is)
    (case eC7 => k_is)
    (case hC7 => k_is)
    (case ha7 => k_is)
    (case hm7 => k_is)
    (case xi8 => k_exc)
    (case ga8 => k_is)
    (case gg8 => k_is)
    (case kC8 => k_is)
    (case eC8 => k_is)
    (case hC8 => k_is)
    (case ha8 => k_is)
    (case hm8 => k_is)
    (case hn => k_is)
    (case ht => k_is)
    (case k01 => kit_is)
    (case k02 => kit_is)
    (case k03 => kit_is)
    (case k04 => kit_is)
    (case k05 => kit_is)
    (case k06 => kit_is)
    (case k07 => kit_is)
    (case k08 => kit_is)
    (case kT0 => kit_is)
    (case kv0 => kit_is)
    (case k10 => kit_is)
    (case k12 => kit_is)
    (case k13 => kit_is)
    (case k14 => kit_is)
    (case k15 => kit_is)
    (case k16 => kit_is)
    (case k17 => kit_is)
    (case k18 => kit_is)
    (case kT1 => kit_is)
    (case kv1 => kit_is)
    (case k20 => kit_is)
    (case k21 => kit_is)
    (case k23 => kit_is)
    (case k24 => kit_is)
    (case k25 => kit_is)
    (case k26 => kit_is)
    (case k27 => kit_is)
    (case k28 => kit_is)
    (case kT2 => kit_is)
    (case kv2 => kit_is)
    (case k30 => kit_is)
    (case k31 => kit_is)
    (case k32 => kit_is)
    (case k34 => kit_is)
    (case k35 => kit_is)
    (case k36 => kit_is)
    (case k37 => kit_is)
    (case k38 => kit_is)
    (case kT3 => kit_is)
    (case kv3 => kit_is)
    (case k40 => kit_is)
    (case k41 => kit_is)
    (case k42 => kit_is)
    (case k43 => kit_is)
    (case k45 => kit_is)
    (case k46 => kit_is)
    (case k47 => kit_is)
    (case k48 => kit_is)
    (case kT4 => kit_is)
    (case kv4 => kit_is)
    (case k50 => kit_is)
    (case k51 => kit_is)
    (case k52 => kit_is)
    (case k53 => kit_is)
    (case k54 => kit_is)
    (case k56 => kit_is)
    (case k57 => kit_is)
    (case k58 => kit_is)
    (case kT5 => kit_is)
    (case kv5 => kit_is)
    (case k60 => kit_is)
    (case k61 => kit_is)
    (case k62 => kit_is)
    (case k63 => kit_is)
    (case k64 => kit_is)
    (case k65 => kit_is)
    (case k67 => kit_is)
    (case k68 => kit_is)
    (case kT6 => kit_is)
    (case kv6 => kit_is)
    (case k70 => kit_is)
    (case k71 => kit_is)
    (case k72 => kit_is)
    (case k73 => kit_is)
    (case k74 => kit_is)
    (case k75 => kit_is)
    (case k76 => kit_is)
    (case k78 => kit_is)
    (case kT7 => kit_is)
    (case kv7 => kit_is)
    (case k80 => kit_is)
    (case k81 => kit_is)
    (case k82 => kit_is)
    (case k83 => kit_is)
    (case k84 => kit_is)
    (case k85 => kit_is)
    (case k86 => kit_is)
    (case k87 => kit_is)
    (case kT8 => kit_is)
    (case kv8 => kit_is)
    (case kk6 => kit_is)
    (case aBox => k_is)
    (case lBox => k_is)
    (case cBox => k_is)
    (case kBox => k_is)
    (case aTake => k_is)
    (case lTake => k_is)
    (case cTake => k_is)
    (case kTake => k_is)
    (case aPick => k_is)
    (case lPick => k_is)
    (case cPick => k_is)
    (case kPick => k_is)
    (case aAny => k_is)
    (case lAny => k_is)
    (case cAny => k_is)
    (case kAny => k_is)
    (case aMade => k_is)
    (case lMade => k_is)
    (case cMade => k_is)
    (case kMade => k_is)
    (case aNamed => k_is)
    (case lNamed => k_is)
    (case cNamed => k_is)
    (case kNamed => k_is)
    (case aSorts => k_is)
    (case lSorts => k_is)
    (case cSorts => k_is)
    (case kSorts => k_is)
    (case aKept => k_is)
    (case lKept => k_is)
    (case cKept => k_is)
    (case kKept => k_is)
    (case aLaw => k_is)
    (case lLaw => k_is)
    (case cLaw => k_is)
    (case kLaw => k_is)
    (case zrange => k_is)
    (case zmax => k_is)
    (case zmin => k_is)
    (case zlen => k_is)
    (case zisinstance => k_is)
    (case zValueError => k_is)
    (case zKeyError => k_is)
    (case zint => k_is)
    (case zabs => k_is)
    (case ztuple => k_is)
    (case zenumerate => k_is)
    (case zrepr => k_is)
