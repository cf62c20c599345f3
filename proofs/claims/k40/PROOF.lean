import PyProof.Rows.All
import Wide.All
import OpenK.AllK
import Wide.FinOn
import PyProof.EqAt
import PyProof.EqKinds
import PyProof.TupleCall
import HandS.ForMost
import HandS.ForExc
import HandS.Wide
import HandS.Gcd
import HandS.IsInst
import HandS.ExcInit
import HandS.Defaults
import HandS.FStr
import HandS.CallSlots
import KE.KExcSuper
import KE.KExcIs
import KE.KTryMore
import HandS.FStrTup
import HandS.Ends
import HandS.ExcCtx
import HandS.SuiteRaise
import HandS.RaiseFrom
import HandS.Codes
import HandS.Text
import PyProof.Rows.StrDigitsNeg
import HandS.Lambda
import HandS.Style
import HandS.StrSplit
import HandS.Walk
import HandS.ExcInitHot
import KE.KRevSl
import PyProof.StrOps2
import PyProof.ListStr
import HandS.EndTab
import KE.RegKSuper
import KE.KExcLine
import HandS.Head0
import HandS.Head1
import HandS.Head2
import HandS.HeadEnd
import HandS.HeadHook1
import HandS.HeadHook2
import HandS.HeadHook4
import HandS.Head3
import PySem.Challenge.RW_roompace_k40_texts_of_numbers
set_option Elab.async false
set_option linter.all false
set_option maxRecDepth 100000
set_option maxHeartbeats 4000000
/-! # Rules of our own over the hand layer: calls that know that nothing is being shown (needed for repr of nested data), repr and {x!r} of data, list + list that are read -/
namespace Rm
open PySem PySem.Spec PyProof.Rows L2

/-- a def's promise where no repr is under way -/
structure FnG (P : Program) (w : World) (K : PySem.W.Frag) (mg : Str → Option Value) (base : Heap) (k : Nat) (f : Addr) (fd : FuncData) (ps : List Str) (sp : Sp) : Prop where
  len : ∀ vs H Q E, sp vs H Q E → vs.length = ps.length
  run : ∀ (A : Around) (outer : List Env) (s : Shared) (H : Hp) (args : Args) (us : List Value) (vs : List V) (Q : VK) (E : XK), Room k A → A.guards = some [] → Env0 P w K mg base A outer s H → BindsTo s fd args (ps.zip us) → Vals vs us → sp vs H Q E →
    codeAny (model P w) A (.call (.ref f) args) (CR (L2.CX P w) outer P w H s Q E) s
theorem FnG.mono {P : Program} {w : World} {K : PySem.W.Frag} {mg : Str → Option Value} {base : Heap} {j k : Nat} {f : Addr} {fd : FuncData} {ps : List Str} {sp : Sp} (F : FnG P w K mg base j f fd ps sp) (h : j ≤ k) :
    FnG P w K mg base k f fd ps sp := ⟨F.len, fun A outer s H args us vs Q E hr => F.run A outer s H args us vs Q E (hr.mono h)⟩
theorem FnG.imp {P : Program} {w : World} {K : PySem.W.Frag} {mg : Str → Option Value} {base : Heap} {k : Nat} {f : Addr} {fd : FuncData} {ps : List Str} {sp sp' : Sp} (F : FnG P w K mg base k f fd ps sp)
    (h : ∀ vs H Q E, sp' vs H Q E → sp vs H Q E) : FnG P w K mg base k f fd ps sp' :=
  ⟨fun vs H Q E q => F.len vs H Q E (h _ _ _ _ q), fun A outer s H args us vs Q E hr hg he hb hv hs => F.run A outer s H args us vs Q E hr hg he hb hv (h _ _ _ _ hs)⟩

theorem fn_ofG {P : Program} {w : World} {K : PySem.W.Frag} {mg : Str → Option Value} {base : Heap} {k : Nat} {f : Addr} {name qual : Str} {params : Arguments} {body : List Stmt} {scope : Scope} {dV kV doc pm cdv ct oc : Value} {an od : Option Addr}
    {osl : Array (Option Value)} {N ps : List Str} {sp : Sp} (lk : K.lookup f = some ⟨oc, od, .func (PySem.W.fnOf name qual params body scope dV kV doc pm an cdv ct), osl⟩) (hcd : PySem.W.codeIn K cdv qual = true) (S : FnScope N ps scope)
    (len : ∀ vs H Q E, sp vs H Q E → vs.length = ps.length)
    (hbody : ∀ (A : Around) (outer : List Env) (s : Shared) (H : Hp) (vs : List V) (Q : VK) (E : XK), Room k (A.deeper (envOfC qual scope s.heap.objs.size f cdv)) → A.guards = some [] → sp vs H Q E →
      ∃ t, PSs (cxOf (L2.CX P w) P w K mg base N qual scope f cdv A outer s H E) body t ∧ t { nx := fun _ H' => Q .non H', rt := Q } (start N vs) H) :
    FnG P w K mg base (k + 1) f (PySem.W.fnOf name qual params body scope dV kV doc pm an cdv ct) ps sp := by
  refine ⟨len, fun A outer s H args us vs Q E hr hgd e0 hb r hsp => ?_⟩
  have hl := len _ _ _ _ hsp
  have KX : K.In s.heap := e0.mod.kin.keeps fun b o e => (e0.bs b o e).1
  have lim : s.heap.NoLimit := e0.mod.nolimit.keeps fun b o e => (e0.bs b o e).1
  have hkind : ∀ y ∈ ps.zip us, scope.names.lookup y.1 = some .local ∨ (scope.names.lookup y.1 = some .cell ∧ ((cellsFrom (s.heap.objs.size + 1) scope.names []).lookup y.1).isSome = true) := fun ⟨n, v⟩ hy => by
    rcases S.par n (List.of_mem_zip hy).1 with q | q
    · exact .inl q
    · exact .inr ⟨q, PySem.W.cellsFrom_some _ _ _ (.inl q)⟩
  refine codeAny_call_function hr.depth (KX _ _ lk) rfl S.co S.gen rfl (PySem.W.codeRec_of KX hcd) (hb _ _ _ _ ?_)
  refine wpAny_newFunctionEnv_cells S.kind hkind fun env he s1 x => ?_
  subst he
  refine ⟨lim.keeps x.toInCall.keep, codeAny_func ?_⟩
  obtain ⟨t, ht, hq⟩ := hbody A outer s H vs Q E (hr.deeper _) hgd hsp
  have I : Inv (cxOf (L2.CX P w) P w K mg base N qual scope f cdv A outer s H E) [] (start N vs) H s1 := inv_start S hr.hd e0 hl r x
  refine wpAny_mono (ht.run [] s1 (start N vs) H _ I hq) (fun fl s' hs => ?_) fun e s' hs => hs
  have fin : ∀ {σ' : L2.St} {H' : Hp} {v : V} {u : Value}, Inv (cxOf (L2.CX P w) P w K mg base N qual scope f cdv A outer s H E) [] σ' H' s' → RelV v u → Q v H' → CE outer P w H s Q u s' :=
    fun {σ' H' v u} J rv q => ⟨v, H', J.os, J.bare, J.base, J.hok, rv, q⟩
  cases fl with
  | ret u =>
    obtain ⟨v, σ', H', J, rv, q⟩ := hs
    exact fin J rv q
  | next =>
    obtain ⟨σ', H', J, q⟩ := hs
    exact fin (v := V.non) (u := Value.none) J rfl q
  | brk =>
    obtain ⟨_, _, _, q⟩ := hs
    exact False.elim q
  | cont =>
    obtain ⟨_, _, _, q⟩ := hs
    exact False.elim q

section
variable {P : Program} {w : World} {K : PySem.W.Frag} {mg : Str → Option Value} {base : Heap}
/-- THE RULE for a def -/
theorem okG {x qual : Str} {st : Stmt} {f : Addr} {fd : FuncData} {N ps : List Str} {k : Nat} {sp : Sp} (F : Fun K x qual st f fd) (S : FnScope N ps (defScope st)) (len : ∀ vs H Q E, sp vs H Q E → vs.length = ps.length)
    (hbody : ∀ (cdv : Value) (A : Around) (outer : List Env) (s : Shared) (H : Hp) (vs : List V) (Q : VK) (E : XK), Room k (A.deeper (envOfC qual (defScope st) s.heap.objs.size f cdv)) → A.guards = some [] → sp vs H Q E →
      ∃ t, PSs (cxOf (L2.CX P w) P w K mg base N qual (defScope st) f cdv A outer s H E) (defBody st) t ∧ t { nx := fun _ H' => Q .non H', rt := Q } (start N vs) H) : FnG P w K mg base (k + 1) f fd ps sp := by
  obtain ⟨oc, od, kV, doc, pm, an, cdv, ct, osl, rfl, lk, hcd⟩ := F.ex
  exact fn_ofG lk hcd S len fun A outer s H vs Q E hr hg hsp => hbody cdv A outer s H vs Q E hr hg hsp
end

theorem pass0G {X : Cx} (σ : L2.St) : PassesAt (L2.CX X.prog X.w) X σ E0 := fun _ _ _ _ _ _ h => by
  obtain ⟨_, _, _, _, _, _, _, _, _, _, _, _, z⟩ := h
  exact z.elim

section
variable {X : Cx} {k : Nat} {f : Addr} {fd : FuncData} {ps ks : List Str} {sp : Sp} {dvs : List V} {ds : List Value} {E : L2.St → XK} {x : Str} {p pos : Pos} {e : Expr} {es : List Expr} {kws : List Keyword} {te ta : TE} {t tk : TA}
theorem run_fnG {pins : List (Addr × Obj)} {σ : L2.St} {H : Hp} {s : Shared} {Q : VK} {us : List Value} {vs : List V} (F : FnG X.prog X.w X.K X.mg X.base k f fd ps sp) (hr : Room k X.A) (hgd : X.A.guards = some []) (hb : Binds X.K fd ps ds) (hd : Vals dvs ds) (hx : PassesAt (L2.CX X.prog X.w) X σ (E σ))
    (I : Inv X pins σ H s) (r : Vals vs us) (h : sp (vs ++ dvs) H Q (E σ)) : wpAny (model X.prog X.w) X.A (call (.ref f) us) (EP X pins σ Q) X.xe s := by
  have r2 : Vals (vs ++ dvs) (us ++ ds) := r.append hd
  have hl : (us ++ ds).length = ps.length := by rw [← r2.length]; exact F.len _ _ _ _ h
  refine wpAny_call (codeAny_mono (F.run X.A X.stack s H ⟨us, []⟩ (us ++ ds) (vs ++ dvs) Q (E σ) hr hgd I.env0 (hb s us I.kIn hl) r2 h) fun r s' hq => ?_)
  cases r with
  | error e => exact hx pins H s e s' I hq
  | ok fl =>
    cases fl with
    | ret u => exact I.after hq
    | next => exact False.elim hq
    | brk => exact False.elim hq
    | cont => exact False.elim hq
/-- f(e, ..) -/
theorem pe_callG (F : FnG X.prog X.w X.K X.mg X.base k f fd ps sp) (hr : Room k X.A) (hgd : X.A.guards = some []) (hg : Gl X x) (hm : X.mg x = some (.ref f)) (hk : PySem.W.keepIn X.K (.ref f) = true) (hb : Binds X.K fd ps ds) (hd : Vals dvs ds) (hx : ∀ σ, PassesAt (L2.CX X.prog X.w) X σ (E σ))
    (ha : PA X (e :: es) t) (hdb : (x == ("__debug__" : Str)) = false := by decide) (he : starEach (e :: es) X.env = (false, eval e X.env) :: starEach es X.env := by rfl) (hpl : (backTo pos (starEach es X.env)).any (·.1) = false := by rfl) :
    PE X (.Call (.Name x p) (e :: es) [] pos) (tCallSD sp dvs E t) := by
  refine ⟨fun pins s σ H Q I h => ?_⟩
  refine wpAny_Call_Name_kw (ld_glob I hg hm ?_ hdb)
  refine PySem.W.callWith_K (h₀ := X.base) I.ok.mod.kin hk (thn (ha.run pos pins s σ H _ I h) fun us s1 ⟨vs, H1, I1, r, q⟩ => ⟨I1.kIn, ?_⟩) he hpl
  exact run_fnG F hr hgd hb hd (hx σ) I1 r q
end

/-! ### repr of data -/
theorem call_reprD {X : Cx} {k : Nat} (hr : Room k X.A) (hgd : X.A.guards = some []) : CallR X (.builtin "repr") (fun xs H Q => ∃ v d, xs = [v] ∧ Dp X.K H v d ∧ d.showable = true ∧ d.hasDict = false ∧ d.depth ≤ 20 ∧ d.shown.length ≤ sizeLine ∧ Q (.str d.shown) H) := by
  intro pins s σ H xs us Q I r h
  obtain ⟨v, d, rfl, hd, hs, hnd, hdp, hz, q⟩ := h
  obtain ⟨u, rfl, ru⟩ := vals1 r
  have hu := hr.units
  obtain ⟨as, rd⟩ := Dp.reads I d v u hd ru
  have fin : ∀ (a : Addr), u = .ref a → wpAny (model X.prog X.w) X.A (call (.builtin "repr") [u]) (EP X pins σ Q) X.xe s := fun a e => by
    subst e
    exact repr_of_reads' rd hs (PyData.noDict_hsm hnd) hgd (by omega) (fun _ _ e => e) (fun h' u tk hk => ⟨.str d.shown, H, I.kept hk, ⟨_, rfl⟩, q⟩) hz
  cases hd with
  | non =>
    cases ru
    simp only [PyData.shown] at q
    exact PySem.P.repr_of_none ⟨.str _, H, I.tok _, ⟨_, rfl⟩, q⟩
  | bl b =>
    cases ru
    simp only [PyData.shown] at q
    exact PySem.P.repr_of_bool ⟨.str _, H, I.tok _, ⟨_, rfl⟩, q⟩
  | int i =>
    obtain ⟨t, rfl⟩ := ru
    simp only [PyData.shown] at q
    exact PySem.P.repr_of_int (by simpa [PyData.showable] using hs) ⟨.str _, H, I.tok _, ⟨_, rfl⟩, q⟩
  | str x =>
    obtain ⟨t, rfl⟩ := ru
    simp only [PyData.shown] at q hz
    exact PySem.P.repr_of_str ⟨.str _, H, I.tok _, ⟨_, rfl⟩, q⟩ hz
  | lst h1 h2 => exact fin _ ru
  | tup h1 h2 => exact fin _ ru

/-! ### list + list, both read -/
open AutoSeq1 in
theorem list_add_any (l : Addr) (items : Array Value) (n : Nat) (sl : Array (Option Value)) (b : Addr) (items2 : Array Value) (n2 : Nat) (sl2 : Array (Option Value)) (hc0 : items.size + items2.size ≤ sizeLine) :
    Meets (Builtin.«list.__add__» ⟨[.ref l, .ref b], []⟩) (fun _ R s => s.heap.get? l = some { cls := .type "list", dict := none, data := .seq items n, slots := sl } ∧ s.heap.get? b = some { cls := .type "list", dict := none, data := .seq items2 n2, slots := sl2 } ∧ R (.ok (.ret (Value.ref s.heap.objs.size))) { s with heap := s.heap.push { cls := Value.type "list", data := Data.seq (items ++ items2) }, toks := s.toks }) :=
  .of_wp fun prog w A R s h => by obtain ⟨hp, g, d, tk, os⟩ := s; obtain ⟨hl, hb, h⟩ := h; have f1 := AutoSeq1.idx_int; have f2 := AutoSeq1.sub_tuple_tuple; have f3 := AutoSeq1.sub_list_list; have f4 := AutoSeq1.sub_tuple_list; have f5 := AutoSeq1.sub_list_tuple; wp_walk using AutoSeq1.wpAny_loadPart' hl, AutoSeq1.wpAny_loadPart' hb; exact ⟨_, rfl, h⟩
def rCatS (K : PySem.W.Frag) : R2 := fun x y H Q => ∃ l b xs zs, x = .ref l ∧ y = .ref b ∧ SqL K H l xs ∧ SqL K H b zs ∧ xs.length + zs.length ≤ sizeLine ∧ ∀ p, H p = none → Q (.ref p) (upd H p (.lst (xs ++ zs)))
theorem op_catS {X : Cx} : OpR X (binaryOp .Add) (rCatS X.K) := by
  intro pins s σ H x y v u Q I rx ry h
  obtain ⟨l, b, xs, zs, rfl, rfl, hH, hB, hz, q⟩ := h
  cases rx
  cases ry
  obtain ⟨its, r, ⟨o, n, e, c, dd, dt⟩, _⟩ := I.list hH
  obtain ⟨its2, r2, ⟨o2, n2, e2, c2, dd2, dt2⟩, _⟩ := I.list hB
  have hl := r.length
  have hl2 := r2.length
  obtain ⟨oc, od, dt0, sl⟩ := o
  obtain ⟨oc2, od2, dt02, sl2⟩ := o2
  dsimp only at c dd dt c2 dd2 dt2
  subst c dd dt c2 dd2 dt2
  refine concat_meets (S := _) ⟨_, e, rfl⟩ ⟨_, e2, rfl⟩ noFill_list_add seq_list_add F.slot_list_add F.entry_list_add (F.args_list_add_2 _ _) (list_add_any l its.toArray n sl b its2.toArray n2 sl2 (by rw [List.size_toArray, List.size_toArray]; omega)) ⟨e, e2, ?_⟩
  have ea : its.toArray ++ its2.toArray = (its ++ its2).toArray := by simp
  rw [ea]
  exact ⟨.ref _, _, I.lnew (t' := s.toks) (r.append r2) (by rw [List.length_append]; omega), rfl, q _ I.fresh⟩
end Rm
set_option Elab.async false
set_option linter.all false
set_option maxRecDepth 100000
set_option maxHeartbeats 4000000
/-! # An own exception, its __init__ made of «super().__init__(f'..{x!r}')» and «self.x = x»: made, over the heap -/
namespace RmX
open PySem PySem.W PySem.Calls PyProof.Rows PySem.HandSPX PySem.Spec
structure BaseX (B newId initId : String) (bmB : List Value) : Prop where
  exc : ExcBaseFacts B newId initId bmB
  st : StoreFacts B bmB "object.__setattr__" "object"
  kx : KxsFacts B initId
theorem base_VE : BaseX "ValueError" "ValueError.__new__" "ValueError.__init__" [.type "ValueError", .type "Exception", .type "BaseException", .type "object"] := ⟨F.excBase_ValueError, F.store_ValueError, kxs_ValueError⟩
theorem base_RE : BaseX "RuntimeError" "RuntimeError.__new__" "RuntimeError.__init__" [.type "RuntimeError", .type "Exception", .type "BaseException", .type "object"] := ⟨F.excBase_RuntimeError, F.store_RuntimeError, kxs_RuntimeError⟩
theorem base_LE : BaseX "LookupError" "LookupError.__new__" "LookupError.__init__" [.type "LookupError", .type "Exception", .type "BaseException", .type "object"] := ⟨F.excBase_LookupError, F.store_LookupError, kxs_LookupError⟩

section
open Builtin Builtin.ObjectAttr
variable {prog : Program} {w : World} {A : Around} {E : Value → Shared → Prop} {R : Result → Shared → Prop} {hp : Heap} {g : Array GenState} {d : Drawn} {t : Nat} {os : OsState} {B newId initId : String} {bmB : List Value}
theorem excTail_ne {l : List Value} (hb : bmB.isEmpty = false) (e : excTail bmB l = true) : l.isEmpty = false := by
  cases l with
  | nil =>
    have z : [] = bmB := beq_iff_eq.mp e
    rw [← z] at hb
    exact hb
  | cons _ _ => rfl
theorem exc_osaB (FB : BaseX B newId initId bmB) {K : W.Frag} {name : Str} {tk : Tok} {v : Value} {x C : Addr} {fv : Array Value} {cd : ClassData}
    (X : K.In hp) (hx : hp.get? x = some { cls := .ref C, data := .fields fv }) (hcd : W.clsIn K C = some cd) (hm : excTail bmB cd.mro = true) (hh : cd.hasDict = true) (ha : W.findIn K (.ref C) name = some none)
    (hq : ∀ h' tk' dx, (∀ b o, b ≠ x → hp.get? b = some o → h'.get? b = some o) → hp.objs.size ≤ dx → dx ≠ x → h'.get? x = some { cls := .ref C, dict := some dx, data := .fields fv } →
      h'.Ns1 dx (fun y => if y = name then some v else none) → R (.ok (.ret .none)) ⟨h', g, d, tk', os⟩) :
    codeAny (model prog w) A (.call (.builtin "object.__setattr__") ⟨[.ref x, .str name tk, v], []⟩) R ⟨hp, g, d, t, os⟩ := by
  have I : W.InstAt hp x { cls := .ref C, data := .fields fv } C none := ⟨hx, rfl, rfl, trivial⟩
  have SF := F.store_object
  have hbE : bmB.isEmpty = false := by
    have z := FB.st.hasOwner
    cases e : bmB with
    | nil => rw [e] at z; exact absurd z (by decide)
    | cons _ _ => rfl
  have ne := excTail_ne hbE hm
  have hob : cd.mro.contains (.type "object") = true := (excTail_contains "object" _ hm).trans FB.st.hasOwner
  have hxs : x ≠ hp.objs.size := Nat.ne_of_lt (Heap.lt_size hx)
  have sub : W.Looks (model prog w) hp (isInstance (.ref x) (.type "object")) true := I.type.andThen (W.looks_mroIn X (by unfold W.mroIn; rw [hcd, Option.bind_some, if_neg (by rw [ne]; decide), hob]))
  refine codeAny_call_builtin SF.slot.plain SF.entry (@W.check_slot (model prog w) _ _ ⟨hp, g, d, t, os⟩ "object.__setattr__" "object" "__setattr__" (.ref x) [.str name tk, v] [] _ SF.kind SF.split sub (SF.args (.ref x) (.str name tk) v) ?_)
  have hmr : W.Looks (model prog w) hp (mroOf (.ref C)) cd.mro := (W.looks_clsIn X hcd).andThen .now
  have L3 : W.Looks (model prog w) hp (storeTaker? none) none := .now
  have hcls : W.Looks (model prog w) hp (classData C) cd := W.looks_clsIn X hcd
  rw [W.osa_eq, refuse_eq]
  refine wpAny_bind (wpAny_bind (I.type.at (wpAny_bind (hmr.at ?_))))
  rw [excTail_pass (.ref x) (FB.st.passes (.ref x)) _ hm]
  refine wpAny_pure (wpAny_bind (I.type.at (wpAny_bind ((W.looks_findIn X ha).at (wpAny_bind (L3.at ?_))))))
  show wpAny _ _ (storeInOwnDict (.ref x) (.ref C) (.str name tk) name v false) _ _ _
  obtain ⟨nm, bs, mro, ns, qn, hd, sn, sb, ab, col, del⟩ := cd
  dsimp only at hh
  subst hh
  unfold storeInOwnDict ownDictForStores
  repeat (first | with_reducible refine HandSPX.store_in_new ?_ ?_ | with_reducible refine wpAny_loadPart_at hx ?_ | with_reducible refine hcls.at ?_ | wp_step)
  · exact ⟨_, #[], _, (Heap.get?_update_ne _ _ _ _ hxs.symm).trans (Heap.get?_push_at rfl rfl), rfl, fun e he => absurd he (by simp), fun _ => rfl⟩
  · intro h' tk' hn' hs
    have hx₁ : (hp.push { cls := .type "dict", data := .dict #[] }).get? x = some { cls := .ref C, data := .fields fv } := Heap.get?_push_of_some _ hx
    refine hq h' tk' hp.objs.size (fun b o hb ho => ?_) (Nat.le_refl _) hxs.symm ?_ hn'
    · exact (hs.2 b (Nat.ne_of_lt (Heap.lt_size ho))).trans ((Heap.get?_update_ne _ _ _ _ hb).trans (Heap.get?_push_of_some _ ho))
    · exact (hs.2 x hxs).trans (Heap.get?_update_self _ hx₁ rfl)
end

section
variable {prog : Program} {w : World} {A : Around} {E : Value → Shared → Prop} {h : Heap} {g : Array GenState} {d : Drawn} {t : Nat} {os : OsState} {B newId initId : String} {bmB : List Value}
variable {nm q : Str} {C N : Addr} {bs bm : List Value} {hdct : Bool} {sn : List Str} {sub : List Value} {ab : Bool} {col : Option Bool} {dd : Option Addr} {k0 k1 k2 k3 k5 : Option Value}
/-- super().__init__(..): the wrapper bound to the object is called -/
theorem call_mw (FB : BaseX B newId initId bmB) {u e t0 : Addr} {rest : List Value} {Q : Value → Shared → Prop}
    (hC : h.get? C = some (excClassObj nm q C N bs bm hdct sn sub ab col dd k0 k1 k2 k3 k5 newId)) (he : h.get? e = some (excO C t0)) (hu : h.get? u = some (kxs_mw initId e)) (hrest : rest.length ≤ sizeLine)
    (hq : ∀ h' t1, (∀ b o, b ≠ e → h.get? b = some o → h'.get? b = some o) → h'.get? e = some (excO C t1) → Q .none ⟨h', g, d, t, os⟩) :
    wpAny (model prog w) A (call (.ref u) rest) Q E ⟨h, g, d, t, os⟩ := by
  refine wpAny_call (codeAny_of_tree ?_)
  show wpAny _ A.in1 (callAny (.ref u) ⟨rest, []⟩) _ _ _
  simp only [callAny]
  refine wpAny_bind (wpAny_load hu ?_)
  simp only [kxs_mw, show (Value.type "method-wrapper" == Value.type "method" || Value.type "method-wrapper" == Value.type "builtin_function_or_method" || Value.type "method-wrapper" == Value.type "method-wrapper") = true by decide, if_true]
  refine KFB.if_so (by decide) ?_
  refine wpAny_bind (check_bound_init FB.exc.toExcCallFacts hC he rfl ?_)
  refine wpAny_bind (wpAny_pure (wpAny_pure ?_))
  refine ⟨plainId_quiet FB.exc.init.plain _, codeAny_builtin FB.exc.initEntry ?_⟩
  exact exc_init_tree (cls := .ref C) (t0 := t0) (dv := none) (c2 := .none) (c3 := .none) (b4 := .bool false) he hrest fun h' k e' t' => hq h' _ k e'
end
end RmX
set_option Elab.async false
set_option linter.all false
set_option maxRecDepth 100000
set_option maxHeartbeats 4000000
namespace RmX
open PySem PySem.W PySem.Calls PyProof.Rows PySem.HandSPX PySem.Spec
theorem eval_mcall {o : Expr} {name : Str} {args : List Expr} {apos pos : Pos} {env : Env} (hpos : (apos.endLine == pos.line) = true) (hform : methodCallForm args.length (backTo pos (starEach args env)) [] = true) :
    eval (.Call (.Attribute o name apos) args [] pos) env = (do
      let ov ← attributeBase o name env (eval o env)
      standAt apos.atName
      let (f, first) ← holding [ov] (getMethod ov name (do return (← importBound o env).getD true))
      callWith pos f first (backTo pos (starEach args env)) []) := by
  show (do
    let ov ← attributeBase o name env (eval o env)
    standAt apos.atName
    methodCall o name apos pos env ov (args.length + 0) (backTo pos (starEach args env)) []) = _
  have e : methodCallForm (args.length + 0) (backTo pos (starEach args env)) [] = true := hform
  simp only [methodCall, calleeOf, methodCallPos, e, hpos, Bool.not_true, Bool.false_or, if_true, pure_bind]
/-! ### the text of __init__ -/
def iA (F : Str) (p1 p2 : Pos) : Arguments := { posonlyargs := [], args := [{ arg := "self", annotation := none, pos := p1 }, { arg := F, annotation := none, pos := p2 }], vararg := none, kwonlyargs := [], kw_defaults := [], kwarg := none, defaults := [] }
def iB (F tx : Str) (q1 q2 q3 q4 q5 q6 q7 q8 q9 r1 r2 r3 r4 : Pos) : List Stmt :=
  [.Expr (.Call (.Attribute (.Call (.Name "super" q1) [] [] q2) "__init__" q3) [.JoinedStr [.Constant (.str tx) 0 q4, .FormattedValue (.Name F q5) 114 none q6] q7] [] q8) q9,
   .Assign [.Attribute (.Name "self" r1) F r2] (.Name F r3) r4]
def iS (F : Str) : Scope := { kind := .function, names := [(PySem.Str.ofString "self", .local), (F, .local), (PySem.Str.ofString "__class__", .free), (PySem.Str.ofString "super", .globalImplicit)], isGenerator := false, isCoroutine := false, more := [] }
/-- what the written part says of the class at C, its __init__ at fI, its field F -/
structure ExT (P : Program) (K : Frag) (mg : Str → Option Value) (C fI : Addr) (F : Str) (B newId initId : String) (bmB : List Value) : Prop where
  cls : ∃ nm q N bs bm sn sub ab col dd k0 k1 k2 k3 k5, K.lookup C = some (excClassObj nm q C N bs bm true sn sub ab col dd k0 k1 k2 k3 k5 newId) ∧ excTail bmB bm = true
  sa : findIn K (.ref C) "__setattr__" = some (some (.builtin "object.__setattr__"))
  ga : findIn K (.ref C) "__getattribute__" = some (some (.builtin "BaseException.__getattribute__"))
  gg : findIn K (.ref C) "__getattr__" = some none
  noF : findIn K (.ref C) F = some none
  iC : findIn K (.ref C) "__init__" = some (some (.ref fI))
  tI : typeIn K (.ref fI) = some (.type "function")
  kC : keepIn K (.ref C) = true
  exC : subIn K (.ref C) (.type "BaseException") = some true
  tyC : typeIn K (.ref C) = some (.type "type")
  hdC : hasDictIn K C = true
  sup : ks_superIn K C C "__init__" = some (some (.builtin initId))
  hB : subIn K (.ref C) (.type B) = some true
  self : mroIn K C (.ref C) = some true
  opq : nsIn K cStatics "thirdparty.any" = some none
  nsup : nsIn K mainGlobals "super" = some none
  /-- isinstance -/
  ca : findIn K (.ref C) "__class__" = some (some (.builtin "object.__class__"))
  cn : specialIn K (.builtin "object.__class__") "__get__" = some (some (.builtin "getset_descriptor.__get__"))
  ct : takesIn K (.builtin "object.__class__") = some true
  cm : mroIn K C (.type "object") = some true
  fn : ∃ (oc : Value) (od : Option Addr) (doc pm : Value) (an : Option Addr) (cda cc : Addr) (ct : Value) (osl : Array (Option Value)) (p1 p2 q1 q2 q3 q4 q5 q6 q7 q8 q9 r1 r2 r3 r4 : Pos) (qual tx : Str), (q3.endLine == q8.line) = true ∧
    K.lookup fI = some ⟨oc, od, .func (fnX "__init__" qual (iA F p1 p2) (iB F tx q1 q2 q3 q4 q5 q6 q7 q8 q9 r1 r2 r3 r4) (iS F) [("__class__", cc)] .none .none doc pm an (.ref cda) ct), osl⟩ ∧ codeIn K (.ref cda) qual = true ∧ tx.length ≤ 200 ∧
    (∃ cl cld csl, K.lookup cc = some ⟨cl, cld, .cell (some (.ref C)), csl⟩) ∧
    ∃ ccl cdd vs ccs file tf, K.lookup cda = some ⟨ccl, cdd, .fields vs, ccs⟩ ∧ vs[2]? = some (.str file tf) ∧ ((P.main.file : Str) == file) = true
  top : (P.main.scope.names.lookup ("super" : Str)).isSome = false
/-- the field's name -/
structure FName (F : Str) : Prop where
  l1 : (iS F).names.lookup F = some .local
  l2 : (F == ("__debug__" : Str)) = false
  l3 : (("self" : Str) == F) = false
  l4 : (F == ("self" : Str)) = false
  l5 : (iS F).names.lookup ("__class__" : Str) = some .free
  l6 : (iS F).names.lookup ("super" : Str) = some .globalImplicit
  l7 : (iS F).names.lookup ("self" : Str) = some .local
  bd : ∀ (qual : Str) (p1 p2 : Pos) (body : List Stmt) (cl : List (Str × Addr)) (doc pm cdv ct : Value) (an : Option Addr) (x v : Value), bindArgs (fnX "__init__" qual (iA F p1 p2) body (iS F) cl .none .none doc pm an cdv ct) ⟨[x, v], []⟩ = pure [(("self" : Str), x), (F, v)]
  bk : ∀ (qual : Str) (p1 p2 : Pos) (body : List Stmt) (cl : List (Str × Addr)) (doc pm cdv ct : Value) (an : Option Addr) (x v : Value), bindArgs (fnX "__init__" qual (iA F p1 p2) body (iS F) cl .none .none doc pm an cdv ct) ⟨[x], [(F, v)]⟩ = pure [(("self" : Str), x), (F, v)]
/-- what __init__ leaves of a fresh exception at x -/
structure InitEnd (h h' : Heap) (x C dx t1 : Addr) (F : Str) (v : Value) : Prop where
  keep : ∀ b o, b ≠ x → h.get? b = some o → h'.get? b = some o
  obj : h'.get? x = some { cls := .ref C, dict := some dx, data := .fields #[.ref t1, .none, .none, .none, .bool false, .none] }
  dbig : h.objs.size ≤ dx
  dne : dx ≠ x
  ns : h'.Ns1 dx (fun y => if y = F then some v else none)
/-- how v is shown: some text of bounded length, nothing of the heap is changed -/
def Shown (prog : Program) (w : World) (A : Around) (h : Heap) (v : Value) : Prop :=
  ∀ (D : Around) (E : Value → Shared → Prop) (Q : Value → Shared → Prop) (s : Shared), D.guards = A.guards → D.units ≤ A.units + 8 → (∀ b o, h.get? b = some o → s.heap.get? b = some o) →
    (∀ (x : Str) (u : Tok) (h' : Heap) (tk : Tok), x.length ≤ 1000000 → (∀ b o, s.heap.get? b = some o → h'.get? b = some o) → Q (.str x u) { s with heap := h', toks := tk }) → wpAny (model prog w) D (pyReprObj v) Q E s
section
variable {prog : Program} {w : World} {A : Around} {E : Value → Shared → Prop} {R : Result → Shared → Prop} {s : Shared} {K : Frag} {mg mb : Str → Option Value} {C fI : Addr} {F : Str} {B newId initId : String} {bmB : List Value}
theorem init_run (FB : BaseX B newId initId bmB) (T : ExT prog K mg C fI F B newId initId bmB) (N : FName F) {x t0 : Addr} {v : Value} (X : K.In s.heap) (hlim : s.heap.NoLimit) (hg : s.heap.Ns mainGlobals mg) (hmg : mg "super" = none) (hb : s.heap.Ns builtinsNs mb) (hmb : mb "super" = some (.type "super"))
    (hx : s.heap.get? x = some (excO C t0)) (hnx : K.lookup x = none) (hroom : A.depth < recursionLimit) (hsh : Shown prog w A s.heap v)
    (hq : ∀ h' tk dx t1, InitEnd s.heap h' x C dx t1 F v → R (.ok (.ret .none)) { s with heap := h', toks := tk }) :
    codeAny (model prog w) A (.call (.ref fI) ⟨[.ref x, v], []⟩) R s := by
  obtain ⟨oc, od, doc, pm, an, cda, cc, ct, osl, p1, p2, q1, q2, q3, q4, q5, q6, q7, q8, q9, r1, r2, r3, r4, qual, tx, hpos, ho, hcd, htx, ⟨cl, cld, csl, hcc⟩, ccl, cdd, vs, ccs, file, tf, hcode, hvs, hfile⟩ := T.fn
  obtain ⟨nm, q, N', bs, bm, sn, sub, ab, col, dd, k0, k1, k2, k3, k5, hC, hbm⟩ := T.cls
  have hcl : clsIn K C = some { name := nm, bases := bs, mro := .ref C :: bm, ns := N', qualname := q, hasDict := true, slotNames := sn, subclasses := sub, abstract := ab, collection := col, hasDel := false } := by unfold clsIn; rw [hC] <;> rfl
  refine ks_codeAny_call_defAt (binds := [("self", .ref x), (F, v)]) hroom (X _ _ ho) rfl hlim (codeRec_of X hcd) rfl (BindsTo.of_eq (N.bd ..)) (by intro y hy; simp only [iS, List.mem_cons, List.mem_nil_iff, or_false] at hy; rcases hy with rfl | rfl | rfl | rfl <;> simp) (fun y hy => ?_) (fun h₁ hn hk => ?_) rfl rfl rfl
  · simp only [List.mem_cons, List.mem_nil_iff, or_false] at hy
    rcases hy with rfl | rfl
    · rfl
    · exact N.l1
  · have X₁ : K.In h₁ := X.keeps hk
    have hx₁ := hk _ _ hx
    have mself : (fun y => [(("self" : Str), Value.ref x), (F, v)].reverse.lookup y) ("self" : Str) = some (.ref x) := by
      show List.lookup ("self" : Str) [(F, v), (("self" : Str), Value.ref x)] = some (.ref x)
      rw [List.lookup_cons, N.l3]
      rfl
    have mF : (fun y => [(("self" : Str), Value.ref x), (F, v)].reverse.lookup y) F = some v := by
      show List.lookup F [(F, v), (("self" : Str), Value.ref x)] = some v
      rw [List.lookup_cons, beq_self_eq_true]
    have hD1 : h₁.get? C = some (excClassObj nm q C N' bs bm true sn sub ab col dd k0 k1 k2 k3 k5 newId) := X₁ _ _ hC
    refine ks_wpAt_execs_cons (ks_wpAt_Expr_any (ks_wpAt_MethodCall ?_ (eval_mcall hpos (by rfl))) rfl rfl)
    refine ks_wpAt_super_base (f := fI) (cc := cda) N.l6 N.l5 rfl rfl (X₁ _ _ ho) rfl rfl rfl (X₁ _ _ hcode) rfl hvs hfile T.top ?_
    refine ks_loadName_global rfl N.l6 (loadGlobal_builtin (mg := mg) (mb := mb) (hg.keeps hk) hmg (hb.keeps hk) hmb ⟨rfl, ?_⟩)
    refine wpAny_loadName_free rfl N.l5 rfl ⟨_, X₁ _ _ hcc, rfl⟩ ?_
    refine wpAny_loadName_local rfl N.l7 hn mself ?_
    refine ks_wpAny_isType_cls hD1 rfl ⟨rfl, ?_⟩
    refine ks_wpAny_call_super hD1 rfl hx₁ rfl (fun c z => by cases z) (looks_mroIn X₁ T.self) (fun h₂ e₂ k₂ => ?_)
    have X₂ : K.In h₂ := X₁.keeps k₂
    have I₂ : InstAt h₂ x (excO C t0) C none := ⟨k₂ _ _ hx₁, rfl, rfl, trivial⟩
    have hxC : x ≠ C := fun z => by
      rw [z, hD1] at hx₁
      cases hx₁
    have hsup := T.sup
    unfold ks_superIn at hsup
    rw [hcl] at hsup
    refine kxs_getMethod FB.kx e₂ (looks_opaque X₂ T.opq) (l₀ := .ref C :: bm) (fun A Q E s k q => wpAny_bind ((looks_clsIn X₂ hcl) A _ E s k (wpAny_pure q))) rfl X₂ hsup (I₂.type.andThen (looks_subIn X₂ T.hB)) hxC rfl ?_
    show wpAny _ _ (callWith q8 (.ref h₂.objs.size) [] _ []) _ _ _
    refine kxs_callWith (i := initId) (x := x) rfl ?_
    refine evalArgs_plain (spliced_cons ?_)
    have k₃ : ∀ b o, s.heap.get? b = some o → (h₂.push (kxs_mw initId x)).get? b = some o := fun b o e => Heap.get?_push_of_some _ (k₂ _ _ (hk _ _ e))
    have hmw : (h₂.push (kxs_mw initId x)).get? h₂.objs.size = some (kxs_mw initId x) := Heap.get?_push_at rfl rfl
    refine wpAny_JoinedStr (pos := q7) ?_
    refine Joins_cons (Constant_str ⟨tx, _, rfl, ?_, ?_⟩)
    · show (Str.empty ++ tx).length ≤ sizeLine
      rw [strLen_append, sizeLine_eq]
      have : Str.empty.length = 0 := rfl
      omega
    refine Joins_cons (wpAny_FormattedValue_repr (wpAny_Name (wpAny_loadName_local rfl N.l1 (hn.keeps fun b o e => Heap.get?_push_of_some _ (k₂ _ _ e)) mF ?_) N.l2))
    refine hsh _ _ _ _ (by rfl) (by show A.units + 3 ≤ _; omega) k₃ fun y u h₄ tk₄ hy k₄ => ?_
    have hyz : y.length ≤ sizeLine := Nat.le_trans hy (by rw [sizeLine_eq]; decide)
    refine PyProof.Rows.formatField_str (fun u' tk' => ⟨y, u', rfl, ?_, ?_⟩) hyz
    · rw [strLen_append, strLen_append, sizeLine_eq]
      have : Str.empty.length = 0 := rfl
      omega
    refine Joins_nil ⟨?_, spliced_nil ⟨?_, ?_⟩⟩
    · rw [strLen_append, strLen_append, sizeLine_eq]
      have : Str.empty.length = 0 := rfl
      omega
    · exact k₄ _ _ hmw
    have hx₄ : h₄.get? x = some (excO C t0) := k₄ _ _ (k₃ _ _ hx)
    have hC₄ := k₄ _ _ (k₃ _ _ (X _ _ hC))
    refine call_mw FB hC₄ hx₄ (k₄ _ _ hmw) (by show 1 ≤ sizeLine; rw [sizeLine_eq]; decide) fun h₅ t₅ k₅ hx₅ => ?_
    -- self.F = F
    have k₀₄ : ∀ b o, s.heap.get? b = some o → h₄.get? b = some o := fun b o e => k₄ _ _ (k₃ _ _ e)
    have X₅ : K.In h₅ := fun b o e => k₅ b o (fun z => by rw [z, hnx] at e; cases e) (k₀₄ _ _ (X _ _ e))
    have hn₅ : h₅.Ns s.heap.objs.size (fun y => [(("self" : Str), Value.ref x), (F, v)].reverse.lookup y) := by
      obtain ⟨oL, es, ep, e1, e2⟩ := hn
      have hxL : s.heap.objs.size ≠ x := Nat.ne_of_gt (Heap.lt_size hx)
      exact ⟨oL, es, ep, k₅ _ _ hxL (k₄ _ _ (Heap.get?_push_of_some _ (k₂ _ _ e1))), e2⟩
    refine wpAt_of_wpAny (wpAny_execs_cons (plainObj_wpAny_Assign_Attribute ?_))
    refine wpAny_Name (wpAny_loadName_local rfl N.l1 hn₅ mF ?_) N.l2
    refine wpAny_Name (wpAny_loadName_local rfl N.l7 hn₅ mself ?_) (by decide)
    refine set_plain X₅ (ox := excO C t₅) (od := none) ⟨hx₅, rfl, rfl, trivial⟩ T.sa ?_
    refine exc_osaB FB X₅ hx₅ hcl hbm rfl T.noF (fun h₆ tk₆ dx k₆ dn dne hx₆ hn₆ => ?_)
    refine wpAny_execs_nil ?_
    refine hq h₆ tk₆ dx t₅ ⟨fun b o hb e => k₆ b o hb (k₅ b o hb (k₀₄ b o e)), hx₆, ?_, dne, hn₆⟩
    exact Nat.le_of_lt (Nat.lt_of_lt_of_le hn₅.lt dn)
/-- a made exception of the class at C -/
structure OwnMade (h h' : Heap) (e C d : Addr) (F : Str) (v : Value) : Prop where
  keep : ∀ b o, h.get? b = some o → h'.get? b = some o
  new : h.objs.size ≤ e
  obj : ∃ t1, h'.get? e = some { cls := .ref C, dict := some d, data := .fields #[.ref t1, .none, .none, .none, .bool false, .none] }
  dbig : h.objs.size ≤ d
  dne : d ≠ e
  ns : h'.Ns1 d (fun y => if y = F then some v else none)
theorem exc_made (FB : BaseX B newId initId bmB) (T : ExT prog K mg C fI F B newId initId bmB) (N : FName F) {v : Value} (X : K.In s.heap) (hlim : s.heap.NoLimit) (hg : s.heap.Ns mainGlobals mg) (hmg : mg "super" = none) (hb : s.heap.Ns builtinsNs mb) (hmb : mb "super" = some (.type "super"))
    (hroom : A.depth + 1 < recursionLimit) (hsh : ∀ B : Around, B.guards = A.guards → B.units ≤ A.units + 8 → Shown prog w B s.heap v)
    (hq : ∀ h' tk e d, OwnMade s.heap h' e C d F v → R (.ok (.ret (.ref e))) { s with heap := h', toks := tk }) :
    codeAny (model prog w) A (.call (.ref C) ⟨[v], []⟩) R s := by
  obtain ⟨nm, q, N', bs, bm, sn, sub, ab, col, dd, k0, k1, k2, k3, k5, hC, hbm⟩ := T.cls
  obtain ⟨hp, g, dr, tk, os⟩ := s
  have k : ∀ b o, hp.get? b = some o → ((hp.push (kdv_tup [v])).push (excO C hp.objs.size)).get? b = some o := fun b o e => Heap.get?_push_of_some _ (Heap.get?_push_of_some _ e)
  have hget : ((hp.push (kdv_tup [v])).push (excO C hp.objs.size)).get? (hp.objs.size + 1) = some (excO C hp.objs.size) := by heap_get
  have hnx : K.lookup (hp.objs.size + 1) = none := by
    cases e : K.lookup (hp.objs.size + 1) with
    | none => rfl
    | some o =>
      have z : hp.get? (hp.objs.size + 1) = some o := X _ _ e
      exact absurd (Nat.lt_of_succ_lt (Heap.lt_size z)) (Nat.lt_irrefl _)
  refine call_own FB.exc (fun X => excTail_contains X bm hbm) (X _ _ hC) (looks_findIn X T.iC) (fun self => bind_fn X self T.tI) (by show 1 ≤ sizeLine; rw [sizeLine_eq]; decide) ?_
  refine init_run (s := ⟨(hp.push (kdv_tup [v])).push (excO C hp.objs.size), g, dr, tk, os⟩) FB T N (X.keeps k) (hlim.keeps k) (hg.keeps k) hmg (hb.keeps k) hmb hget hnx ?_ ?_ fun h' tk' dx t1 hE => ?_
  · show A.depth + 1 < recursionLimit
    exact hroom
  · intro D E' Q' s' hdg hdu hk hQ
    refine hsh _ ?_ ?_ D E' Q' s' hdg hdu (fun b o e => hk _ _ (k _ _ e)) hQ
    · rfl
    · rw [L2.make_units]; omega
  · obtain ⟨k', hx, dn, dne, hns⟩ := hE
    have old : ∀ b o, hp.get? b = some o → h'.get? b = some o := fun b o e => k' b o (Nat.ne_of_lt (Nat.lt_succ_of_lt (Heap.lt_size e))) (k b o e)
    have z : hp.objs.size + 1 + 1 ≤ dx := by
      first
        | (simpa only [Heap.size_push] using dn)
        | exact dn
        | (have q := dn; rw [Heap.size_push, Heap.size_push] at q; exact q)
    exact ⟨rfl, hq h' tk' (hp.objs.size + 1) dx ⟨old, Nat.le_succ _, ⟨t1, hx⟩, Nat.le_trans (Nat.le_trans (Nat.le_succ _) (Nat.le_succ _)) z, dne, hns⟩⟩
end
end RmX
set_option Elab.async false
set_option linter.all false
set_option maxRecDepth 100000
set_option maxHeartbeats 4000000
namespace Rm
open PySem PySem.Spec PyProof.Rows L2 RmX

/-! ### data, shown -/
/-- what may stand in an error or be handed to repr -/
def Fit (d : PyData) : Prop := d.showable = true ∧ d.hasDict = false ∧ d.depth ≤ 20 ∧ d.shown.length ≤ 1000000
theorem shown_of {prog : Program} {w : World} {A : Around} {h : Heap} {u : Value} {d : PyData} {as : List Addr} (hg : A.guards = some []) (hu : A.units + 60 < cLine) (rd : Reads h u d as) (f : Fit d) : Shown prog w A h u := by
  intro D E Q s hdg hdu hk hQ
  obtain ⟨hs, hnd, hdp, hz⟩ := f
  have hz' : d.shown.length ≤ sizeLine := Nat.le_trans hz (by rw [sizeLine_eq]; decide)
  cases rd with
  | none =>
    simp only [PyData.shown] at hz
    exact pyReprObj_none (hQ _ _ s.heap _ hz fun _ _ e => e)
  | bool =>
    simp only [PyData.shown] at hz
    exact pyReprObj_bool (hQ _ _ s.heap _ hz fun _ _ e => e)
  | int =>
    simp only [PyData.shown] at hz
    exact pyReprObj_int (by simpa [PyData.showable] using hs) (hQ _ _ s.heap _ hz fun _ _ e => e)
  | str =>
    simp only [PyData.shown] at hz hz'
    exact pyReprObj_str (hQ _ _ s.heap _ hz fun _ _ e => e) hz'
  | list h1 h2 h3 h4 => exact pyReprObj_of_reads (.list h1 h2 h3 h4) hs (PyData.noDict_hsm hnd) (hdg.trans hg) (by omega) hk (fun h' u tk hk' => hQ _ _ h' tk hz hk') hz'
  | tuple h1 h2 h3 h4 => exact pyReprObj_of_reads (.tuple h1 h2 h3 h4) hs (PyData.noDict_hsm hnd) (hdg.trans hg) (by omega) hk (fun h' u tk hk' => hQ _ _ h' tk hz hk') hz'
  | dict h1 h2 h3 h4 h5 => exact absurd hnd (by simp [PyData.hasDict])

/-! ### C(e): an own exception is made -/
theorem relO_one {F : Str} {v : V} {v' : Value} (r : RelV v v') (f : Str) : RelO (List.lookup f [(F, v)]) (if f = F then some v' else none) := by
  by_cases hw : f = F
  · subst hw
    rw [if_pos rfl]
    have q : List.lookup f [(f, v)] = some v := by simp [List.lookup]
    rw [q]
    exact r
  · rw [if_neg hw]
    have qw : (f == F) = false := by simpa using hw
    have q2 : List.lookup f [(F, v)] = none := by simp [List.lookup, qw]
    rw [q2]
    trivial
def tMkX (K : PySem.W.Frag) (C : Addr) (F : Str) (ta : TA) : L2.St → Hp → XK → Prop := fun σ H Q => ta σ H fun vs H1 => ∃ v d, vs = [v] ∧ Dp K H1 v d ∧ Fit d ∧ ∀ dx, H1 dx = none → Q (.ref C) (some dx) (upd H1 dx (.xd [(F, v)]))
section
variable {X : Cx} {C fI : Addr} {F : Str} {B newId initId : String} {bmB : List Value} {a : Expr} {ta : TA} {x : Str} {p pos : Pos} {k : Nat}
theorem pmk_x (FB : BaseX B newId initId bmB) (T : ExT X.prog X.K X.mg C fI F B newId initId bmB) (N : FName F) (hr : Room k X.A) (hgd : X.A.guards = some []) (hg : Gl X x) (gC : X.mg x = some (.ref C)) (hsu : X.mg "super" = none) (ha : PA X [a] ta)
    (hdb : (x == ("__debug__" : Str)) = false := by decide)
    (he : starEach (a :: []) X.env = (false, eval a X.env) :: starEach [] X.env := by rfl) (hpl : (backTo pos (starEach [] X.env)).any (·.1) = false := by rfl) :
    PMk X (.Call (.Name x p) [a] [] pos) (tMkX X.K C F ta) := by
  intro pins s σ H Q I h
  refine wpAny_Call_Name_kw (ld_glob I hg gC ?_ hdb)
  refine PySem.W.callWith_K (h₀ := X.base) I.ok.mod.kin T.kC (thn (ha.run pos pins s σ H _ I h) fun us s1 hh => ?_) he hpl
  obtain ⟨vs, H1, I1, r1, v, d, ev, hd, hf, q1⟩ := hh
  subst ev
  refine ⟨I1.kIn, ?_⟩
  cases r1 with
  | cons rv rn =>
    rename_i v' us'
    cases rn
    show wpAny _ _ (call (.ref C) [v']) _ _ _
    have hlim := I1.nolimit
    obtain ⟨as, rd⟩ := Dp.reads I1 d v v' hd rv
    have hun := hr.un
    have hdp := hr.dp
    obtain ⟨mb, hb1, hb2⟩ := I1.mod.blt
    obtain ⟨hp, g, dr, tk, os⟩ := s1
    refine wpAny_call (exc_made FB T N I1.kIn hlim (I1.mod.glob.keeps I1.bk) hsu (hb1.keeps I1.bk) ((hb2 _ (by decide)).trans (by decide +kernel)) (by omega) (fun D hD hDu => shown_of (hD.trans hgd) (by omega) rd hf) fun h' tk' e d M => ?_)
    show MkP X pins σ Q (.ref e) ⟨h', g, dr, tk', os⟩
    obtain ⟨t1, hoe⟩ := M.obj
    have hns := M.ns
    obtain ⟨G', g1, g2⟩ := restrict h' fun b => decide (b ≠ e)
    have gk : ∀ b, b ≠ e → G'.get? b = h'.get? b := fun b hb => g1 b (decide_eq_true hb)
    have ge : G'.get? e = none := g2 e (by simp)
    have old : ∀ b o, hp.get? b = some o → G'.get? b = some o := fun b o q => (gk b (Nat.ne_of_lt (Nat.lt_of_lt_of_le (Heap.lt_size q) M.new))).trans (M.keep b o q)
    have ob : ObjOk X.prog X.w (upd H1 d (.xd [(F, v)])) G' d (.xd [(F, v)]) :=
      ⟨_, hns.at (fun o q => (gk d M.dne).trans q), fun f => relO_one rv f⟩
    have J : Inv X pins σ (upd H1 d (.xd [(F, v)])) ⟨G', g, dr, tk', os⟩ := I1.laid (t' := tk') old M.dbig ob
    refine ⟨e, _, _, ⟨G', g, dr, tk', os⟩, _, .ref C, some d, rfl, J, fun b o q => ?_, ge, hoe, ⟨rfl, rfl⟩, rfl, rfl, ?_, rfl, I1.bare, raises_own T.exC T.tyC, q1 d (I1.hok.fresh M.dbig)⟩
    · by_cases hb : b = e
      · have q' : G'.get? b = some o := q
        rw [hb, ge] at q'; cases q'
      · exact (gk b hb).symm.trans q
    · rw [upd_ne (Ne.symm M.dne)]
      exact I1.hok.fresh M.new
/-- raise C(e) -/
def tRaiseX (K : PySem.W.Frag) (C : Addr) (F : Str) (W : WX) (ta : TA) : TS := fun _ σ H => tMkX K C F ta σ H fun cls d H' => W cls d σ H'
theorem ps_raiseX {W : WX} {pos2 : Pos} (hc : X.calm = true) (FB : BaseX B newId initId bmB) (T : ExT X.prog X.K X.mg C fI F B newId initId bmB) (N : FName F) (hr : Room k X.A) (hgd : X.A.guards = some []) (gC : X.mg x = some (.ref C)) (hsu : X.mg "super" = none) (tk : Takes X W) (ha : PA X [a] ta) (hg : Gl X x := by rfl)
    (hdb : (x == ("__debug__" : Str)) = false := by decide) (he : starEach (a :: []) X.env = (false, eval a X.env) :: starEach [] X.env := by rfl) (hpl : (backTo pos (starEach [] X.env)).any (·.1) = false := by rfl) :
    PS X (.Raise (some (.Call (.Name x p) [a] [] pos)) none pos2) (tRaiseX X.K C F W ta) := ps_raise hc tk (pmk_x FB T N hr hgd hg gC hsu ha hdb he hpl)
end

/-! ### an exception that was caught and is kept by a name -/
/-- an exception of the class C at a, its dict at dx -/
def exv (a C dx : Addr) : HO := .ext fun h => ∃ (oe : Obj) (vs : Array Value), h.get? a = some oe ∧ oe.cls = .ref C ∧ oe.dict = some dx ∧ oe.data = .fields vs
theorem exv_ok {P : Program} {w : World} {H : Hp} {h : Heap} {a C dx : Addr} {oe : Obj} {vs : Array Value} (e : h.get? a = some oe) (c : oe.cls = .ref C) (d : oe.dict = some dx) (f : oe.data = .fields vs) : ObjOk P w H h a (exv a C dx) :=
  ⟨⟨oe, vs, e, c, d, f⟩, ⟨oe, e⟩, fun _ _ ⟨o, v, q, r⟩ k => ⟨o, v, k o q, r⟩⟩
theorem exv_at {P : Program} {w : World} {H : Hp} {h : Heap} {a C dx : Addr} (hok : HOk P w H h) (e : H a = some (exv a C dx)) : ∃ (oe : Obj) (vs : Array Value), h.get? a = some oe ∧ oe.cls = .ref C ∧ oe.dict = some dx ∧ oe.data = .fields vs := by
  have x : ObjOk P w H h a (.ext fun h => ∃ (oe : Obj) (vs : Array Value), h.get? a = some oe ∧ oe.cls = .ref C ∧ oe.dict = some dx ∧ oe.data = .fields vs) := hok a _ e
  exact x.1
section
variable {X : Cx} {pins : List (Addr × Obj)} {σ : L2.St} {H : Hp} {s : Shared}
/-- an object that was laid since the entry is tracked from now on -/
theorem track {a : Addr} {o : HO} (I : Inv X pins σ H s) (na : H a = none) (nL : a ≠ X.env.locals) (nC : ∀ x c, X.env.cells.lookup x = some c → c ≠ a) (nP : ∀ p ∈ X.pn ++ pins, p.1 ≠ a) (n0 : X.s_0.heap.get? a = none)
    (new : ObjOk X.prog X.w (upd H a o) s.heap a o) : Inv X pins σ (upd H a o) s := by
  have ne0 : ∀ b u, X.s_0.heap.get? b = some u → b ≠ a := fun b u e z => by rw [z, n0] at e; cases e
  have neH : ∀ b u, H b = some u → b ≠ a := fun b u e z => by rw [z, na] at e; cases e
  refine ⟨I.ok, I.os, I.bare, ⟨I.base.keep, I.base.slot, fun b u e n hx => ?_, I.base.there, fun b xs e => ?_, fun b u xs e => ?_, fun b ps e => ?_⟩, I.loc, I.cell, ?_, fun x c e => ?_, fun p hp => ?_, fun b u e => ?_, I.len⟩
  · rw [upd_ne (ne0 b u e)]
    exact I.base.free b u e n hx
  · have q := I.base.tups b xs e
    rw [upd_ne (neH b _ q)]
    exact q
  · have q := I.base.frzs b u xs e
    rw [upd_ne (neH b _ q)]
    exact q
  · obtain ⟨m, q⟩ := I.base.tbls b ps e
    exact ⟨m, by rw [upd_ne (neH b _ q)]; exact q⟩
  · rw [upd_ne (Ne.symm nL)]
    exact I.free
  · rw [upd_ne (nC x c e)]
    exact I.freeC x c e
  · obtain ⟨e, n, r⟩ := I.pin p hp
    exact ⟨e, by rw [upd_ne (nP p hp)]; exact n, r⟩
  · by_cases hb : b = a
    · subst hb
      rw [upd_same] at e
      cases e
      exact new
    · rw [upd_ne hb] at e
      exact (I.hok b u e).stay (fun _ _ _ q => q) (fun c q => by rw [upd_ne (neH c _ q)]; exact q) fun c xs q => by rw [upd_ne (neH c _ q)]; exact q
end
theorem flying_keeps {base h h' : Heap} {l : List Env} {e : Addr} {Z : Obj → Prop} (x : HandSPX.FlyingZ base l e Z h) (k : ∀ b o, h.get? b = some o → h'.get? b = some o) : HandSPX.FlyingZ base l e Z h' := by
  obtain ⟨a1, a2, a3, oe, vs, T, oT, ts, he, hz, hd, h1, hn, hT, ho, hts, h3⟩ := x
  exact ⟨fun b o e => k _ _ (a1 b o e), a2, a3.of_keeps fun b o e _ => ⟨o, k _ _ e, rfl⟩, oe, vs, T, oT, ts, k _ _ he, hz, hd, h1, hn, hT, k _ _ ho, hts, h3⟩

/-- what the clause «except (c1, c2, c3) as n: ..» wishes, where behind the suite the exception is kept -/
def wKeep (K : PySem.W.Frag) (c1 c2 c3 : Addr) (i : Nat) (ts : Addr → TS) (D : Ends) : WX := fun cls d σ H =>
  PySem.W.exmAny K cls [.ref c1, .ref c2, .ref c3] = some true ∧ ∃ C dx, cls = .ref C ∧ d = some dx ∧
    ∀ a, H a = none → ts a { nx := fun σ' H' => H' a = none ∧ D.nx (σ'.set i none) (upd H' a (exv a C dx)), rt := fun _ _ => False, bk := fun _ _ => False, ct := fun _ _ => False } (σ.set i (some (.ref a))) H
section
variable {X : Cx} {n x1 x2 x3 : Str} {p1 p2 p3 : Pos} {i : Nat} {c1 c2 c3 : Addr} {body suite : List Stmt} {b₀ : Stmt} {np pos pos' : Pos} {kt : Nat} {tb : WX → TS} {ts : Addr → TS}
theorem ps_try_keep (hs : X.stack = X.env :: X.outer) (hf : X.env.frame = some X.env.locals) (hN : X.N.Nodup) (hi : X.N[i]? = some n) (hln : X.env.kindOf n = some .local) (hex : X.ex = [])
    (hc1 : Names X x1 (.ref c1)) (hc2 : Names X x2 (.ref c2)) (hc3 : Names X x3 (.ref c3))
    (hb : ∀ (W : WX) (pn : List (Addr × Obj)) (xe : Value → Shared → Prop), Takes (X.tr pn xe) W → PassesOwn (model X.prog X.w) X.A X.env xe → PSs (X.tr pn xe) body (tb W))
    (hsu : ∀ (a : Addr) (oe : Obj) (pn : List (Addr × Obj)), PSs (X.suite a ((a, oe) :: pn)) (b₀ :: suite) (ts a)) :
    PS X (.Try body [.ExceptHandler (some (.Tuple [.Name x1 p1, .Name x2 p2, .Name x3 p3] kt np)) (some n) (b₀ :: suite) pos'] [] [] pos) (fun D σ H => tb (wKeep X.K c1 c2 c3 i ts D) D σ H) := by
  refine ⟨fun pins s σ H D I h => ?_⟩
  have ok := I.ok
  have hfr : X.A.frames = some (X.env :: X.outer) := by rw [ok.frames, hs]
  have hloc : Loc X.env.scope n := .inl hln
  refine wpAny_Try_except ?_
  refine wpAny_mono ((hb (wKeep X.K c1 c2 c3 i ts D) (X.pn ++ pins) (fun e s₁ => wpAny (model X.prog X.w) X.A (noteFrame e X.env) (fun _ s₂ => wpAny (model X.prog X.w) X.A (setFlight e none) (fun _ s₃ =>
    wpAny (model X.prog X.w) X.A (handleBy e X.env [.ExceptHandler (some (.Tuple [.Name x1 p1, .Name x2 p2, .Name x3 p3] kt np)) (some n) (b₀ :: suite) pos']) (SP X pins D) X.xe s₃) X.xe s₂) X.xe s₁) (fun u s' xx => ?_) PassesOwn.looking).run [] s σ H D (I.toTry _) h) (fun f s1 hsp => ?_) (fun e s1 he => he)
  · -- the catch
    obtain ⟨a, B, sI, pins', σ', H', cls, d, rfl, J', nb, up, sky, na, os, ag, hany, C, dx, rfl, rfl, hgo⟩ := xx
    have J : Inv X pins σ' H' sI := J'.ofTry ok
    have sky' : Sky B (X.env :: X.outer) a (Zc (.ref C) (some dx)) X.env.locals s'.heap := by rw [← hs]; exact sky
    show wpAny (model X.prog X.w) X.A (noteFrame (.ref a) X.env) _ _ _
    refine Sky.land Zc.steady hfr hf sky' fun h3 fl3 up3 => ?_
    have J3 : Inv X pins σ' H' { s' with heap := h3 } := J.landed nb fl3.1 (up.trans up3) os ag
    obtain ⟨oe3, vs3, he3, hz3, hd3⟩ := fl3.there
    have notFr : ∀ {h : Heap} {o : Obj} {vs : Array Value}, h.FunFrames B (X.env :: X.outer) → h.get? a = some o → o.data = .fields vs → a ∉ frs (X.env :: X.outer) := fun {h o vs} ff e dd hm => by
      obtain ⟨_, o', e', hnf⟩ := ff.mem hm
      rw [e] at e'; cases e'
      exact hnf _ dd
    have nfr := notFr fl3.2.2.1 he3 hd3
    have nfs : a ∉ frs X.stack := by rw [hs]; exact nfr
    have nL : a ≠ X.env.locals := fun z => nfr (List.mem_filterMap.mpr ⟨X.env, List.mem_cons_self, by rw [hf, z]⟩)
    have nF : a ∉ X.fs := fun hm => by
      obtain ⟨e, he, q⟩ := List.mem_filterMap.mp hm
      exact nfr (List.mem_filterMap.mpr ⟨e, List.mem_cons_of_mem _ he, q⟩)
    have nI : sI.heap.get? a = none := by
      cases e : sI.heap.get? a with
      | none => rfl
      | some o =>
        have z := nb a o e nfs
        rw [fl3.2.1] at z
        cases z
    have n0 : X.s_0.heap.get? a = none := by
      cases e : X.s_0.heap.get? a with
      | none => rfl
      | some o =>
        obtain ⟨o', q⟩ := J.base.there a o e (by rw [hex]; exact fun z => nomatch z)
        rw [nI] at q
        cases q
    have nP : ∀ p ∈ X.pn ++ pins, p.1 ≠ a := fun p hp z => by
      have q := (J.pin p hp).1
      rw [z, nI] at q
      cases q
    have S3 := J3.suite he3 hd3 na nL nF
    refine wpAny_handleBy_cons (codeAny_handlers_test ?_) (by intro q; cases q)
    have ld : ∀ {x : Str} {c : Value} {q : Pos} {Q : Value → Shared → Prop} {E : Value → Shared → Prop}, Names X x c → Q c { s' with heap := h3 } → wpAny (model X.prog X.w) (X.A.mark (some (.ref a))) (eval (.Name x q) X.env) Q E { s' with heap := h3 } := fun {x c q Q E} hc q => by
      obtain ⟨hg, hdbg, hm | ⟨hm, hv, hnn⟩⟩ := hc
      · exact ld_glob (X := X.suite a ((a, oe3) :: (X.pn ++ pins))) S3 hg hm q hdbg
      · exact ld_blt (X := X.suite a ((a, oe3) :: (X.pn ++ pins))) S3 hg hm hv q hnn hdbg
    refine wpAny_Tuple_spliced ?_
    show wpAny _ _ (spliced ((false, eval (.Name x1 p1) X.env) :: (false, eval (.Name x2 p2) X.env) :: (false, eval (.Name x3 p3) X.env) :: [])) _ _ _
    refine Calls.spliced_cons (ld hc1 (Calls.spliced_cons (ld hc2 (Calls.spliced_cons (ld hc3 (Calls.spliced_nil ⟨by rw [sizeLine_eq]; show 3 ≤ 16777216; decide, ?_⟩))))))
    have kp : ∀ b o, h3.get? b = some o → (h3.push { cls := .type "tuple", data := .seq [Value.ref c1, .ref c2, .ref c3].toArray }).get? b = some o := fun b o e => Heap.get?_push_of_some _ e
    have fl3' := flying_keeps fl3 kp
    have he3' := kp _ _ he3
    have LT : PySem.W.Looks (model X.prog X.w) (h3.push { cls := .type "tuple", data := .seq [Value.ref c1, .ref c2, .ref c3].toArray }) (typeOf (.ref a)) (.ref C) := fun A Q E s k q => wpAny_typeOf_ref (k _ _ he3') (by rw [hz3.1]; exact q)
    have LM := PySem.W.exm_tup3 (M := model X.prog X.w) (J3.kIn.keeps kp) LT (Heap.get?_push_size h3 rfl) hany
    refine LM.here ?_
    show codeAny _ _ (.handlers (.ref a) [.ExceptHandler none (some n) (b₀ :: suite) pos'] X.env) _ _
    refine codeAny_handlers_suite_as ?_
    have up4 : s'.heap.UpToSlots (h3.push { cls := .type "tuple", data := .seq [Value.ref c1, .ref c2, .ref c3].toArray }) := up3.trans (Heap.UpToSlots.of_keeps kp)
    refine HandSPX.lands_againZ (s := ⟨h3.push { cls := .type "tuple", data := .seq [Value.ref c1, .ref c2, .ref c3].toArray }, s'.gens, s'.drawn, s'.toks, s'.os⟩) fl3' fun h4 fl4 up5 => ?_
    have J4 : Inv X pins σ' H' { s' with heap := h4 } := J.landed nb fl4.1 ((up.trans up4).trans up5) os ag
    obtain ⟨oe4, vs4, he4, hz4, hd4⟩ := fl4.there
    have S4 := J4.suite he4 hd4 na nL nF
    refine store_ok (X := X.suite a ((a, oe4) :: (X.pn ++ pins))) (v := .ref a) S4 hN hi hloc rfl (fun s5 S5 => ?_) (.inr hln)
    refine wpAny_mono ((hsu a oe4 (X.pn ++ pins)).run [] s5 _ H' _ S5 (hgo a na)) (fun f s6 hsp => ?_) (fun _ _ z => False.elim z)
    cases f with
    | next =>
      obtain ⟨σ6, H6, S6, n6, q6⟩ := hsp
      have J6 : Inv X pins σ6 H6 s6 := S6.unsuite ok
      obtain ⟨ha6, _, _, _, _⟩ := S6.pin (a, oe4) (List.mem_append_left _ List.mem_cons_self)
      have K6 : Inv X pins σ6 (upd H6 a (exv a C dx)) s6 := track J6 n6 nL (fun x c e z => by
        obtain ⟨v, o, ho, hd⟩ := J6.cell x c e
        rw [z, ha6] at ho
        cases ho
        rw [hd4] at hd
        cases hd) nP n0 (exv_ok ha6 hz4.1 hz4.2 hd4)
      show wpAny (model X.prog X.w) X.A (do bindName X.env n .none; unbindBehindTheSuite X.env n pos') _ X.xe s6
      exact gone_ok K6 hN hi hln fun s7 J7 => ⟨_, _, J7, q6⟩
    | brk =>
      obtain ⟨_, _, _, q6⟩ := hsp
      exact q6.elim
    | cont =>
      obtain ⟨_, _, _, q6⟩ := hsp
      exact q6.elim
    | ret u =>
      obtain ⟨_, _, _, _, _, q6⟩ := hsp
      exact q6.elim
  · cases f with
    | next =>
      obtain ⟨σ', H', J', q⟩ := hsp
      exact wpAny_execs_nil ⟨σ', H', J'.ofTry ok, q⟩
    | brk =>
      obtain ⟨σ', H', J', q⟩ := hsp
      exact ⟨σ', H', J'.ofTry ok, q⟩
    | cont =>
      obtain ⟨σ', H', J', q⟩ := hsp
      exact ⟨σ', H', J'.ofTry ok, q⟩
    | ret u =>
      obtain ⟨v, σ', H', J', r, q⟩ := hsp
      exact ⟨v, σ', H', J'.ofTry ok, r, q⟩
end

/-! ### a kept exception: its field, isinstance, is None -/
section
variable {X : Cx} {e : Expr} {te : TE} {pos : Pos} {F : Str} {B newId initId : String} {bmB : List Value}
/-- e.F -/
def tExF (P : Program) (K : PySem.W.Frag) (mg : Str → Option Value) (F : Str) (te : TE) : TE := fun σ H Q => te σ H fun x H1 => ∃ (a C dx fI : Addr) (B newId initId : String) (bmB : List Value) (v : V), x = .ref a ∧ ExT P K mg C fI F B newId initId bmB ∧ H1 a = some (exv a C dx) ∧ H1 dx = some (.xd [(F, v)]) ∧ Q v H1
theorem pe_exf (he : PE X e te) (hb : attributeBase e F X.env (eval e X.env) = eval e X.env := by rfl) : PE X (.Attribute e F pos) (tExF X.prog X.K X.mg F te) := by
  refine ⟨fun pins s σ H Q I h => ?_⟩
  refine attr_of hb (thn (he.run pins s σ H _ I h) fun u s1 hh => ?_)
  obtain ⟨x, H1, I1, rx, a, C, dx, fI, B, newId, initId, bmB, v, ex, T, ea, ed, q⟩ := hh
  subst ex
  obtain rfl : u = Value.ref a := rx
  obtain ⟨oe, vs, h1, h2, h3, h4⟩ := exv_at I1.hok ea
  have hx : ObjOk X.prog X.w H1 s1.heap dx (.xd [(F, v)]) := I1.hok dx _ ed
  obtain ⟨mA, hns, hr⟩ := hx
  obtain ⟨od, ho, hl⟩ := lookIn_ns hns
  have l : List.lookup F [(F, v)] = some v := by simp [List.lookup]
  obtain ⟨u, hu, ru⟩ := RelO.some_of (v := v) (o := mA F) (by rw [← l]; exact hr F)
  have J : PySem.W.InstAt s1.heap a oe C (some od) := ⟨h1, h2, by unfold PySem.W.notCls; rw [h4] <;> rfl, by rw [h3]; exact ho⟩
  exact HandSPX.exc_get I1.kIn J T.ga T.gg T.exC (PySem.W.findObj_own T.hdC T.noF rfl (by rw [hl, hu])) (handed_of ru) ⟨v, H1, I1.tok _, ru, q⟩
/-- isinstance(e, c), e a kept exception -/
def rIsX (P : Program) (K : PySem.W.Frag) (mg : Str → Option Value) : List V → Hp → VK → Prop := fun xs H Q => ∃ (a C dx fI : Addr) (F : Str) (B newId initId : String) (bmB : List Value) (c : V) (cv : Value) (b : Bool), xs = [.ref a, c] ∧ ExT P K mg C fI F B newId initId bmB ∧ H a = some (exv a C dx) ∧ (∃ fs, H dx = some (.xd fs)) ∧ ClsV c cv ∧ PySem.W.kitOne K (.ref C) cv = some b ∧ Q (.bl b) H
theorem call_isX : CallR X (.builtin "isinstance") (rIsX X.prog X.K X.mg) := by
  intro pins s σ H xs us Q I r h
  obtain ⟨a, C, dx, fI, F, B, newId, initId, bmB, c, cv, b, rfl, T, ea, ⟨fs, ed⟩, k, e, q⟩ := h
  obtain ⟨u1, u2, rfl, r1, r2⟩ := vals2 r
  cases (show u1 = Value.ref a from r1)
  have e2 := k.eq r2
  subst e2
  obtain ⟨oe, vs, h1, h2, h3, h4⟩ := exv_at I.hok ea
  obtain ⟨mA, hns, _⟩ := (show ObjOk X.prog X.w H s.heap dx (.xd fs) from I.hok dx _ ed)
  obtain ⟨od, ho, _⟩ := lookIn_ns hns
  have J : PySem.W.InstAt s.heap a oe C (some od) := ⟨h1, h2, by unfold PySem.W.notCls; rw [h4] <;> rfl, by rw [h3]; exact ho⟩
  obtain ⟨cd, hcd, _⟩ := PySem.W.any_some T.hdC
  exact PySem.W.kia_one (PySem.W.kitx_exc (by rw [hcd]; rfl) T.ga T.gg T.exC T.ca T.cn T.ct T.cm) I.kIn J e (fun z => nomatch z) fun tk => ⟨.bl b, H, I.tok tk, rfl, q⟩
end
end Rm
set_option Elab.async false
set_option linter.all false
set_option maxRecDepth 100000
set_option maxHeartbeats 4000000
/-! # Data: its type, the length of its text; calls by keywords alone; // by great numbers of any sign -/
namespace Rm
open PySem PySem.Spec PyProof.Rows L2 RmX
def tyN : PyData → String
  | .none => "NoneType" | .bool _ => "bool" | .int _ => "int" | .str _ => "str" | .list _ => "list" | .tuple _ => "tuple" | .dict _ => "dict"
theorem dpTy {K : PySem.W.Frag} {H : Hp} {x : V} {d : PyData} (h : Dp K H x d) : TyX K H x (.type (tyN d)) := by
  cases h with
  | non => exact .base .non
  | bl b => exact .base (.bl b)
  | int i => exact .base (.int i)
  | str x => exact .base (.str x)
  | lst h1 _ =>
    rcases h1 with (h1 | ⟨o, h1⟩) | ⟨o, its, n, h1, h2, _⟩
    · exact .base (.lst h1)
    · exact .base (.frz h1)
    · exact .kList h1 h2
  | tup h1 _ =>
    rcases h1 with (h1 | ⟨o, h1⟩) | ⟨o, its, n, h1, h2, _⟩
    · exact .base (.tup h1)
    · exact .fTuple h1
    · exact .kTuple h1 h2
theorem dp_same {K : PySem.W.Frag} {H H' : Hp} (s : Same H H') : ∀ {d : PyData} {x : V}, Dp K H x d → Dp K H' x d := by
  have sl : ∀ {a : Addr} {xs : List V}, SqL K H a xs → SqL K H' a xs := fun h => s.seq h
  have st : ∀ {a : Addr} {xs : List V}, SqT K H a xs → SqT K H' a xs := fun {a xs} h => by
    rcases h with (h | ⟨o, h⟩) | h
    · exact .inl (.inl (s _ _ h))
    · exact .inl (.inr ⟨o, s _ _ h⟩)
    · exact .inr h
  intro d x h
  exact Dp.rec (motive_1 := fun x d _ => Dp K H' x d) (motive_2 := fun xs ds _ => DpAll K H' xs ds) .non .bl .int .str (fun h1 _ ih => .lst (sl h1) ih) (fun h1 _ ih => .tup (st h1) ih) .nil (fun _ _ i1 i2 => .cons i1 i2) h
/-! ### how long a text is -/
mutual
def cst : PyData → Nat
  | .none => 4
  | .bool _ => 5
  | .int _ => 2000
  | .str x => (reprText x).length
  | .list xs => cstAll xs + 4
  | .tuple xs => cstAll xs + 4
  | .dict _ => 0
def cstAll : List PyData → Nat
  | [] => 0
  | x :: xs => cst x + 2 + cstAll xs
end
theorem listText_le (ts : List Str) : (listText ts).length ≤ piled ts + 4 := by
  cases ts with
  | nil => decide +kernel
  | cons t r =>
    have h := textFrom_length_pos r 1 (("[" : Str) ++ (if (0 : Nat) > 0 then ", " else "" : String) ++ t) (Nat.succ_pos 0)
    have e : ((("[" : Str) ++ (if (0 : Nat) > 0 then ", " else "" : String) ++ t)).length = 1 + t.length := by
      rw [strLen_append, strLen_append]; rfl
    have hX : (listText (t :: r)).length = (textFrom 0 "[" (t :: r)).length + 1 := by
      show (textFrom 0 "[" (t :: r) ++ "]").length = _
      rw [strLen_append]; rfl
    have hY : (textFrom 0 "[" (t :: r)).length = (textFrom 1 (("[" : Str) ++ (if (0 : Nat) > 0 then ", " else "" : String) ++ t) r).length := rfl
    rw [hX, hY, h, e, piled_cons]; omega
mutual
theorem shown_le : ∀ d : PyData, d.showable = true → d.hasDict = false → d.shown.length ≤ cst d
  | .none, _, _ => by simp only [PyData.shown, cst]; decide +kernel
  | .bool b, _, _ => by cases b <;> (simp only [PyData.shown, cst]; decide +kernel)
  | .int i, h, _ => by
    have hi : i.natAbs.log2 < 1920 := by simpa [PyData.showable] using h
    have e := int_text_length_le (k := 1920) (by decide) hi
    simp only [PyData.shown, cst]
    rw [PySem.ofString_length]; omega
  | .str x, _, _ => by simp only [PyData.shown, cst]; exact Nat.le_refl _
  | .list xs, h, h2 => by
    have ih := shownAll_le xs (by simpa [PyData.showable] using h) (by simpa [PyData.hasDict] using h2)
    have := listText_le (PyData.shownAll xs)
    simp only [PyData.shown, cst]; omega
  | .tuple xs, h, h2 => by
    have ih := shownAll_le xs (by simpa [PyData.showable] using h) (by simpa [PyData.hasDict] using h2)
    have := fmt_text (PyData.shownAll xs)
    simp only [PyData.shown, cst]; omega
  | .dict _, _, h => by simp [PyData.hasDict] at h
theorem shownAll_le : ∀ xs : List PyData, PyData.showableAll xs = true → PyData.hasDictAll xs = false → piled (PyData.shownAll xs) ≤ cstAll xs
  | [], _, _ => Nat.zero_le _
  | x :: xs, h, h2 => by
    have h' : x.showable = true ∧ PyData.showableAll xs = true := by simpa [PyData.showableAll] using h
    have h2' : x.hasDict = false ∧ PyData.hasDictAll xs = false := by simpa [PyData.hasDictAll] using h2
    have a := shown_le x h'.1 h2'.1
    have b := shownAll_le xs h'.2 h2'.2
    simp only [PyData.shownAll, piled_cons, cstAll]; omega
end
theorem fit_of {d : PyData} (h1 : d.showable = true) (h2 : d.hasDict = false) (h3 : d.depth ≤ 20) (h4 : cst d ≤ 1000000) : Fit d := ⟨h1, h2, h3, Nat.le_trans (shown_le d h1 h2) h4⟩
/-! ### // -/
section
variable {X : Cx}
theorem op_fdivZ : OpR X (binaryOp .FloorDiv) (rI (fun _ j => j ≠ 0 ∧ j.natAbs.log2 < 9000) fun i j => .int (i.fdiv j)) := opI fun i j _ _ _ _ _ hc q => floordiv_int hc.1 q (.inl (PyProof.noPylong_of_log2 hc.2))
end
/-! ### f(k = v, ..) -/
section
variable {X : Cx} {k : Nat} {f : Addr} {fd : FuncData} {ps ks : List Str} {sp : Sp} {E : L2.St → XK} {x : Str} {p pos : Pos} {kws : List Keyword} {tk : TA} {g : List Value → List Value → List Value} {gV : List V → List V → List V}
def tCallKG (sp : Sp) (gV : List V → List V → List V) (E : L2.St → XK) (tk : TA) : TE := fun σ H Q => tk σ H fun zs H2 => sp (gV [] zs) H2 Q (E σ)
theorem pe_callKG (F : FnG X.prog X.w X.K X.mg X.base k f fd ps sp) (hr : Room k X.A) (hgd : X.A.guards = some []) (hg : Gl X x) (hm : X.mg x = some (.ref f)) (hk : PySem.W.keepIn X.K (.ref f) = true) (hb : KBinds X.K fd ps ks g gV) (hx : ∀ σ, PassesAt (L2.CX X.prog X.w) X σ (E σ))
    (hkw : PK X kws tk) (hall : (backToKw pos (keywordEach kws X.env)).all (·.1.isSome) = true := by rfl) (hks : (backToKw pos (keywordEach kws X.env)).filterMap (·.1) = ks := by rfl)
    (hdb : (x == ("__debug__" : Str)) = false := by decide) (hpl : ((backTo pos (starEach [] X.env)).any (·.1) || (backToKw pos (keywordEach kws X.env)).any (·.1.isNone)) = false := by rfl) :
    PE X (.Call (.Name x p) [] kws pos) (tCallKG sp gV E tk) := by
  refine ⟨fun pins s σ H Q I h => ?_⟩
  refine wpAny_Call_Name_kw (ld_glob I hg hm ?_ hdb)
  refine PySem.W.callWith_KW0 (h₀ := X.base) I.ok.mod.kin hk hall ?_ hpl
  refine thn (hkw.run pos pins s σ H _ I h) fun ws s2 ⟨zs, H2, I2, rz, q2⟩ => ⟨I2.kIn, ?_⟩
  rw [hks]
  have r2 := hb.rel (vs := []) (us := []) .nil rz
  have hl : (g [] ws).length = ps.length := by rw [← r2.length]; exact F.len _ _ _ _ q2
  refine wpAny_call (codeAny_mono (F.run X.A X.stack s2 H2 ⟨[], ks.zip ws⟩ (g [] ws) (gV [] zs) Q (E σ) hr hgd I2.env0 (hb.to s2 [] ws I2.kIn hl) r2 q2) fun r s' hq => ?_)
  cases r with
  | error e => exact hx σ pins H2 s2 e s' I2 hq
  | ok fl =>
    cases fl with
    | ret u => exact I2.after hq
    | next => exact False.elim hq
    | brk => exact False.elim hq
    | cont => exact False.elim hq
end
end Rm
set_option Elab.async false
set_option linter.all false
set_option maxRecDepth 100000
set_option maxHeartbeats 4000000
/-! # The law is called where nothing is being shown -/
namespace Rm
open PySem PySem.Spec PyProof.Rows L2 RmX
section
variable {P : Program} {w : World} {K : PySem.W.Frag} {mg mb : Str → Option Value} {k : Nat} {fa a : Addr} {fd : FuncData} {x : Str} {sp : Sp} {t : Shared} {cells : List Value} {ns : List Int}
/-- how the law ends -/
abbrev Fin1 (t : Shared) : Result → Shared → Prop := fun r t' => r = .ok (.ret (.bool true)) ∧ OldK t.heap t'.heap ∧ t'.os = t.os ∧ AllBare t'.gens
/-- a view of the heap: the script alone may be tracked -/
structure View (P : Program) (w : World) (K : PySem.W.Frag) (t : Shared) (a : Addr) (xs : List V) (T : Hp) : Prop where
  only : Only T
  list : SqL K T a xs
  holds : HOk P w T t.heap
  at_a : ∀ b, T b ≠ none → b = a
  out : T a ≠ none → K.lookup a = none
theorem lawG_view {T : Hp} (kin : K.In t.heap) (gl : t.heap.Ns mainGlobals mg) (bl : t.heap.Ns builtinsNs mb) (bb : ∀ y : Str, y ≠ "__name__" → mb y = bootBuiltins y) (nol : t.heap.NoLimit) (gens : t.gens = #[])
    (obj : t.heap.get? a = some { cls := .type "list", data := .seq cells.toArray }) (rm : Room k callerA)
    (promise : ∀ base : Heap, K.In base → base.Ns mainGlobals mg → FnG P w K mg base k fa fd [x] sp) (bnd : ∀ (s : Shared) (u : Value), BindsTo s fd ⟨[u], []⟩ [(x, u)])
    (V1 : View P w K t a (ns.map V.int) T) (kept : sp [.ref a] T (fun v _ => v = .bl true) fun _ _ _ => False) :
    codeAny (model P w) callerA (.call (.ref fa) ⟨[.ref a], []⟩) (Fin1 t) t := by
  -- dicts are not tracked
  have untr : ∀ {b : Addr} {o : Obj} {es : Array DictEntry} {ep : Nat}, t.heap.get? b = some o → o.data = .dict es ep → T b = none := by
    intro b o es ep e d
    rcases hq : T b with _ | u
    · rfl
    · exfalso
      have eb := V1.at_a b (by rw [hq]; exact fun z => nomatch z)
      rw [eb, obj] at e
      cases e
      exact nomatch d
  have space : ∀ {b : Addr} {m : Str → Option Value}, t.heap.Ns b m → (hidT t.heap T).Ns b m := by
    rintro b m ⟨o, es, ep, e, d, r⟩
    exact ⟨o, es, ep, hidT_get e (untr e d), d, r⟩
  have kbase : K.In (hidT t.heap T) := by
    intro b o e
    refine hidT_get (kin b o e) ?_
    rcases hq : T b with _ | u
    · rfl
    · exfalso
      have eb := V1.at_a b (by rw [hq]; exact fun z => nomatch z)
      rw [eb, V1.out (by rw [← eb, hq]; exact fun z => nomatch z)] at e
      cases e
  have nolim : (hidT t.heap T).NoLimit := by
    obtain ⟨mc, l1, l2⟩ := nol
    exact ⟨mc, space l1, l2⟩
  have modu : Mod K mg (hidT t.heap T) := ⟨kbase, space gl, ⟨mb, space bl, bb⟩, nolim⟩
  have enter : Env0 P w K mg (hidT t.heap T) callerA [] t T :=
    ⟨rfl, modu, fun b o => of_hidT, Nat.le_of_eq (hidT_size _ _), trivial, (fun b z => nomatch z), V1.holds, .of_eq gens⟩
  have ran := (promise _ kbase (space gl)).run callerA [] t T ⟨[.ref a], []⟩ [.ref a] [.ref a] _ _ rm rfl enter (bnd t (.ref a)) (.cons rfl .nil) kept
  refine codeAny_mono ran ?_
  rintro (e | fl) t' h
  · obtain ⟨_, _, _, _, _, _, _, _, _, _, _, _, z⟩ := h
    exact z.elim
  · cases fl with
    | ret u =>
      obtain ⟨v, T', hos, hb, un, ok', rv, ev⟩ := h
      have ev : v = .bl true := ev
      rw [ev] at rv
      have eu : u = Value.bool true := rv
      rw [eu]
      refine ⟨rfl, OldK.of_keep ?_, hos, hb⟩
      intro b o e
      rcases hq : T b with _ | u
      · exact un.keep b o e hq (fun z => nomatch z) (fun z => nomatch z)
      · rcases V1.only b with z | ⟨ob, xs, z⟩
        · rw [hq] at z
          cases z
        · have e1 := (V1.holds b _ z).1
          have e2 := (ok' b _ (un.frzs b ob _ z)).1
          rw [e] at e1
          cases e1
          exact e2
    | next => exact h.elim
    | brk => exact h.elim
    | cont => exact h.elim
theorem lawG_call (kin : K.In t.heap) (gl : t.heap.Ns mainGlobals mg) (bl : t.heap.Ns builtinsNs mb) (bb : ∀ y : Str, y ≠ "__name__" → mb y = bootBuiltins y) (nol : t.heap.NoLimit) (gens : t.gens = #[])
    (obj : t.heap.get? a = some { cls := .type "list", data := .seq cells.toArray }) (whole : IntsAre cells ns) (len : ns.length ≤ sizeLine) (rm : Room k callerA)
    (promise : ∀ base : Heap, K.In base → base.Ns mainGlobals mg → FnG P w K mg base k fa fd [x] sp) (bnd : ∀ (s : Shared) (u : Value), BindsTo s fd ⟨[u], []⟩ [(x, u)])
    (kept : ∀ T : Hp, Only T → SqL K T a (ns.map V.int) → sp [.ref a] T (fun v _ => v = .bl true) fun _ _ _ => False) :
    codeAny (model P w) callerA (.call (.ref fa) ⟨[.ref a], []⟩) (Fin1 t) t := by
  have rel : Vals (ns.map V.int) cells := L2.vals_ints whole
  have cnt : cells.length = ns.length := whole.length
  rcases hl : K.lookup a with _ | o
  · -- the script is new: it is tracked, frozen
    let fz : HO := .frz { cls := .type "list", data := .seq cells.toArray } (.lst (ns.map V.int))
    have at1 : ∀ b, (if b = a then some fz else none) = none ∨ b = a := by
      intro b
      by_cases h : b = a
      · exact .inr h
      · exact .inl (if_neg h)
    have VW : View P w K t a (ns.map V.int) (fun b => if b = a then some fz else none) := by
      refine ⟨?_, .inl (.inr ⟨_, if_pos rfl⟩), ?_, ?_, fun _ => hl⟩
      · intro b
        by_cases h : b = a
        · exact .inr ⟨_, _, if_pos h⟩
        · exact .inl (if_neg h)
      · intro b u e
        rcases at1 b with z | z
        · rw [show (if b = a then some fz else none) = some u from e] at z
          cases z
        · subst z
          cases (if_pos rfl).symm.trans e
          exact ⟨obj, by rw [List.length_map]; exact len, cells, _, rel, obj⟩
      · intro b z
        rcases at1 b with h | h
        · exact absurd h z
        · exact h
    exact lawG_view kin gl bl bb nol gens obj rm promise bnd VW (kept _ VW.only VW.list)
  · -- the script is the module's own
    have e := kin a o hl
    rw [obj] at e
    cases e
    have VW : View P w K t a (ns.map V.int) (fun _ => none) := by
      refine ⟨fun _ => .inl rfl, .inr ⟨_, cells.toArray, _, hl, rfl, rfl, rfl, ?_, by simpa using rel⟩, (fun b u z => nomatch z), fun b z => absurd rfl z, fun z => absurd rfl z⟩
      rw [List.size_toArray, cnt]
      exact len
    exact lawG_view kin gl bl bb nol gens obj rm promise bnd VW (kept _ VW.only VW.list)
end
/-- the goal that the head leaves, from the law's promise -/
theorem walk_ofG {l : PySem.W.OpenLaw} {n k : Nat} {q : Program} {loose : List Str} {XP : (Str → Option Value) → Heap → Prop} {YP : World → Heap → Prop} {d : DefRec} {K : Params → PySem.W.Frag} {sp : PySem.W.Frag → Sp} {x : Str}
    (most : l.most = some n) (fits : n ≤ sizeLine) (nodef : d.params.defaults = []) (rm : Room k callerA) (own : ∀ (w : World) (h : Heap), YP w h → (K w.params).In h)
    (F : ∀ (w : World) (mg : Str → Option Value) (fa : Addr) (h : Heap), (K w.params).In h → h.Ns mainGlobals mg → mg d.name = some (.ref fa) →
      ∃ fd : FuncData, (∀ (s : Shared) (u : Value), BindsTo s fd ⟨[u], []⟩ [(x, u)]) ∧ ∀ base : Heap, (K w.params).In base → base.Ns mainGlobals mg → FnG l.prog w (K w.params) mg base k fa fd [x] (sp (K w.params)))
    (kept : ∀ (K : PySem.W.Frag) (T : Hp) (a : Addr) (ns : List Int), ns.length ≤ n → SqL K T a (ns.map V.int) → sp K [.ref a] T (fun v _ => v = .bl true) fun _ _ _ => False) :
    PySem.W.WalkO q loose XP YP l.row.toRowW d [] (fun f vs => PySem.call f vs) := by
  refine Att.attach_call most nodef ?_
  intro w s₀ t mg mb fa o pm cd doc a cells ns G Y ho hd hcd hmg hobj hints hlen hg
  obtain ⟨fd, bnd, promise⟩ := F w mg fa _ (own w _ Y) G.T.g hmg
  exact lawG_call (own w _ Y) G.T.g G.T.b G.T.builtins G.T.nolimit hg hobj hints (Nat.le_trans hlen fits) rm promise bnd fun T _ hS => kept _ T a ns hlen hS
end Rm
/-! # Fractions in lowest terms, in plain Lean -/
namespace Mth
/-- the sign and the common divisor by which above and below are divided -/
def shr (a b : Int) : Int := if b < 0 then -((Nat.gcd a.natAbs b.natAbs : Nat) : Int) else ((Nat.gcd a.natAbs b.natAbs : Nat) : Int)
def nrm (a b : Int) : Int × Int := (a.fdiv (shr a b), b.fdiv (shr a b))
def isNum (n d : Int) : Prop := 1 ≤ d ∧ Nat.gcd n.natAbs d.natAbs = 1
theorem gcd_pos {a b : Int} (h : b ≠ 0) : 0 < Nat.gcd a.natAbs b.natAbs := Nat.gcd_pos_of_pos_right _ (by omega)
theorem shr_ne {a b : Int} (h : b ≠ 0) : shr a b ≠ 0 := by
  have := gcd_pos (a := a) h
  unfold shr
  split <;> omega
theorem shr_abs (a b : Int) : (shr a b).natAbs = Nat.gcd a.natAbs b.natAbs := by
  unfold shr
  split <;> omega
theorem shr_dvd_l (a b : Int) : shr a b ∣ a := by
  rw [← Int.natAbs_dvd_natAbs, shr_abs]
  exact Nat.gcd_dvd_left _ _
theorem shr_dvd_r (a b : Int) : shr a b ∣ b := by
  rw [← Int.natAbs_dvd_natAbs, shr_abs]
  exact Nat.gcd_dvd_right _ _
theorem fdiv_mul {a s : Int} (h : s ∣ a) : a.fdiv s * s = a := Int.fdiv_mul_cancel h
/-- nrm a b = (n, d): what is known -/
structure Nrm (a b n d : Int) : Prop where
  num : isNum n d
  cross : n * b = a * d
  la : n.natAbs ≤ a.natAbs
  lb : d.natAbs ≤ b.natAbs
theorem nrm_spec {a b : Int} (h : b ≠ 0) : Nrm a b (nrm a b).1 (nrm a b).2 := by
  have e1 : a.fdiv (shr a b) * shr a b = a := fdiv_mul (shr_dvd_l a b)
  have e2 : b.fdiv (shr a b) * shr a b = b := fdiv_mul (shr_dvd_r a b)
  have hs := shr_ne (a := a) h
  have hg := gcd_pos (a := a) h
  have habs := shr_abs a b
  show Nrm a b (a.fdiv (shr a b)) (b.fdiv (shr a b))
  generalize hn : a.fdiv (shr a b) = n at *
  generalize hd : b.fdiv (shr a b) = d at *
  have a1 : n.natAbs * Nat.gcd a.natAbs b.natAbs = a.natAbs := by rw [← habs, ← Int.natAbs_mul, e1]
  have a2 : d.natAbs * Nat.gcd a.natAbs b.natAbs = b.natAbs := by rw [← habs, ← Int.natAbs_mul, e2]
  refine ⟨⟨?_, ?_⟩, ?_, ?_, ?_⟩
  · -- the sign
    have hd0 : d ≠ 0 := fun z => by rw [z, Int.zero_mul] at e2; exact h e2.symm
    by_cases hb : b < 0
    · have es : shr a b < 0 := by unfold shr; rw [if_pos hb]; omega
      by_cases hd' : d < 0
      · exact absurd (Int.mul_pos_of_neg_of_neg hd' es) (by omega)
      · omega
    · have es : 0 < shr a b := by unfold shr; rw [if_neg hb]; omega
      by_cases hd' : d < 0
      · exact absurd (Int.mul_neg_of_neg_of_pos hd' es) (by omega)
      · omega
  · have key : Nat.gcd (n.natAbs * Nat.gcd a.natAbs b.natAbs) (d.natAbs * Nat.gcd a.natAbs b.natAbs) = Nat.gcd n.natAbs d.natAbs * Nat.gcd a.natAbs b.natAbs := Nat.gcd_mul_right _ _ _
    rw [a1, a2] at key
    have k2 : Nat.gcd n.natAbs d.natAbs * Nat.gcd a.natAbs b.natAbs = 1 * Nat.gcd a.natAbs b.natAbs := by rw [Nat.one_mul]; exact key.symm
    exact Nat.eq_of_mul_eq_mul_right hg k2
  · have : n * (d * shr a b) = n * shr a b * d := by rw [Int.mul_comm d, ← Int.mul_assoc]
    rw [e2, e1] at this
    exact this
  · have : n.natAbs * 1 ≤ n.natAbs * Nat.gcd a.natAbs b.natAbs := Nat.mul_le_mul_left _ hg
    omega
  · have : d.natAbs * 1 ≤ d.natAbs * Nat.gcd a.natAbs b.natAbs := Nat.mul_le_mul_left _ hg
    omega
theorem num_unique {n d n' d' : Int} (h : isNum n d) (h' : isNum n' d') (e : n * d' = n' * d) : n = n' ∧ d = d' := by
  obtain ⟨h1, h2⟩ := h
  obtain ⟨h1', h2'⟩ := h'
  have ea : n.natAbs * d'.natAbs = n'.natAbs * d.natAbs := by rw [← Int.natAbs_mul, ← Int.natAbs_mul, e]
  have c : Nat.Coprime d.natAbs n.natAbs := Nat.Coprime.symm h2
  have c' : Nat.Coprime d'.natAbs n'.natAbs := Nat.Coprime.symm h2'
  have d1 : d.natAbs ∣ d'.natAbs := c.dvd_of_dvd_mul_left ⟨n'.natAbs, by rw [ea, Nat.mul_comm]⟩
  have d2 : d'.natAbs ∣ d.natAbs := c'.dvd_of_dvd_mul_left ⟨n.natAbs, by rw [← ea, Nat.mul_comm]⟩
  have dd : d.natAbs = d'.natAbs := Nat.dvd_antisymm d1 d2
  have dd' : d = d' := by omega
  subst dd'
  exact ⟨Int.eq_of_mul_eq_mul_right (by omega) e, rfl⟩
/-- the number that a fraction with the same worth has -/
theorem nrm_is {a b n d : Int} (hb : b ≠ 0) (h : isNum n d) (e : n * b = a * d) : nrm a b = (n, d) := by
  have s := nrm_spec (a := a) hb
  have k : (nrm a b).1 * d = n * (nrm a b).2 := by
    have e1 : (nrm a b).1 * b = a * (nrm a b).2 := s.cross
    have : (nrm a b).1 * d * b = n * (nrm a b).2 * b := by
      calc (nrm a b).1 * d * b = (nrm a b).1 * b * d := by rw [Int.mul_assoc, Int.mul_comm d b, ← Int.mul_assoc]
        _ = a * (nrm a b).2 * d := by rw [e1]
        _ = a * d * (nrm a b).2 := by rw [Int.mul_assoc, Int.mul_comm (nrm a b).2 d, ← Int.mul_assoc]
        _ = n * b * (nrm a b).2 := by rw [e]
        _ = n * (nrm a b).2 * b := by rw [Int.mul_assoc, Int.mul_comm b, ← Int.mul_assoc]
    exact Int.eq_of_mul_eq_mul_right hb this
  obtain ⟨e1, e2⟩ := num_unique s.num h k
  exact Prod.ext e1 e2
end Mth
set_option Elab.async false
set_option linter.all false
set_option maxRecDepth 100000
set_option maxHeartbeats 4000000
/-! # Own exceptions whose context is None, raised in a def; and one that a suite raises «from None» -/
namespace Rm
open PySem PySem.Spec PyProof.Rows L2 RmX
/-- a def's promise where nothing is being shown; what leaves it has no context -/
structure FnN (P : Program) (w : World) (K : PySem.W.Frag) (mg : Str → Option Value) (base : Heap) (k : Nat) (f : Addr) (fd : FuncData) (ps : List Str) (sp : Sp) : Prop where
  len : ∀ vs H Q E, sp vs H Q E → vs.length = ps.length
  run : ∀ (A : Around) (outer : List Env) (s : Shared) (H : Hp) (args : Args) (us : List Value) (vs : List V) (Q : VK) (E : XK), Room k A → A.guards = some [] → Env0 P w K mg base A outer s H → BindsTo s fd args (ps.zip us) → Vals vs us → sp vs H Q E →
    codeAny (model P w) A (.call (.ref f) args) (CR (L2N.CX P w) outer P w H s Q E) s
theorem FnN.mono {P : Program} {w : World} {K : PySem.W.Frag} {mg : Str → Option Value} {base : Heap} {j k : Nat} {f : Addr} {fd : FuncData} {ps : List Str} {sp : Sp} (F : FnN P w K mg base j f fd ps sp) (h : j ≤ k) :
    FnN P w K mg base k f fd ps sp := ⟨F.len, fun A outer s H args us vs Q E hr => F.run A outer s H args us vs Q E (hr.mono h)⟩
section
variable {P : Program} {w : World} {K : PySem.W.Frag} {mg : Str → Option Value} {base : Heap}
/-- a def with defaults, by its body -/
theorem okDN {x qual : Str} {params : Arguments} {body : List Stmt} {scope : Scope} {dvs : List V} {kws : List (Str × V)} {f : Addr} {fd : FuncData} {N ps : List Str} {k : Nat} {sp : Sp} (F : FunD K x qual params body scope dvs kws f fd) (S : FnScope N ps scope) (len : ∀ vs H Q E, sp vs H Q E → vs.length = ps.length)
    (hbody : ∀ (cdv : Value) (A : Around) (outer : List Env) (s : Shared) (H : Hp) (vs : List V) (Q : VK) (E : XK), Room k (A.deeper (envOfC qual scope s.heap.objs.size f cdv)) → A.guards = some [] → sp vs H Q E →
      ∃ t, PSs (cxOf (L2N.CX P w) P w K mg base N qual scope f cdv A outer s H E) body t ∧ t { nx := fun _ H' => Q .non H', rt := Q } (start N vs) H) : FnN P w K mg base (k + 1) f fd ps sp := by
  obtain ⟨oc, od, dV, kV, doc, pm, an, cdv, ct, osl, rfl, lk, hcd, _, _⟩ := F.ex
  refine ⟨len, fun A outer s H args us vs Q E hr hgd e0 hb r hsp => ?_⟩
  have size := len _ _ _ _ hsp
  have inK : K.In s.heap := e0.mod.kin.keeps fun b o e => (e0.bs b o e).1
  have free : s.heap.NoLimit := e0.mod.nolimit.keeps fun b o e => (e0.bs b o e).1
  refine codeAny_call_function hr.depth (inK _ _ lk) rfl S.co S.gen rfl (PySem.W.codeRec_of inK hcd) (hb _ _ _ _ ?_)
  refine wpAny_newFunctionEnv_cells S.kind (fun y hy => ?_) fun env he s1 entered => ?_
  · obtain ⟨n, v⟩ := y
    rcases S.par n (List.of_mem_zip hy).1 with q | q
    · exact .inl q
    · exact .inr ⟨q, PySem.W.cellsFrom_some _ _ _ (.inl q)⟩
  subst he
  refine ⟨free.keeps entered.toInCall.keep, codeAny_func ?_⟩
  obtain ⟨t, walk, goal⟩ := hbody cdv A outer s H vs Q E (hr.deeper _) hgd hsp
  refine wpAny_mono (walk.run [] s1 (start N vs) H _ (inv_start S hr.hd e0 size r entered) goal) (fun fl s' left => ?_) fun e s' left => left
  cases fl with
  | ret u =>
    obtain ⟨v, σ', H', J, rv, q⟩ := left
    exact ⟨v, H', J.os, J.bare, J.base, J.hok, rv, q⟩
  | next =>
    obtain ⟨σ', H', J, q⟩ := left
    exact ⟨V.non, H', J.os, J.bare, J.base, J.hok, rfl, q⟩
  | brk => exact left.elim fun _ h => h.elim fun _ h => h.2.elim
  | cont => exact left.elim fun _ h => h.elim fun _ h => h.2.elim
end
section
variable {X : Cx} {k : Nat} {f : Addr} {fd : FuncData} {ps : List Str} {sp : Sp} {dvs : List V} {ds : List Value} {E : L2.St → XK} {x : Str} {p pos : Pos} {e : Expr} {es : List Expr} {t : TA}
/-- f(e, ..), where what f raises has no context -/
theorem pe_callN (F : FnN X.prog X.w X.K X.mg X.base k f fd ps sp) (hr : Room k X.A) (hgd : X.A.guards = some []) (hg : Gl X x) (hm : X.mg x = some (.ref f)) (hk : PySem.W.keepIn X.K (.ref f) = true) (hb : Binds X.K fd ps ds) (hd : Vals dvs ds) (hx : ∀ σ, PassesAt (L2N.CX X.prog X.w) X σ (E σ))
    (ha : PA X (e :: es) t) (hdb : (x == ("__debug__" : Str)) = false := by decide) (he : starEach (e :: es) X.env = (false, eval e X.env) :: starEach es X.env := by rfl) (hpl : (backTo pos (starEach es X.env)).any (·.1) = false := by rfl) :
    PE X (.Call (.Name x p) (e :: es) [] pos) (tCallSD sp dvs E t) := by
  refine ⟨fun pins s σ H Q I h => wpAny_Call_Name_kw (ld_glob I hg hm ?_ hdb)⟩
  refine PySem.W.callWith_K (h₀ := X.base) I.ok.mod.kin hk (thn (ha.run pos pins s σ H _ I h) fun us s1 ⟨vs, H1, I1, r, q⟩ => ⟨I1.kIn, ?_⟩) he hpl
  have r2 : Vals (vs ++ dvs) (us ++ ds) := r.append hd
  have size : (us ++ ds).length = ps.length := by rw [← r2.length]; exact F.len _ _ _ _ q
  refine wpAny_call (codeAny_mono (F.run X.A X.stack s1 H1 ⟨us, []⟩ (us ++ ds) (vs ++ dvs) Q (E σ) hr hgd I1.env0 (hb s1 us I1.kIn size) r2 q) fun r s' left => ?_)
  cases r with
  | error e => exact hx σ pins H1 s1 e s' I1 left
  | ok fl =>
    cases fl with
    | ret u => exact I1.after left
    | next => exact left.elim
    | brk => exact left.elim
    | cont => exact left.elim
end
section
variable {X : Cx} {C fI : Addr} {F : Str} {B newId initId : String} {bmB : List Value} {a : Expr} {ta : TA} {x : Str} {p pos pos2 : Pos} {k : Nat}
/-- C(e): made, whatever is being handled -/
theorem pmk5_x (FB : BaseX B newId initId bmB) (T : ExT X.prog X.K X.mg C fI F B newId initId bmB) (N : FName F) (hr : L2H.RoomH k X.A) (hgd : X.A.guards = some []) (hg : Gl X x) (gC : X.mg x = some (.ref C)) (hsu : X.mg "super" = none) (ha : PA X [a] ta)
    (hdb : (x == ("__debug__" : Str)) = false := by decide)
    (he : starEach (a :: []) X.env = (false, eval a X.env) :: starEach [] X.env := by rfl) (hpl : (backTo pos (starEach [] X.env)).any (·.1) = false := by rfl) :
    L2H.PMk5 X (.Call (.Name x p) [a] [] pos) (tMkX X.K C F ta) := by
  intro pins s σ H Q I h
  refine wpAny_Call_Name_kw (ld_glob I hg gC ?_ hdb)
  refine PySem.W.callWith_K (h₀ := X.base) I.ok.mod.kin T.kC (thn (ha.run pos pins s σ H _ I h) fun us s1 hh => ?_) he hpl
  obtain ⟨vs, H1, I1, r1, v, d, ev, hd, hf, q1⟩ := hh
  subst ev
  refine ⟨I1.kIn, ?_⟩
  cases r1 with
  | cons rv rn =>
    rename_i v' us'
    cases rn
    show wpAny _ _ (call (.ref C) [v']) _ _ _
    have hlim := I1.nolimit
    obtain ⟨as, rd⟩ := Dp.reads I1 d v v' hd rv
    have hun := hr.un
    have hdp := hr.dp
    obtain ⟨mb, hb1, hb2⟩ := I1.mod.blt
    obtain ⟨hp, g, dr, tk, os⟩ := s1
    refine wpAny_call (exc_made FB T N I1.kIn hlim (I1.mod.glob.keeps I1.bk) hsu (hb1.keeps I1.bk) ((hb2 _ (by decide)).trans (by decide +kernel)) (by omega) (fun D hD hDu => shown_of (hD.trans hgd) (by omega) rd hf) fun h' tk' e d M => ?_)
    show L2N.MkP X pins σ Q (.ref e) ⟨h', g, dr, tk', os⟩ ∧ L2H.Six (.ref e) ⟨h', g, dr, tk', os⟩
    obtain ⟨t1, hoe⟩ := M.obj
    have hns := M.ns
    obtain ⟨G', g1, g2⟩ := restrict h' fun b => decide (b ≠ e)
    have gk : ∀ b, b ≠ e → G'.get? b = h'.get? b := fun b hb => g1 b (decide_eq_true hb)
    have ge : G'.get? e = none := g2 e (by simp)
    have old : ∀ b o, hp.get? b = some o → G'.get? b = some o := fun b o q => (gk b (Nat.ne_of_lt (Nat.lt_of_lt_of_le (Heap.lt_size q) M.new))).trans (M.keep b o q)
    have ob : ObjOk X.prog X.w (upd H1 d (.xd [(F, v)])) G' d (.xd [(F, v)]) :=
      ⟨_, hns.at (fun o q => (gk d M.dne).trans q), fun f => relO_one rv f⟩
    have J : Inv X pins σ (upd H1 d (.xd [(F, v)])) ⟨G', g, dr, tk', os⟩ := I1.laid (t' := tk') old M.dbig ob
    refine ⟨⟨e, _, _, ⟨G', g, dr, tk', os⟩, _, .ref C, some d, rfl, J, fun b o q => ?_, ge, hoe, ⟨rfl, rfl, fun vs z => by cases z; rfl⟩, rfl, rfl, ?_, rfl, I1.bare, raises_own T.exC T.tyC, q1 d (I1.hok.fresh M.dbig)⟩, fun a oe vs ea hg2 hd2 => ?_⟩
    · by_cases hb : b = e
      · have q' : G'.get? b = some o := q
        rw [hb, ge] at q'; cases q'
      · exact (gk b hb).symm.trans q
    · rw [upd_ne (Ne.symm M.dne)]
      exact I1.hok.fresh M.new
    · cases ea
      have hg3 : h'.get? e = some oe := hg2
      rw [hoe] at hg3
      cases hg3
      cases hd2
      show (4 : Nat) < 6
      decide
/-- raise C(e), where nothing is handled -/
theorem ps_raiseXN {W : WX} (hc : X.calm = true) (FB : BaseX B newId initId bmB) (T : ExT X.prog X.K X.mg C fI F B newId initId bmB) (N : FName F) (hr : Room k X.A) (hgd : X.A.guards = some []) (gC : X.mg x = some (.ref C)) (hsu : X.mg "super" = none) (tk : L2N.Takes X W) (ha : PA X [a] ta) (hg : Gl X x := by rfl)
    (hdb : (x == ("__debug__" : Str)) = false := by decide) (he : starEach (a :: []) X.env = (false, eval a X.env) :: starEach [] X.env := by rfl) (hpl : (backTo pos (starEach [] X.env)).any (·.1) = false := by rfl) :
    PS X (.Raise (some (.Call (.Name x p) [a] [] pos)) none pos2) (tRaiseX X.K C F W ta) := L2N.ps_raise hc tk (pmk5_x FB T N (L2H.roomH_of hr) hgd hg gC hsu ha hdb he hpl).pmk
/-- raise C(e) from None, in a suite -/
theorem ps_raiseXH {W : WX} {j : Nat} {cpos : Pos} (hc : L2H.HotC X) (FB : BaseX B newId initId bmB) (T : ExT X.prog X.K X.mg C fI F B newId initId bmB) (N : FName F) (hr : L2H.RoomH k X.A) (hgd : X.A.guards = some []) (gC : X.mg x = some (.ref C)) (hsu : X.mg "super" = none) (tk : L2.Takes X W) (ha : PA X [a] ta) (hg : Gl X x := by rfl)
    (hdb : (x == ("__debug__" : Str)) = false := by decide) (he : starEach (a :: []) X.env = (false, eval a X.env) :: starEach [] X.env := by rfl) (hpl : (backTo pos (starEach [] X.env)).any (·.1) = false := by rfl) :
    PS X (.Raise (some (.Call (.Name x p) [a] [] pos)) (some (.Constant .none j cpos)) pos2) (tRaiseX X.K C F W ta) := L2H.ps_raiseHN hc tk (pmk5_x FB T N hr hgd hg gC hsu ha hdb he hpl)
end
end Rm
set_option Elab.async false
set_option linter.all false
set_option maxRecDepth 100000
set_option maxHeartbeats 4000000
/-! # Texts of numbers: what is read, in plain Lean -/
namespace K5
open PySem PySem.Spec PyProof.Rows L2 SX Mth
/-! ### digits -/
def D (l : List Nat) : Bool := l.all (fun c => decide (48 ≤ c) && decide (c ≤ 57))
def dg (m : Nat) (l : List Nat) : Bool := decide (1 ≤ l.length) && (decide (l.length ≤ m) && D l)
def canon (l : List Nat) : Bool := decide (l = [48]) || decide (¬ l.head? = some 48)
abbrev dv (l : List Nat) : Nat := NumText.digitsVal l
theorem D_all {l : List Nat} (h : D l = true) : NumText.AllDigits l := fun c hc => by
  have z : (decide (48 ≤ c) && decide (c ≤ 57)) = true := List.all_eq_true.mp h c hc
  rw [Bool.and_eq_true, decide_eq_true_eq, decide_eq_true_eq] at z
  exact z
theorem D_of {l : List Nat} (h : NumText.AllDigits l) : D l = true := List.all_eq_true.mpr fun c hc => by
  have z := h c hc
  rw [Bool.and_eq_true, decide_eq_true_eq, decide_eq_true_eq]
  exact z
theorem D_free {l : List Nat} {s : Nat} (h : D l = true) (hs : s < 48 ∨ 57 < s) : s ∉ l := fun hm => by
  have := D_all h s hm
  omega
theorem dg_iff {m : Nat} {l : List Nat} : dg m l = true ↔ 1 ≤ l.length ∧ l.length ≤ m ∧ D l = true := by
  unfold dg
  rw [Bool.and_eq_true, Bool.and_eq_true, decide_eq_true_eq, decide_eq_true_eq]
theorem dv_snoc (l : List Nat) (c : Nat) : dv (l ++ [c]) = dv l * 10 + (c - 48) := by
  show (l ++ [c]).foldl _ 0 = _
  rw [List.foldl_append]
  rfl
theorem num_head : ∀ n : Nat, 1 ≤ n → ¬ (TL.numL n).head? = some 48 := fun n => by
  induction n using Nat.strongRecOn with
  | _ n ih =>
    intro h1
    by_cases h : n < 10
    · rw [TL.numL_lt h]
      intro z
      have z : 48 + n = 48 := Option.some.inj z
      omega
    · rw [TL.numL_step (by omega)]
      have hh := ih (n / 10) (by omega) (by omega)
      cases e : TL.numL (n / 10) with
      | nil => exact absurd e (TL.numL_ne _)
      | cons c r =>
        rw [e] at hh
        exact hh
theorem canon_num (n : Nat) : canon (TL.numL n) = true := by
  unfold canon
  by_cases h : n = 0
  · subst h
    rw [TL.numL_lt (by decide)]
    rfl
  · rw [Bool.or_eq_true, decide_eq_true_eq, decide_eq_true_eq]
    exact .inr (num_head n (by omega))
theorem dv_pos : ∀ {l : List Nat}, D l = true → l ≠ [] → ¬ l.head? = some 48 → 1 ≤ dv l := by
  have main : ∀ (k : Nat) (l : List Nat), l.length = k → D l = true → l ≠ [] → ¬ l.head? = some 48 → 1 ≤ dv l := by
    intro k
    induction k with
    | zero => intro l hl _ hn _; exact absurd (List.length_eq_zero_iff.mp hl) hn
    | succ k ih =>
      intro l hl hd hn hh
      rcases List.eq_nil_or_concat l with z | ⟨l', c, z⟩
      · exact absurd z hn
      · rw [List.concat_eq_append] at z
        subst z
        rw [dv_snoc]
        have hd' := D_all hd
        cases l' with
        | nil =>
          have hc := hd' c (by simp)
          have : ¬ c = 48 := fun e => hh (by rw [e]; rfl)
          omega
        | cons a r =>
          have h1 := ih (a :: r) (by simpa using hl) (D_of fun x hx => hd' x (List.mem_append_left _ hx)) (by simp) hh
          omega
  exact fun {l} => main l.length l rfl
theorem num_canon {l : List Nat} (hd : D l = true) (hn : l ≠ []) (hc : canon l = true) : TL.numL (dv l) = l := by
  have main : ∀ (k : Nat) (l : List Nat), l.length = k → D l = true → l ≠ [] → ¬ l.head? = some 48 → TL.numL (dv l) = l := by
    intro k
    induction k with
    | zero => intro l hl _ hn _; exact absurd (List.length_eq_zero_iff.mp hl) hn
    | succ k ih =>
      intro l hl hd hn hh
      rcases List.eq_nil_or_concat l with z | ⟨l', c, z⟩
      · exact absurd z hn
      · rw [List.concat_eq_append] at z
        subst z
        have hd' := D_all hd
        have hc := hd' c (by simp)
        rw [dv_snoc]
        cases l' with
        | nil =>
          have e : dv [] * 10 + (c - 48) = c - 48 := by
            show 0 * 10 + (c - 48) = c - 48
            omega
          rw [e, TL.numL_lt (by omega), show 48 + (c - 48) = c by omega]
          rfl
        | cons a r =>
          have dl : D (a :: r) = true := D_of fun x hx => hd' x (List.mem_append_left _ hx)
          have h1 := dv_pos dl (by simp) hh
          have h2 := ih (a :: r) (by simpa using hl) dl (by simp) hh
          rw [TL.numL_step (by omega)]
          rw [show (dv (a :: r) * 10 + (c - 48)) / 10 = dv (a :: r) by omega, h2, show 48 + (dv (a :: r) * 10 + (c - 48)) % 10 = c by omega]
  unfold canon at hc
  rw [Bool.or_eq_true, decide_eq_true_eq, decide_eq_true_eq] at hc
  rcases hc with hc | hc
  · subst hc
    show TL.numL 0 = [48]
    exact TL.numL_lt (by decide)
  · exact main _ l rfl hd hn hc
theorem canon_iff {l : List Nat} (hd : D l = true) (hn : l ≠ []) : canon l = true ↔ TL.numL (dv l) = l := ⟨num_canon hd hn, fun h => by rw [← h]; exact canon_num _⟩
/-! ### whole numbers and fractions as texts -/
def intL (a : Int) : List Nat := TL.tl (Str.ofString (toString a))
theorem intL_nat (n : Nat) : intL (n : Int) = TL.numL n := TL.tl_num n
theorem intL_neg {n : Nat} (h : 0 < n) : intL (-(n : Int)) = 45 :: TL.numL n := by
  unfold intL
  rw [toString_neg (show -(n : Int) < 0 by omega), TL.tl_ofString, String.toList_append, List.map_append, show (0 : Int) - (-(n : Int)) = (n : Int) by omega, ← TL.tl_ofString (toString (n : Int)), TL.tl_num]
  rfl
theorem intL_free (a : Int) {s : Nat} (hs : (s < 48 ∨ 57 < s) ∧ s ≠ 45) : s ∉ intL a := by
  by_cases h : 0 ≤ a
  · obtain ⟨n, rfl⟩ := Int.eq_ofNat_of_zero_le h
    rw [intL_nat]
    exact TL.numL_free hs.1
  · have e : a = -((a.natAbs : Nat) : Int) := by omega
    rw [e, intL_neg (by omega)]
    intro hm
    rcases List.mem_cons.mp hm with z | z
    · exact hs.2 z
    · exact TL.numL_free hs.1 z
def txtL (a b : Int) : List Nat := if b = 1 then intL a else intL a ++ 47 :: intL b
/-! ### what the program reads -/
def sg (t : List Nat) : Bool := decide (t.head? = some 45)
def bodyL (t : List Nat) : List Nat := if sg t = true then t.drop 1 else t
def cut (b : List Nat) : List Nat × List Nat := match TL.par [47] [] b with
  | none => (b, [49])
  | some (p, q) => (p, q)
def sgn (t : List Nat) (n : Nat) : Int := (if bodyL t = t then 1 else -1) * (n : Int)
def numIn (t : List Nat) : Option (Int × Int) :=
  if dg 420 (cut (bodyL t)).1 = true ∧ dg 420 (cut (bodyL t)).2 = true ∧ dv (cut (bodyL t)).2 ≠ 0 then
    (if txtL (nrm (sgn t (dv (cut (bodyL t)).1)) (dv (cut (bodyL t)).2)).1 (nrm (sgn t (dv (cut (bodyL t)).1)) (dv (cut (bodyL t)).2)).2 = t then some (nrm (sgn t (dv (cut (bodyL t)).1)) (dv (cut (bodyL t)).2)) else none)
  else none
/-! ### what the law reads -/
def lawD (p : List Nat) : Bool := dg 420 p && canon p
def parts (t : List Nat) : List (List Nat) := TL.spl [47] 0 [] (bodyL t)
def lawLow (t : List Nat) : Nat := if (parts t).length = 2 then dv ((parts t).getLastD []) else 1
def lawTop (t : List Nat) : Nat := dv ((parts t).headD [])
def lawOf (t : List Nat) : Option (Int × Int) :=
  if 2 < (parts t).length ∨ (parts t).all lawD = false then none
  else if ((parts t).length = 2 ∧ lawLow t < 2) ∨ (sg t = true ∧ lawTop t = 0) then none
  else if Nat.gcd (lawTop t) (lawLow t) ≠ 1 then none
  else some (if sg t = true then -(lawTop t : Int) else (lawTop t : Int), (lawLow t : Int))
theorem nb {a b : Bool} (h : ¬ (a = true ∧ b = true)) : (a && b) = false := by
  cases a with
  | false => rfl
  | true => cases b with
    | false => rfl
    | true => exact absurd ⟨rfl, rfl⟩ h
theorem cA {a b : Bool} (h : a = true ∧ b = true) : ¬ (2 < 2 ∨ (a && b) = false) := by
  rintro (z | z)
  · omega
  · rw [h.1, h.2] at z; cases z
theorem body_eq (t : List Nat) : bodyL t = t ↔ sg t = false := by
  unfold bodyL
  cases h : sg t with
  | false => simp
  | true =>
    unfold sg at h
    rw [decide_eq_true_eq] at h
    cases t with
    | nil => cases h
    | cons c r =>
      simp only [if_true]
      constructor
      · intro z
        have := congrArg List.length z
        simp at this <;> omega
      · intro z; cases z
theorem split47 {l : List Nat} (h : 47 ∈ l) : ∃ p q, l = p ++ 47 :: q ∧ 47 ∉ p := by
  induction l with
  | nil => cases h
  | cons c r ih =>
    by_cases hc : c = 47
    · exact ⟨[], r, by rw [hc]; rfl, by simp⟩
    · rcases List.mem_cons.mp h with z | z
      · exact absurd z.symm hc
      · obtain ⟨p, q, e, n⟩ := ih z
        exact ⟨c :: p, q, by rw [e]; rfl, by
          intro hm
          rcases List.mem_cons.mp hm with y | y
          · exact hc y.symm
          · exact n y⟩
theorem uniq47 : ∀ {p q p' q' : List Nat}, 47 ∉ p → 47 ∉ p' → p ++ 47 :: q = p' ++ 47 :: q' → p = p' ∧ q = q' := by
  intro p
  induction p with
  | nil =>
    intro q p' q' _ h' e
    cases p' with
    | nil => exact ⟨rfl, by injection e⟩
    | cons c r =>
      injection e with e1 e2
      exact absurd (by rw [← e1]; exact List.mem_cons_self ..) h'
  | cons c r ih =>
    intro q p' q' h h' e
    cases p' with
    | nil =>
      injection e with e1 e2
      exact absurd (by rw [e1]; exact List.mem_cons_self ..) h
    | cons c' r' =>
      injection e with e1 e2
      obtain ⟨a, b⟩ := ih (fun z => h (List.mem_cons_of_mem _ z)) (fun z => h' (List.mem_cons_of_mem _ z)) e2
      exact ⟨by rw [e1, a], b⟩
theorem par_at {p q : List Nat} (h : 47 ∉ p) : TL.par [47] [] (p ++ 47 :: q) = some (p, q) := par_head (sep := []) q h
theorem spl_at {p q : List Nat} (h : 47 ∉ p) : TL.spl [47] 0 [] (p ++ 47 :: q) = p :: TL.spl [47] 0 [] q := by
  have e := TL.spl_part1 (s := 47) (S := []) (p := p) (rest := q) (acc := []) h
  exact e
theorem spl_one {p : List Nat} (h : 47 ∉ p) : TL.spl [47] 0 [] p = [p] := by
  have e := TL.spl_last1 (s := 47) (S := []) (p := p) (acc := []) h
  exact e
theorem spl_two {q : List Nat} (h : 47 ∈ q) : 2 ≤ (TL.spl [47] 0 [] q).length := by
  obtain ⟨p, r, rfl, n⟩ := split47 h
  rw [spl_at n]
  by_cases h2 : 47 ∈ r
  · obtain ⟨p', r', rfl, n'⟩ := split47 h2
    rw [spl_at n']
    simp
  · rw [spl_one h2]
    simp
theorem sg_body {t : List Nat} (h : sg t = true) : t = 45 :: bodyL t := by
  unfold bodyL
  rw [if_pos h]
  unfold sg at h
  rw [decide_eq_true_eq] at h
  cases t with
  | nil => cases h
  | cons c r =>
    have : c = 45 := Option.some.inj h
    rw [this]
    rfl
theorem sgn_t {t : List Nat} (n : Nat) : sgn t n = if sg t = true then -(n : Int) else (n : Int) := by
  unfold sgn
  cases h : sg t with
  | false =>
    rw [if_pos ((body_eq t).mpr h)]
    simp
  | true =>
    rw [if_neg (fun z => by rw [(body_eq t).mp z] at h; cases h)]
    simp
/-- a whole part's text, with the sign -/
theorem sgn_txt {t : List Nat} {n : Nat} {b : List Nat} : intL (sgn t n) = (if sg t = true then [45] else []) ++ b ↔ TL.numL n = b ∧ ¬ (sg t = true ∧ n = 0) ∨ (sg t = true ∧ n = 0 ∧ TL.numL 0 = 45 :: b) := by
  rw [sgn_t]
  cases h : sg t with
  | false =>
    simp [intL_nat]
  | true =>
    simp only [if_true, true_and]
    by_cases hn : n = 0
    · subst hn
      have e : (-((0 : Nat) : Int)) = ((0 : Nat) : Int) := by omega
      rw [e, intL_nat]
      simp
    · rw [intL_neg (by omega)]
      simp [hn]
theorem num0_ne (b : List Nat) : ¬ TL.numL 0 = 45 :: b := by
  rw [TL.numL_lt (by decide)]
  intro z
  injection z with z _
  cases z
theorem sgn_abs (t : List Nat) (n : Nat) : (sgn t n).natAbs = n := by
  rw [sgn_t]
  split <;> omega
theorem t_eq (t : List Nat) : t = (if sg t = true then [45] else []) ++ bodyL t := by
  cases h : sg t with
  | true =>
    rw [if_pos rfl]
    exact sg_body h
  | false =>
    show t = [] ++ bodyL t
    exact ((body_eq t).mpr h).symm
theorem app_left {s a b : List Nat} : s ++ a = s ++ b ↔ a = b := List.append_right_inj s
theorem gcd_sgn (t : List Nat) (n m : Nat) : Nat.gcd (sgn t n).natAbs ((m : Int)).natAbs = Nat.gcd n m := by rw [sgn_abs]; rfl
theorem ne_of_dg {m : Nat} {l : List Nat} (h : dg m l = true) : l ≠ [] := fun z => by
  have := (dg_iff.mp h).1
  rw [z] at this
  exact absurd this (by decide)
theorem reads (t : List Nat) : numIn t = lawOf t := by
  have tb := t_eq t
  by_cases h47 : 47 ∈ bodyL t
  · obtain ⟨p, q, e, np⟩ := split47 h47
    have ec : cut (bodyL t) = (p, q) := by
      unfold cut
      rw [e, par_at np]
    have ep : parts t = p :: TL.spl [47] 0 [] q := by
      unfold parts
      rw [e, spl_at np]
    unfold numIn
    rw [ec]
    dsimp only
    by_cases hq : 47 ∈ q
    · have hz : ¬ (dg 420 p = true ∧ dg 420 q = true ∧ dv q ≠ 0) := fun z => D_free (dg_iff.mp z.2.1).2.2 (.inl (by decide)) hq
      rw [if_neg hz]
      unfold lawOf
      have h2 := spl_two hq
      rw [if_pos (.inl (by rw [ep, List.length_cons]; omega))]
    · have ep2 : parts t = [p, q] := by rw [ep, spl_one hq]
      have eL : lawLow t = dv q := by
        unfold lawLow
        rw [ep2]
        rfl
      have eT : lawTop t = dv p := by
        unfold lawTop
        rw [ep2]
        rfl
      have eA : (parts t).all lawD = (lawD p && lawD q) := by
        rw [ep2]
        simp
      have eN : (parts t).length = 2 := by rw [ep2]; rfl
      unfold lawOf
      rw [eA, eN, eL, eT]
      by_cases hd : dg 420 p = true ∧ dg 420 q = true
      · obtain ⟨dp, dq⟩ := hd
        obtain ⟨_, _, Dp⟩ := dg_iff.mp dp
        obtain ⟨_, _, Dq⟩ := dg_iff.mp dq
        have np0 := ne_of_dg dp
        have nq0 := ne_of_dg dq
        have cp := canon_iff Dp np0
        have cq := canon_iff Dq nq0
        have lp : lawD p = canon p := by unfold lawD; rw [dp, Bool.true_and]
        have lq : lawD q = canon q := by unfold lawD; rw [dq, Bool.true_and]
        rw [lp, lq]
        generalize hP : dv p = P at *
        generalize hQ : dv q = Q at *
        by_cases hQ0 : Q = 0
        · rw [if_neg (fun z => z.2.2 hQ0)]
          by_cases hc : canon p = true ∧ canon q = true
          · rw [if_neg (cA hc), if_pos (.inl ⟨rfl, by omega⟩)]
          · have : (canon p && canon q) = false := nb hc
            rw [if_pos (.inr this)]
        · rw [if_pos ⟨dp, dq, hQ0⟩]
          have qz : (Q : Int) ≠ 0 := by omega
          have ns := nrm_spec (a := sgn t P) qz
          -- the text of the read number against t
          have tt : t = ((if sg t = true then [45] else []) ++ p) ++ 47 :: q := by
            rw [List.append_assoc, ← e]
            exact tb
          have n47 : 47 ∉ (if sg t = true then [45] else []) ++ p := by
            intro hm
            rcases List.mem_append.mp hm with z | z
            · split at z
              · rcases List.mem_singleton.mp z with y
                cases y
              · cases z
            · exact np z
          by_cases hg : Nat.gcd P Q = 1
          · have num : isNum (sgn t P) (Q : Int) := ⟨by omega, by rw [gcd_sgn]; exact hg⟩
            have en : nrm (sgn t P) (Q : Int) = (sgn t P, (Q : Int)) := nrm_is qz num rfl
            rw [en]
            dsimp only
            have es : (if sg t = true then -(P : Int) else (P : Int)) = sgn t P := (sgn_t P).symm
            by_cases h1 : Q = 1
            · have ht : ¬ txtL (sgn t P) (Q : Int) = t := by
                unfold txtL
                rw [if_pos (by omega)]
                intro z
                have : 47 ∈ intL (sgn t P) := by
                  rw [z, tt]
                  simp
                exact intL_free _ ⟨.inl (by decide), by decide⟩ this
              rw [if_neg ht]
              by_cases hc : canon p = true ∧ canon q = true
              · rw [if_neg (cA hc), if_pos (.inl ⟨rfl, by omega⟩)]
              · have : (canon p && canon q) = false := nb hc
                rw [if_pos (.inr this)]
            · have iff : txtL (sgn t P) (Q : Int) = t ↔ canon p = true ∧ canon q = true ∧ ¬ (sg t = true ∧ P = 0) := by
                unfold txtL
                rw [if_neg (by omega), intL_nat]
                constructor
                · intro z
                  rw [tt] at z
                  have z' : intL (sgn ((if sg t = true then [45] else []) ++ p ++ 47 :: q) P) = intL (sgn t P) := by rw [← tt]
                  rw [z'] at z
                  have z2 : (if sg ((if sg t = true then [45] else []) ++ p ++ 47 :: q) = true then ([45] : List Nat) else []) = if sg t = true then [45] else [] := by rw [← tt]
                  obtain ⟨a, b⟩ := uniq47 (intL_free _ ⟨.inl (by decide), by decide⟩) n47 z
                  rcases sgn_txt.mp a with ⟨y1, y2⟩ | ⟨_, _, y⟩
                  · exact ⟨cp.mpr y1, cq.mpr b, y2⟩
                  · exact absurd y (num0_ne p)
                · rintro ⟨c1, c2, c3⟩
                  have a := sgn_txt.mpr (.inl ⟨cp.mp c1, c3⟩ : TL.numL P = p ∧ ¬ (sg t = true ∧ P = 0) ∨ _)
                  rw [a, cq.mp c2]
                  exact tt.symm
              by_cases hc : canon p = true ∧ canon q = true
              · rw [if_neg (cA hc)]
                by_cases h3 : sg t = true ∧ P = 0
                · rw [if_neg (fun z => (iff.mp z).2.2 h3), if_pos (.inr h3)]
                · rw [if_pos (iff.mpr ⟨hc.1, hc.2, h3⟩), if_neg (by rintro (⟨_, z⟩ | z); omega; exact h3 z), if_neg (fun z => z hg), es]
              · have : (canon p && canon q) = false := nb hc
                rw [if_neg (fun z => hc ⟨(iff.mp z).1, (iff.mp z).2.1⟩), if_pos (.inr this)]
          · -- not in lowest terms
            have ht : ¬ txtL (nrm (sgn t P) (Q : Int)).1 (nrm (sgn t P) (Q : Int)).2 = t := by
              intro z
              unfold txtL at z
              split at z
              · have : 47 ∈ intL (nrm (sgn t P) (Q : Int)).1 := by
                  rw [z, tt]
                  simp
                exact intL_free _ ⟨.inl (by decide), by decide⟩ this
              · have num := ns.num
                obtain ⟨m, hm⟩ := Int.eq_ofNat_of_zero_le (show 0 ≤ (nrm (sgn t P) (Q : Int)).2 by have := num.1; omega)
                have z0 := z
                rw [hm, intL_nat] at z
                have z' : intL (nrm (sgn t P) (Q : Int)).1 ++ 47 :: TL.numL m = ((if sg t = true then [45] else []) ++ p) ++ 47 :: q := z.trans tt
                obtain ⟨_, b⟩ := uniq47 (intL_free _ ⟨.inl (by decide), by decide⟩) n47 z'
                have mQ : m = Q := by
                  rw [← hQ, ← b]
                  exact (TL.numL_val m).symm
                have cr := ns.cross
                rw [hm, mQ] at cr
                have en : (nrm (sgn t P) (Q : Int)).1 = sgn t P := Int.eq_of_mul_eq_mul_right qz cr
                have g := num.2
                rw [en, hm, mQ, sgn_abs] at g
                exact hg g
            rw [if_neg ht]
            by_cases hc : canon p = true ∧ canon q = true
            · rw [if_neg (cA hc)]
              split <;> first | rfl | rw [if_pos hg]
            · have : (canon p && canon q) = false := nb hc
              rw [if_pos (.inr this)]
      · rw [if_neg (fun z => hd ⟨z.1, z.2.1⟩)]
        have : (lawD p && lawD q) = false := by
          refine nb fun z => hd ?_
          unfold lawD at z
          rw [Bool.and_eq_true, Bool.and_eq_true] at z
          exact ⟨z.1.1, z.2.1⟩
        rw [if_pos (.inr this)]
  · have ec : cut (bodyL t) = (bodyL t, [49]) := by
      unfold cut
      have : TL.par [47] [] (bodyL t) = none := TL.par_none1 h47
      rw [this]
    have ep : parts t = [bodyL t] := spl_one h47
    have eL : lawLow t = 1 := by
      unfold lawLow
      rw [ep]
      rfl
    have eT : lawTop t = dv (bodyL t) := by
      unfold lawTop
      rw [ep]
      rfl
    have eA : (parts t).all lawD = lawD (bodyL t) := by
      rw [ep]
      simp
    have eN : (parts t).length = 1 := by rw [ep]; rfl
    have e49 : dg 420 [49] = true := by decide
    have v49 : dv [49] = 1 := by decide
    unfold numIn lawOf
    rw [ec, eA, eN, eL, eT]
    dsimp only
    rw [e49, v49]
    by_cases hd : dg 420 (bodyL t) = true
    · obtain ⟨_, _, DD⟩ := dg_iff.mp hd
      have n0 := ne_of_dg hd
      have cb := canon_iff DD n0
      rw [if_pos ⟨hd, rfl, by decide⟩]
      have lp : lawD (bodyL t) = canon (bodyL t) := by unfold lawD; rw [hd, Bool.true_and]
      rw [lp]
      generalize hP : dv (bodyL t) = P at *
      have num : isNum (sgn t P) ((1 : Nat) : Int) := ⟨by decide, by rw [gcd_sgn]; exact Nat.gcd_one_right P⟩
      have en : nrm (sgn t P) ((1 : Nat) : Int) = (sgn t P, ((1 : Nat) : Int)) := nrm_is (by decide) num rfl
      rw [en]
      dsimp only
      have et : txtL (sgn t P) ((1 : Nat) : Int) = intL (sgn t P) := if_pos rfl
      rw [et]
      have iff : intL (sgn t P) = t ↔ canon (bodyL t) = true ∧ ¬ (sg t = true ∧ P = 0) := by
        constructor
        · intro z
          have z' : intL (sgn t P) = (if sg t = true then [45] else []) ++ bodyL t := z.trans tb
          rcases sgn_txt.mp z' with ⟨y1, y2⟩ | ⟨_, _, y⟩
          · exact ⟨cb.mpr y1, y2⟩
          · exact absurd y (num0_ne _)
        · rintro ⟨c1, c2⟩
          exact (sgn_txt.mpr (.inl ⟨cb.mp c1, c2⟩)).trans tb.symm
      have es : (if sg t = true then -(P : Int) else (P : Int)) = sgn t P := (sgn_t P).symm
      cases hc : canon (bodyL t) with
      | false =>
        rw [if_neg (fun z => by rw [(iff.mp z).1] at hc; cases hc), if_pos (.inr rfl)]
      | true =>
        have cB : ¬ (2 < 1 ∨ true = false) := by rintro (z | z); omega; cases z
        rw [if_neg cB]
        by_cases h3 : sg t = true ∧ P = 0
        · rw [if_neg (fun z => (iff.mp z).2 h3), if_pos (.inr h3)]
        · rw [if_pos (iff.mpr ⟨hc, h3⟩), if_neg (by rintro (⟨z, _⟩ | z); cases z; exact h3 z), if_neg (by rw [Nat.gcd_one_right]; simp), es]
    · rw [if_neg (fun z => hd z.1)]
      have : lawD (bodyL t) = false := by
        unfold lawD
        cases x : dg 420 (bodyL t) with
        | true => exact absurd x hd
        | false => rfl
      rw [if_pos (.inr this)]
end K5
set_option Elab.async false
set_option linter.all false
set_option maxRecDepth 100000
set_option maxHeartbeats 4000000
namespace K5
open PySem PySem.Spec PyProof.Rows L2 RmX Rm Mth
def top (i : Nat) : Stmt := PySem.Challenge.pw_roompace_k40_texts_of_numbers.main.body.getD i (.Pass ⟨0, 0, 0, 0⟩)
abbrev sBegin : Stmt := top 20
abbrev sMixed : Stmt := top 21
abbrev sNext : Stmt := top 22

/-! ### the draw: a dict of four -/
abbrev kC : Key := Sum.inr (Str.ofString "cells")
abbrev kA : Key := Sum.inr (Str.ofString "at")
abbrev kL : Key := Sum.inr (Str.ofString "left")
abbrev kU : Key := Sum.inr (Str.ofString "used")
def kvD (c : Addr) (a l u : Int) : List (Key × V) := [(kC, V.ref c), (kA, V.int a), (kL, V.int l), (kU, V.int u)]
theorem n1 : ¬ (Str.ofString "cells" = Str.ofString "at") := by decide +kernel
theorem n2 : ¬ (Str.ofString "cells" = Str.ofString "left") := by decide +kernel
theorem n3 : ¬ (Str.ofString "cells" = Str.ofString "used") := by decide +kernel
theorem n4 : ¬ (Str.ofString "at" = Str.ofString "left") := by decide +kernel
theorem n5 : ¬ (Str.ofString "at" = Str.ofString "used") := by decide +kernel
theorem n6 : ¬ (Str.ofString "left" = Str.ofString "used") := by decide +kernel
theorem m1 : ¬ (Str.ofString "at" = Str.ofString "cells") := by decide +kernel
theorem m2 : ¬ (Str.ofString "left" = Str.ofString "cells") := by decide +kernel
theorem m3 : ¬ (Str.ofString "used" = Str.ofString "cells") := by decide +kernel
theorem m4 : ¬ (Str.ofString "left" = Str.ofString "at") := by decide +kernel
theorem m5 : ¬ (Str.ofString "used" = Str.ofString "at") := by decide +kernel
theorem m6 : ¬ (Str.ofString "used" = Str.ofString "left") := by decide +kernel
theorem ki {x y : Str} (h : ¬ x = y) : ¬ ((Sum.inr x : Key) = Sum.inr y) := fun z => h (Sum.inr.inj z)
theorem vC (c : Addr) (a l u : Int) : valV (kvD c a l u) kC = some (V.ref c) := valV_pos rfl
theorem vA (c : Addr) (a l u : Int) : valV (kvD c a l u) kA = some (V.int a) := (valV_neg (ki n1)).trans (valV_pos rfl)
theorem vL (c : Addr) (a l u : Int) : valV (kvD c a l u) kL = some (V.int l) := (valV_neg (ki n2)).trans ((valV_neg (ki n4)).trans (valV_pos rfl))
theorem vU (c : Addr) (a l u : Int) : valV (kvD c a l u) kU = some (V.int u) := (valV_neg (ki n3)).trans ((valV_neg (ki n5)).trans ((valV_neg (ki n6)).trans (valV_pos rfl)))
theorem pA (c : Addr) (a l u x : Int) : putK (kvD c a l u) kA (V.int x) = kvD c x l u := by
  have e1 := n1; have e4 := m4; have e5 := m5
  simp [putK, kvD, e1, e4, e5]
theorem pL (c : Addr) (a l u x : Int) : putK (kvD c a l u) kL (V.int x) = kvD c a x u := by
  have e2 := n2; have e4 := n4; have e6 := m6
  simp [putK, kvD, e2, e4, e6]
theorem pU (c : Addr) (a l u x : Int) : putK (kvD c a l u) kU (V.int x) = kvD c a l x := by
  have e3 := n3; have e5 := n5; have e6 := n6
  simp [putK, kvD, e3, e5, e6]
theorem dk_mk (c : Addr) (a l u : Int) : mergeK [] (kvD c a l u) = kvD c a l u := by
  have e1 := n1; have e2 := n2; have e3 := n3; have e4 := n4; have e5 := n5; have e6 := n6
  simp [mergeK, putK, kvD, e1, e2, e3, e4, e5, e6]
/-- the draw stands at p, its cells at c; fewer than n + 1 cells were passed -/
def DrawAt (H : Hp) (p c : Addr) (n : Nat) : Prop := ∃ (a l u : Int) (ns : List Int), H p = some (.dK (kvD c a l u)) ∧ H c = some (.lst (ns.map V.int)) ∧ 0 < ns.length ∧ ns.length ≤ 64 ∧ 0 ≤ a ∧ a ≤ n ∧ 0 ≤ l ∧ 0 ≤ u ∧ u ≤ n
/-- all that was tracked stays, but p -/
def Kp (p : Addr) (H H' : Hp) : Prop := ∀ b o, H b = some o → b ≠ p → H' b = some o
theorem Kp.refl (p : Addr) (H : Hp) : Kp p H H := fun _ _ e _ => e
theorem Kp.trans {p : Addr} {H H1 H2 : Hp} (a : Kp p H H1) (b : Kp p H1 H2) : Kp p H H2 := fun c o e n => b c o (a c o e n) n
theorem Kp.new {p a : Addr} {H H' : Hp} {o : HO} (k : Kp p H H') (n : H' a = none) : Kp p H (upd H' a o) := fun c u e hn => by
  rw [upd_ne (ne_of_none (k c u e hn) n)]
  exact k c u e hn
theorem Kp.newS {p a : Addr} {H : Hp} {o : HO} (n : H a = none) : Kp p H (upd H a o) := (Kp.refl p H).new n
theorem Kp.self {p : Addr} {H : Hp} {o : HO} : Kp p H (upd H p o) := fun c u e hn => by rw [upd_ne hn]; exact e
theorem DrawAt.p {H : Hp} {p c : Addr} {n : Nat} (d : DrawAt H p c n) : ∃ o, H p = some o := by
  obtain ⟨a, l, u, ns, h, _⟩ := d
  exact ⟨_, h⟩
theorem DrawAt.ne {H : Hp} {p c : Addr} {n : Nat} (d : DrawAt H p c n) : c ≠ p := by
  obtain ⟨a, l, u, ns, h, h2, _⟩ := d
  exact ne_of h2 h (by intro z; cases z)
theorem DrawAt.mono {H : Hp} {p c : Addr} {n m : Nat} (d : DrawAt H p c n) (h : n ≤ m) : DrawAt H p c m := by
  obtain ⟨a, l, u, ns, h1, h2, h3, h4, h5, h6, h7, h8, h9⟩ := d
  exact ⟨a, l, u, ns, h1, h2, h3, h4, h5, by omega, h7, h8, by omega⟩
theorem DrawAt.same {H H' : Hp} {p c : Addr} {n : Nat} (d : DrawAt H p c n) (s : Same H H') : DrawAt H' p c n := by
  obtain ⟨a, l, u, ns, h1, h2, h3⟩ := d
  exact ⟨a, l, u, ns, s _ _ h1, s _ _ h2, h3⟩
/-- script's, draw's and mixer's promises -/
def spBegin (K : PySem.W.Frag) : Sp := fun vs H Q _ => ∃ (a : Addr) (ns : List Int), vs = [.ref a] ∧ SqL K H a (ns.map V.int) ∧ ns.length ≤ 63 ∧ ∀ p c H', DrawAt H' p c 0 → Same H H' → Q (.ref p) H'
def spMixed : Sp := fun vs H Q _ => ∃ (cell k : Int), vs = [.int cell, .int k] ∧ 0 ≤ k ∧ k < 2 ^ 40 ∧ ∀ r : Int, 0 ≤ r → r < 2 ^ 31 → Q (.int r) H
def spNext : Sp := fun vs H Q _ => ∃ (p c : Addr) (n : Nat) (bound : Int), vs = [.ref p, .int bound] ∧ DrawAt H p c n ∧ n < 2 ^ 30 ∧ 0 < bound ∧ bound < 2 ^ 62 ∧
  ∀ (r : Int) (H' : Hp), 0 ≤ r → r < bound → DrawAt H' p c (n + 1) → Kp p H H' → (∀ b, b ≠ p → H' b = H b) → Q (.int r) H'
structure TxtD (K : PySem.W.Frag) (mg : Str → Option Value) (fM : Addr) : Prop where
  len : mg "len" = none
  gM : mg "_law_mixed" = some (.ref fM)
  kM : PySem.W.keepIn K (.ref fM) = true
section
variable {P : Program} {w : World} {K : PySem.W.Frag} {mg : Str → Option Value} {base : Heap}
theorem scB : FnScope ["script"] ["script"] (defScope sBegin) := ⟨rfl, rfl, rfl, by decide +kernel, rfl, by decide +kernel, by decide +kernel⟩
theorem ok_begin {f : Addr} {fd : FuncData} (F : Fun K "_law_begin" "_law_begin" sBegin f fd) : FnG P w K mg base 1 f fd ["script"] (spBegin K) := by
  refine okG F scB (fun vs H Q E h => ?_) (fun cdv A outer s H vs Q E hr hgd h => ?_)
  · obtain ⟨a, ns, rfl, _⟩ := h
    rfl
  · obtain ⟨a, ns, rfl, hS, hl, k⟩ := h
    refine ⟨_, pss_one (ps_ret (pe_disp (pps_cons pe_str (pe_op op_catS (pv 0) (pe_lst (pa_cons pe_int pa_nil))) (pps_cons pe_str pe_int (pps_cons pe_str pe_int (pps_cons pe_str pe_int pps_nil)))) (by rfl) (by rfl) (fun z => by cases z) (by decide))), ?_⟩
    intro p np
    have s1 : Same H (upd H p (.dK [])) := fun b o e => by rw [upd_ne (ne_of_none e np)]; exact e
    refine ⟨_, rfl, by rw [sizeLine_eq]; show 1 ≤ 16777216; decide, fun l nl => ?_⟩
    have s2 : Same H (upd (upd H p (.dK [])) l (.lst [V.int 0])) := fun b o e => by rw [upd_ne (ne_of_none (s1 b o e) nl)]; exact s1 b o e
    refine ⟨a, l, ns.map V.int, [V.int 0], rfl, rfl, s2.seq hS, SqL.of upd_same, by rw [List.length_map, sizeLine_eq]; show ns.length + 1 ≤ _; omega, fun c nc => ?_⟩
    have s3 : Same H (upd (upd (upd H p (.dK [])) l (.lst [V.int 0])) c (.lst (ns.map V.int ++ [V.int 0]))) := fun b o e => by rw [upd_ne (ne_of_none (s2 b o e) nc)]; exact s2 b o e
    have npl : p ≠ l := ne_of_none upd_same nl
    have npc : p ≠ c := ne_of_none (show (upd (upd H p (.dK [])) l (.lst [V.int 0])) p = some (.dK []) by rw [upd_ne npl, upd_same]) nc
    refine ⟨by rw [upd_ne npc, upd_ne npl, upd_same], kvD c 0 0 0, rfl, by show 4 ≤ 15; decide, ?_⟩
    rw [dk_mk]
    refine k p c _ ⟨0, 0, 0, ns ++ [0], upd_same, ?_, by simp, by simp; omega, by omega, by omega, by omega, by omega, by omega⟩ fun b o e => ?_
    · rw [upd_ne (Ne.symm npc), upd_same, List.map_append]
      rfl
    · rw [upd_ne (ne_of_none e np)]
      exact s3 b o e
theorem md (e : Int) {M : Int} (h : 0 < M) (hM : M < 2 ^ 64) : -(2 ^ 64) < e % M ∧ e % M < 2 ^ 64 := by
  have a := Int.emod_nonneg e (show M ≠ 0 by omega)
  have b := Int.emod_lt_of_pos e h
  omega
theorem fin_b (e : Int) : 0 ≤ e % 2147483647 / 7 ∧ e % 2147483647 / 7 < 2 ^ 31 := by omega
theorem scM : FnScope ["cell", "k", "mixed"] ["cell", "k"] (defScope sMixed) := ⟨rfl, rfl, rfl, by decide +kernel, rfl, by decide +kernel, by decide +kernel⟩
theorem ok_mixed {f : Addr} {fd : FuncData} (F : Fun K "_law_mixed" "_law_mixed" sMixed f fd) : FnG P w K mg base 1 f fd ["cell", "k"] spMixed := by
  refine okG F scM (fun vs H Q E h => ?_) (fun cdv A outer s H vs Q E hr hgd h => ?_)
  · obtain ⟨cell, k, rfl, _⟩ := h
    rfl
  · obtain ⟨cell, k, rfl, h0, h1, kq⟩ := h
    refine ⟨_, pss_cons (ps_set (i := 2) scM.nd rfl (Or.inl rfl) (pe_op op_mod (pe_op op_add (pe_op op_add (pe_op op_add (pe_op op_mod (pv 0) pe_int) (pe_op op_mul (pe_op op_mul pe_int (pv 1)) (pv 1))) (pe_op op_mul pe_int (pv 1))) pe_int) pe_int))
      (pss_cons (ps_set (i := 2) scM.nd rfl (Or.inl rfl) (pe_op op_mod (pe_op op_mul (pe_op op_mod (pe_op op_mul (pv 2) (pv 2)) pe_int) (pv 2)) pe_int))
      (pss_one (ps_ret (pe_op op_fdiv (pe_op op_mod (pe_op op_mul (pv 2) (pe_op op_add pe_int (pe_op op_mul pe_int (pe_op op_mod (pv 1) pe_int)))) pe_int) pe_int)))), ?_⟩
    refine ⟨_, rfl, _, _, rfl, rfl, (by show (0 : Int) < 1000000007; decide), _, rfl, _, _, rfl, rfl, .inl ⟨by decide, by decide⟩, _, rfl, _, _, rfl, rfl, .inr ⟨by omega, by omega⟩, _, _, rfl, rfl, _, rfl, _, _, rfl, rfl, .inl ⟨by decide, by decide⟩, _, _, rfl, rfl, _, _, rfl, rfl, _, _, rfl, rfl, (by show (0 : Int) < 2147483647; decide), ?_⟩
    refine ⟨_, rfl, _, rfl, _, _, rfl, rfl, .inl (md _ (by decide) (by decide)), _, _, rfl, rfl, (by show (0 : Int) < 2147483647; decide), _, rfl, _, _, rfl, rfl, .inl (md _ (by decide) (by decide)), _, _, rfl, rfl, (by show (0 : Int) < 2147483629; decide), ?_⟩
    refine ⟨_, rfl, _, rfl, _, _, rfl, rfl, (by show (0 : Int) < 1000; decide), _, _, rfl, rfl, .inl ⟨by decide, by decide⟩, _, _, rfl, rfl, _, _, rfl, rfl, .inl (md _ (by decide) (by decide)), _, _, rfl, rfl, (by show (0 : Int) < 2147483647; decide), _, _, rfl, rfl, ⟨by decide, by decide⟩, ?_⟩
    exact kq _ (fin_b _).1 (fin_b _).2
theorem scN : FnScope ["draw", "bound", "found", "cells", "cell"] ["draw", "bound"] (defScope sNext) := ⟨rfl, rfl, rfl, by decide +kernel, rfl, by decide +kernel, by decide +kernel⟩
theorem ok_next {f fM : Addr} {fd fdM : FuncData} (F : Fun K "_law_next" "_law_next" sNext f fd) (T : TxtD K mg fM) (FM : Fun K "_law_mixed" "_law_mixed" sMixed fM fdM) (bM : Binds K fdM ["cell", "k"] []) : FnG P w K mg base 2 f fd ["draw", "bound"] spNext := by
  have GM : FnG P w K mg base 1 fM fdM ["cell", "k"] spMixed := ok_mixed FM
  refine okG F scN (fun vs H Q E h => ?_) (fun cdv A outer s H vs Q E hr hgd h => ?_)
  · obtain ⟨p, c, n, b, rfl, _⟩ := h
    rfl
  · obtain ⟨p, c, n, bd, rfl, D, hn, b0, b1, kq⟩ := h
    have hu := hu_of hr
    obtain ⟨a, l, u, ns, h1, h2, h3, h4, h5, h6, h7, h8, h9⟩ := id D
    have ncp : c ≠ p := D.ne
    have cz : bd ≠ 0 ∧ bd.natAbs.log2 < 9000 := ⟨by omega, by have := PySem.Flt.log2_lt_of (show 0 < 62 by decide) (show bd.natAbs < 2 ^ 62 by omega); omega⟩
    have fdn : ∀ {x y : Int}, 0 ≤ x → 0 ≤ y → 0 ≤ x.fdiv y := fun {x y} h1 h2 => by rw [Int.fdiv_eq_ediv_of_nonneg _ h2]; exact Int.ediv_nonneg h1 h2
    refine ⟨_, pss_cons (ps_if (pt_cmpR op_gt (pe_dget hu (pv 0) pe_str (fun _ _ => rfl)) pe_int (nomark _))
        (pss_cons (ps_set (i := 2) scN.nd rfl (Or.inl rfl) (pe_op op_mod (pe_dget hu (pv 0) pe_str (fun _ _ => rfl)) (pv 1)))
          (pss_cons (ps_dput hu (pv 0) pe_str (pe_op op_fdivZ (pe_dget hu (pv 0) pe_str (fun _ _ => rfl)) (pv 1)) rfl)
          (pss_one (ps_ret (pv 2))))) pss_nil)
      (pss_cons (ps_set (i := 3) scN.nd rfl (Or.inl rfl) (pe_dget hu (pv 0) pe_str (fun _ _ => rfl)))
      (pss_cons (ps_set (i := 4) scN.nd rfl (Or.inl rfl) (pe_ix ix_list (pv 3) (pe_op op_mod (pe_dget hu (pv 0) pe_str (fun _ _ => rfl)) (pe_callB call_len_seq (by rfl) T.len PySem.boot_len (pa_cons (pv 3) pa_nil))) (fun _ _ => rfl)))
      (pss_cons (ps_dput hu (pv 0) pe_str (pe_op op_add (pe_dget hu (pv 0) pe_str (fun _ _ => rfl)) pe_int) rfl)
      (pss_cons (ps_if (PW.pt (pw_and (pt_cmpR op_ge (pv 4) (pe_op op_pow pe_int pe_int) (nomark _)) (pw_and1 (pt_cmpR op_le (pe_dget hu (pv 0) pe_str (fun _ _ => rfl)) (pe_callB call_len_seq (by rfl) T.len PySem.boot_len (pa_cons (pv 3) pa_nil)) (nomark _)))))
        (pss_cons (ps_dput hu (pv 0) pe_str (pe_op op_fdivZ (pv 4) (pv 1)) rfl) (pss_one (ps_ret (pe_op op_mod (pv 4) (pv 1))))) pss_nil)
      (pss_cons (ps_dput hu (pv 0) pe_str (pe_op op_add (pe_dget hu (pv 0) pe_str (fun _ _ => rfl)) pe_int) rfl)
      (pss_one (ps_ret (pe_op op_mod (pe_callG (E := fun _ => E0) GM hr hgd rfl T.gM T.kM bM .nil pass0G (pa_cons (pe_callG (E := fun _ => E0) GM hr hgd rfl T.gM T.kM bM .nil pass0G (pa_cons (pv 4) (pa_cons (pe_dget hu (pv 0) pe_str (fun _ _ => rfl)) pa_nil))) (pa_cons (pe_dget hu (pv 0) pe_str (fun _ _ => rfl)) pa_nil))) (pv 1))))))))), ?_⟩
    have dg : ∀ {G : Hp} {a' l' u' : Int}, G p = some (.dK (kvD c a' l' u')) → DGet G p (.str (Str.ofString "left")) (some (.int l')) ∧ DGet G p (.str (Str.ofString "at")) (some (.int a')) ∧ DGet G p (.str (Str.ofString "used")) (some (.int u')) ∧ DGet G p (.str (Str.ofString "cells")) (some (.ref c)) := fun {G a' l' u'} e => by
      refine ⟨?_, ?_, ?_, ?_⟩
      · rw [← vL c a' l' u']; exact DGet.k (k := kL) e
      · rw [← vA c a' l' u']; exact DGet.k (k := kA) e
      · rw [← vU c a' l' u']; exact DGet.k (k := kU) e
      · rw [← vC c a' l' u']; exact DGet.k (k := kC) e
    have dpL : ∀ {G : Hp} {a' l' u' : Int} (x : Int), G p = some (.dK (kvD c a' l' u')) → DPut G p (.str (Str.ofString "left")) (.int x) (upd G p (.dK (kvD c a' x u'))) := fun {G a' l' u'} x e => by
      rw [← pL c a' l' u' x]; exact DPut.k (k := kL) e (by rw [sizeLine_eq]; show 4 < 16777216; decide)
    have dpA : ∀ {G : Hp} {a' l' u' : Int} (x : Int), G p = some (.dK (kvD c a' l' u')) → DPut G p (.str (Str.ofString "at")) (.int x) (upd G p (.dK (kvD c x l' u'))) := fun {G a' l' u'} x e => by
      rw [← pA c a' l' u' x]; exact DPut.k (k := kA) e (by rw [sizeLine_eq]; show 4 < 16777216; decide)
    have dpU : ∀ {G : Hp} {a' l' u' : Int} (x : Int), G p = some (.dK (kvD c a' l' u')) → DPut G p (.str (Str.ofString "used")) (.int x) (upd G p (.dK (kvD c a' l' x))) := fun {G a' l' u'} x e => by
      rw [← pU c a' l' u' x]; exact DPut.k (k := kU) e (by rw [sizeLine_eq]; show 4 < 16777216; decide)
    have fin : ∀ {a' l' u' : Int} (r : Int), 0 ≤ a' → a' ≤ a + 1 → 0 ≤ l' → 0 ≤ u' → u' ≤ u + 1 → 0 ≤ r → r < bd → Q (.int r) (upd H p (.dK (kvD c a' l' u'))) := fun {a' l' u'} r e1 e2 e3 e4 e5 e6 e7 =>
      kq r _ e6 e7 ⟨a', l', u', ns, upd_same, by rw [upd_ne ncp]; exact h2, h3, h4, e1, by omega, e3, e4, by omega⟩ Kp.self fun b hb => upd_ne hb
    refine ⟨_, rfl, p, .int l, rfl, (dg h1).1, _, _, rfl, rfl, _, rfl, ?_⟩
    refine ite2 (fun hl => ?_) (fun hl => ?_)
    · have hl0 : 0 < l := of_decide_eq_true hl
      refine ⟨_, rfl, p, .int l, rfl, (dg h1).1, _, rfl, _, _, rfl, rfl, b0, ?_⟩
      refine ⟨_, rfl, p, .int l, rfl, (dg h1).1, _, rfl, _, _, rfl, rfl, cz, _, rfl, p, _, rfl, dpL _ h1, _, rfl, ?_⟩
      exact fin _ h5 (by omega) (fdn h7 (by omega)) h8 (by omega) (Int.emod_nonneg _ (by omega)) (Int.emod_lt_of_pos _ b0)
    · refine ⟨_, rfl, p, .ref c, rfl, (dg h1).2.2.2, ?_⟩
      have hlen : ((ns.map V.int).length : Int) = (ns.length : Int) := by rw [List.length_map]
      obtain ⟨x, hx⟩ : ∃ x : Int, atI (ns.map V.int) (a % ((ns.map V.int).length : Int)) = some (V.int x) := by
        rw [hlen]
        have e0 := Int.emod_nonneg a (show (ns.length : Int) ≠ 0 by omega)
        have e1 := Int.emod_lt_of_pos a (show (0 : Int) < (ns.length : Int) by omega)
        obtain ⟨j, hj⟩ : ∃ j : Nat, a % (ns.length : Int) = (j : Int) := ⟨(a % (ns.length : Int)).toNat, by omega⟩
        rw [hj]
        have hjl : j < ns.length := by omega
        exact ⟨ns[j], atI_nat (by rw [List.getElem?_map, List.getElem?_eq_getElem hjl]; rfl)⟩
      refine ⟨_, rfl, _, rfl, p, .int a, rfl, (dg h1).2.1, _, rfl, c, _, rfl, .inl (SqL.of h2), _, _, rfl, rfl, by rw [hlen]; omega, c, _, _, .int x, rfl, rfl, SqL.of h2, hx, ?_⟩
      refine ⟨_, rfl, p, .int a, rfl, (dg h1).2.1, _, _, rfl, rfl, _, rfl, p, _, rfl, dpA _ h1, ?_⟩
      have g1 : (upd H p (.dK (kvD c (a + 1) l u))) p = some (.dK (kvD c (a + 1) l u)) := upd_same
      have g2 : (upd H p (.dK (kvD c (a + 1) l u))) c = some (.lst (ns.map V.int)) := by rw [upd_ne ncp]; exact h2
      refine ⟨_, rfl, _, _, rfl, rfl, ⟨by decide, by decide, by decide⟩, _, _, rfl, rfl, _, rfl, ?_⟩
      refine ite2 (fun hc => ?_) (fun hc => iteF ?_)
      · refine ⟨_, rfl, p, _, rfl, (dg g1).2.1, _, rfl, c, _, rfl, .inl (SqL.of g2), _, _, rfl, rfl, _, rfl, ?_⟩
        refine ite2 (fun hd => ?_) (fun hd => ?_)
        · have hx0 : (10 : Int) ^ 18 ≤ x := of_decide_eq_true hc
          refine ⟨_, rfl, _, rfl, _, _, rfl, rfl, cz, _, rfl, p, _, rfl, dpL _ g1, _, rfl, _, rfl, _, _, rfl, rfl, b0, ?_⟩
          rw [upd_upd]
          exact fin _ (by omega) (by omega) (fdn (by omega) (by omega)) h8 (by omega) (Int.emod_nonneg _ (by omega)) (Int.emod_lt_of_pos _ b0)
        · refine ⟨_, rfl, p, _, rfl, (dg g1).2.2.1, _, _, rfl, rfl, _, rfl, p, _, rfl, dpU _ g1, ?_⟩
          have f1 : (upd (upd H p (.dK (kvD c (a + 1) l u))) p (.dK (kvD c (a + 1) l (u + 1)))) p = some (.dK (kvD c (a + 1) l (u + 1))) := upd_same
          refine ⟨_, rfl, _, rfl, p, _, rfl, (dg f1).2.1, x, a + 1, rfl, by omega, by omega, fun r1 r10 r11 => ?_⟩
          refine ⟨_, rfl, p, _, rfl, (dg f1).2.2.1, r1, u + 1, rfl, by omega, by omega, fun r2 r20 r21 => ?_⟩
          refine ⟨_, rfl, _, _, rfl, rfl, b0, ?_⟩
          rw [upd_upd]
          exact fin _ (by omega) (by omega) h7 (by omega) (by omega) (Int.emod_nonneg _ (by omega)) (Int.emod_lt_of_pos _ b0)
      · refine ⟨_, rfl, p, _, rfl, (dg g1).2.2.1, _, _, rfl, rfl, _, rfl, p, _, rfl, dpU _ g1, ?_⟩
        have f1 : (upd (upd H p (.dK (kvD c (a + 1) l u))) p (.dK (kvD c (a + 1) l (u + 1)))) p = some (.dK (kvD c (a + 1) l (u + 1))) := upd_same
        refine ⟨_, rfl, _, rfl, p, _, rfl, (dg f1).2.1, x, a + 1, rfl, by omega, by omega, fun r1 r10 r11 => ?_⟩
        refine ⟨_, rfl, p, _, rfl, (dg f1).2.2.1, r1, u + 1, rfl, by omega, by omega, fun r2 r20 r21 => ?_⟩
        refine ⟨_, rfl, _, _, rfl, rfl, b0, ?_⟩
        rw [upd_upd]
        exact fin _ (by omega) (by omega) h7 (by omega) (by omega) (Int.emod_nonneg _ (by omega)) (Int.emod_lt_of_pos _ b0)
end
end K5
set_option Elab.async false
set_option linter.all false
set_option maxRecDepth 100000
set_option maxHeartbeats 4000000
namespace K5
open PySem PySem.Spec PyProof.Rows L2 RmX Rm Mth
abbrev sNum : Stmt := top 8
abbrev sIsI : Stmt := top 9
abbrev sIsN : Stmt := top 10
abbrev sChk : Stmt := top 11
/-! ### promises -/
def isI : PyData → Bool
  | .int _ => true
  | _ => false
def isN : PyData → Bool
  | .tuple [.int a, .int b] => decide (1 ≤ b) && decide (((Nat.gcd a.natAbs b.natAbs : Nat) : Int) = 1)
  | _ => false
def spIsI (K : PySem.W.Frag) : Sp := fun vs H Q _ => ∃ x d, vs = [x] ∧ Dp K H x d ∧ Q (.bl (isI d)) H
def spIsN (K : PySem.W.Frag) : Sp := fun vs H Q _ => ∃ x d, vs = [x] ∧ Dp K H x d ∧ Q (.bl (isN d)) H
/-- InvalidNumber(x) leaves -/
def Bad (C : Addr) (x : V) (H : Hp) (E : XK) : Prop := ∀ dx, H dx = none → E (.ref C) (some dx) (upd H dx (.xd [(Str.ofString "thing", x)]))
def spChk (K : PySem.W.Frag) (C : Addr) : Sp := fun vs H Q E => ∃ x d, vs = [x] ∧ Dp K H x d ∧ (isN d = true → Q .non H) ∧ (isN d = false → Fit d ∧ Bad C x H E)
/-- what the written part says -/
structure TxtN (P : Program) (K : PySem.W.Frag) (mg : Str → Option Value) (C fI fNum fIsI fIsN fChk : Addr) : Prop where
  ex : ExT P K mg C fI (Str.ofString "thing") "ValueError" "ValueError.__new__" "ValueError.__init__" [.type "ValueError", .type "Exception", .type "BaseException", .type "object"]
  gC : mg "InvalidNumber" = some (.ref C)
  sup : mg "super" = none
  len : mg "len" = none
  isi : mg "isinstance" = none
  gint : mg "int" = none
  gbool : mg "bool" = none
  gtup : mg "tuple" = none
  gcd : mg "gcd" = some (.builtin "math.gcd")
  gNum : mg "number" = some (.ref fNum)
  kNum : PySem.W.keepIn K (.ref fNum) = true
  gIsI : mg "is_integer" = some (.ref fIsI)
  kIsI : PySem.W.keepIn K (.ref fIsI) = true
  gIsN : mg "is_number" = some (.ref fIsN)
  kIsN : PySem.W.keepIn K (.ref fIsN) = true
  gChk : mg "check_number" = some (.ref fChk)
  kChk : PySem.W.keepIn K (.ref fChk) = true
theorem fn_thing : FName (Str.ofString "thing") := ⟨rfl, by decide, by decide +kernel, by decide +kernel, rfl, rfl, rfl, fun _ _ _ _ _ _ _ _ _ _ _ _ => rfl, fun _ _ _ _ _ _ _ _ _ _ _ _ => rfl⟩
theorem kb (a b : String) {r : Bool} (h : kitB a b = some r) {K : PySem.W.Frag} : PySem.W.kitOne K (.type a) (.type b) = some r := kit_ty h
theorem k_non_int : kitB "NoneType" "int" = some false := by decide +kernel
theorem k_bl_int : kitB "bool" "int" = some true := by decide +kernel
theorem k_int_int : kitB "int" "int" = some true := by decide +kernel
theorem k_str_int : kitB "str" "int" = some false := by decide +kernel
theorem k_lst_int : kitB "list" "int" = some false := by decide +kernel
theorem k_tup_int : kitB "tuple" "int" = some false := by decide +kernel
theorem k_int_bl : kitB "int" "bool" = some false := by decide +kernel
theorem k_bl_bl : kitB "bool" "bool" = some true := by decide +kernel
theorem k_non_tup : kitB "NoneType" "tuple" = some false := by decide +kernel
theorem k_bl_tup : kitB "bool" "tuple" = some false := by decide +kernel
theorem k_int_tup : kitB "int" "tuple" = some false := by decide +kernel
theorem k_str_tup : kitB "str" "tuple" = some false := by decide +kernel
theorem k_lst_tup : kitB "list" "tuple" = some false := by decide +kernel
theorem k_tup_tup : kitB "tuple" "tuple" = some true := by decide +kernel
section
variable {P : Program} {w : World} {K : PySem.W.Frag} {mg : Str → Option Value} {base : Heap} {C fI fNum fIsI fIsN fChk : Addr}
theorem scII : FnScope ["thing"] ["thing"] (defScope sIsI) := ⟨rfl, rfl, rfl, by decide +kernel, rfl, by decide +kernel, by decide +kernel⟩
theorem ok_isI {f : Addr} {fd : FuncData} (F : Fun K "is_integer" "is_integer" sIsI f fd) (T : TxtN P K mg C fI fNum fIsI fIsN fChk) : FnG P w K mg base 1 f fd ["thing"] (spIsI K) := by
  refine okG F scII (fun vs H Q E h => ?_) (fun cdv A outer s H vs Q E hr hgd h => ?_)
  · obtain ⟨x, d, rfl, _⟩ := h
    rfl
  · obtain ⟨x, d, rfl, hd, k⟩ := h
    refine ⟨_, pss_one (ps_ret (pe_and (pe_callB call_isi (by rfl) T.isi (by decide +kernel) (pa_cons (pv 0) (pa_cons (pe_bltn (v := .ty "int") (by rfl) T.gint (by decide +kernel) rfl) pa_nil)))
      (pe_one (pe_not (pe_callB call_isi (by rfl) T.isi (by decide +kernel) (pa_cons (pv 0) (pa_cons (pe_bltn (v := .ty "bool") (by rfl) T.gbool (by decide +kernel) rfl) pa_nil))))))), ?_⟩
    have ty := dpTy hd
    cases hd with
    | int i =>
      refine ⟨_, rfl, _, _, _, _, true, rfl, .ty "int", ty, kb "int" "int" k_int_int, _, rfl, iteT ?_⟩
      exact ⟨_, rfl, _, _, _, _, false, rfl, .ty "bool", ty, kb "int" "bool" k_int_bl, _, rfl, k⟩
    | bl b =>
      refine ⟨_, rfl, _, _, _, _, true, rfl, .ty "int", ty, kb "bool" "int" k_bl_int, _, rfl, iteT ?_⟩
      exact ⟨_, rfl, _, _, _, _, true, rfl, .ty "bool", ty, kb "bool" "bool" k_bl_bl, _, rfl, k⟩
    | non => exact ⟨_, rfl, _, _, _, _, false, rfl, .ty "int", ty, kb "NoneType" "int" k_non_int, _, rfl, iteF k⟩
    | str x => exact ⟨_, rfl, _, _, _, _, false, rfl, .ty "int", ty, kb "str" "int" k_str_int, _, rfl, iteF k⟩
    | lst h1 h2 => exact ⟨_, rfl, _, _, _, _, false, rfl, .ty "int", ty, kb "list" "int" k_lst_int, _, rfl, iteF k⟩
    | tup h1 h2 => exact ⟨_, rfl, _, _, _, _, false, rfl, .ty "int", ty, kb "tuple" "int" k_tup_int, _, rfl, iteF k⟩
theorem scIN : FnScope ["thing", "above", "below"] ["thing"] (defScope sIsN) := ⟨rfl, rfl, rfl, by decide +kernel, rfl, by decide +kernel, by decide +kernel⟩
theorem isN_not2 : ∀ {ds : List PyData}, ds.length ≠ 2 → isN (.tuple ds) = false
  | [], _ => rfl
  | [d1], _ => by cases d1 <;> rfl
  | [_, _], h => absurd rfl h
  | d1 :: d2 :: _ :: _, _ => by cases d1 <;> cases d2 <;> rfl
theorem isN_notI {a b : PyData} (h : isI a = false ∨ isI b = false) : isN (.tuple [a, b]) = false := by
  cases a <;> cases b <;> first | rfl | (rcases h with h | h <;> cases h)
theorem isI_int {d : PyData} (h : isI d = true) : ∃ i, d = .int i := by
  cases d <;> first | exact ⟨_, rfl⟩ | cases h
theorem dpAll_len {K : PySem.W.Frag} {H : Hp} : ∀ {xs : List V} {ds : List PyData}, DpAll K H xs ds → xs.length = ds.length
  | _, _, .nil => rfl
  | _, _, .cons _ t => by rw [List.length_cons, List.length_cons, dpAll_len t]
theorem ok_isN {f : Addr} {fd fdI : FuncData} (F : Fun K "is_number" "is_number" sIsN f fd) (T : TxtN P K mg C fI fNum fIsI fIsN fChk) (FI : Fun K "is_integer" "is_integer" sIsI fIsI fdI) (bI : Binds K fdI ["thing"] []) : FnG P w K mg base 2 f fd ["thing"] (spIsN K) := by
  have GI : FnG P w K mg base 1 fIsI fdI ["thing"] (spIsI K) := ok_isI FI T
  refine okG F scIN (fun vs H Q E h => ?_) (fun cdv A outer s H vs Q E hr hgd h => ?_)
  · obtain ⟨x, d, rfl, _⟩ := h
    rfl
  · obtain ⟨x, d, rfl, hd, k⟩ := h
    refine ⟨_, pss_cons (ps_if (PW.pt (pw_or (pt_not (pt_val (pe_callB call_isi (by rfl) T.isi (by decide +kernel) (pa_cons (pv 0) (pa_cons (pe_bltn (v := .ty "tuple") (by rfl) T.gtup (by decide +kernel) rfl) pa_nil)))))
        (pw_or1 (pt_cmpR op_ne (pe_callB call_len_seq (by rfl) T.len PySem.boot_len (pa_cons (pv 0) pa_nil)) pe_int (nomark _))))) (pss_one (ps_ret pe_bl)) pss_nil)
      (pss_cons (ps_asg (pv 0) (pg_tup rfl (pgs_cons (pg_name (i := 1) scIN.nd rfl (Or.inl rfl)) (pgs_cons (pg_name (i := 2) scIN.nd rfl (Or.inl rfl)) pgs_nil))))
      (pss_cons (ps_if (PW.pt (pw_or (pt_not (pt_val (pe_callG (E := fun _ => E0) GI hr hgd rfl T.gIsI T.kIsI bI .nil pass0G (pa_cons (pv 1) pa_nil)))) (pw_or1 (pt_not (pt_val (pe_callG (E := fun _ => E0) GI hr hgd rfl T.gIsI T.kIsI bI .nil pass0G (pa_cons (pv 2) pa_nil))))))) (pss_one (ps_ret pe_bl)) pss_nil)
      (pss_one (ps_ret (pe_and (pe_cmpR op_ge (pv 2) pe_int (nomark _)) (pe_one (pe_cmpR op_eq (pe_callBfun cr_gcd rfl T.gcd (pa_cons (pv 1) (pa_cons (pv 2) pa_nil))) pe_int (nomark _)))))))), ?_⟩
    have ty := dpTy hd
    cases hd with
    | non => exact ⟨_, rfl, _, _, _, _, false, rfl, .ty "tuple", ty, kb "NoneType" "tuple" k_non_tup, _, rfl, iteT (iteT k)⟩
    | bl b => exact ⟨_, rfl, _, _, _, _, false, rfl, .ty "tuple", ty, kb "bool" "tuple" k_bl_tup, _, rfl, iteT (iteT k)⟩
    | int i => exact ⟨_, rfl, _, _, _, _, false, rfl, .ty "tuple", ty, kb "int" "tuple" k_int_tup, _, rfl, iteT (iteT k)⟩
    | str x => exact ⟨_, rfl, _, _, _, _, false, rfl, .ty "tuple", ty, kb "str" "tuple" k_str_tup, _, rfl, iteT (iteT k)⟩
    | lst h1 h2 => exact ⟨_, rfl, _, _, _, _, false, rfl, .ty "tuple", ty, kb "list" "tuple" k_lst_tup, _, rfl, iteT (iteT k)⟩
    | @tup a xs ds h1 h2 =>
      refine ⟨_, rfl, _, _, _, _, true, rfl, .ty "tuple", ty, kb "tuple" "tuple" k_tup_tup, _, rfl, iteF ?_⟩
      have hl := dpAll_len h2
      refine ⟨_, rfl, a, xs, rfl, .inr h1, rfl, _, rfl, ?_⟩
      refine ite2 (fun hc => ?_) (fun hc => ?_)
      · have ne : ds.length ≠ 2 := fun z => by
          rw [hl, z] at hc
          exact absurd hc (by decide)
        rw [isN_not2 ne] at k
        exact k
      · have e2 : ds.length = 2 := by
          rcases Nat.decEq ds.length 2 with z | z
          · refine absurd ?_ hc
            have zz : ¬ ((xs.length : Int) = 2) := by omega
            simp [zz]
          · exact z
        match ds, h2, e2 with
        | [d1, d2], h2, _ =>
          cases h2 with
          | cons g1 h2 =>
            cases h2 with
            | cons g2 h2 =>
              cases h2
              refine ⟨_, rfl, a, _, rfl, h1, rfl, ?_⟩
              refine ⟨_, _, rfl, _, _, rfl, rfl, ?_⟩
              refine ⟨_, rfl, _, d1, rfl, g1, ?_⟩
              refine ⟨_, rfl, ?_⟩
              cases e1 : isI d1 with
              | false =>
                refine iteT (iteT ?_)
                rw [isN_notI (.inl e1)] at k
                exact k
              | true =>
                refine iteF ⟨_, rfl, _, d2, rfl, g2, _, rfl, ?_⟩
                cases e2 : isI d2 with
                | false =>
                  refine iteT ?_
                  rw [isN_notI (.inr e2)] at k
                  exact k
                | true =>
                  refine iteF ?_
                  obtain ⟨i1, rfl⟩ := isI_int e1
                  obtain ⟨i2, rfl⟩ := isI_int e2
                  cases g1
                  cases g2
                  refine ⟨_, rfl, _, _, rfl, rfl, _, rfl, ?_⟩
                  have hk : isN (.tuple [.int i1, .int i2]) = (decide (1 ≤ i2) && decide (((Nat.gcd i1.natAbs i2.natAbs : Nat) : Int) = 1)) := rfl
                  rw [hk] at k
                  refine ite2 (fun hb => ?_) (fun hb => ?_)
                  · refine ⟨_, rfl, _, rfl, i1, i2, rfl, rfl, ?_⟩
                    have e : decide (V.int ((Nat.gcd i1.natAbs i2.natAbs : Nat) : Int) = V.int 1) = decide (((Nat.gcd i1.natAbs i2.natAbs : Nat) : Int) = 1) := by
                      rw [dec_int, Bool.beq_eq_decide_eq]
                    rw [hb, Bool.true_and, ← e] at k
                    exact k
                  · have e : decide ((1 : Int) ≤ i2) = false := by simpa using hb
                    rw [e, Bool.false_and] at k
                    exact k
end
end K5
set_option Elab.async false
set_option linter.all false
set_option maxRecDepth 100000
set_option maxHeartbeats 4000000
namespace K5
open PySem PySem.Spec PyProof.Rows L2 RmX Rm Mth
def spNum (K : PySem.W.Frag) (C : Addr) : Sp := fun vs H Q E => ∃ x y d e, vs = [x, y] ∧ Dp K H x d ∧ Dp K H y e ∧
  (∀ a b, d = .int a → e = .int b → b ≠ 0 → a.natAbs < 2 ^ 8000 ∧ b.natAbs < 2 ^ 8000 ∧ ∀ p, H p = none → Q (.ref p) (upd H p (.tup [.int (nrm a b).1, .int (nrm a b).2]))) ∧
  ((isI d = false ∨ isI e = false ∨ e = .int 0) → Fit (.tuple [d, e]) ∧ ∀ p, H p = none → Bad C (.ref p) (upd H p (.tup [x, y])) E)
theorem same_new {H : Hp} {p : Addr} {o : HO} (n : H p = none) : Same H (upd H p o) := fun b u e => by rw [upd_ne (ne_of_none e n)]; exact e
section
variable {P : Program} {w : World} {K : PySem.W.Frag} {mg : Str → Option Value} {base : Heap} {C fI fNum fIsI fIsN fChk : Addr}
theorem scCh : FnScope ["thing"] ["thing"] (defScope sChk) := ⟨rfl, rfl, rfl, by decide +kernel, rfl, by decide +kernel, by decide +kernel⟩
theorem ok_chk {f : Addr} {fd fdN fdI : FuncData} (F : Fun K "check_number" "check_number" sChk f fd) (T : TxtN P K mg C fI fNum fIsI fIsN fChk) (FN : Fun K "is_number" "is_number" sIsN fIsN fdN) (bN : Binds K fdN ["thing"] []) (FI : Fun K "is_integer" "is_integer" sIsI fIsI fdI) (bI : Binds K fdI ["thing"] []) :
    FnG P w K mg base 3 f fd ["thing"] (spChk K C) := by
  have GN : FnG P w K mg base 2 fIsN fdN ["thing"] (spIsN K) := ok_isN FN T FI bI
  refine okG F scCh (fun vs H Q E h => ?_) (fun cdv A outer s H vs Q E hr hgd h => ?_)
  · obtain ⟨x, d, rfl, _⟩ := h
    rfl
  · obtain ⟨x, d, rfl, hd, k1, k2⟩ := h
    refine ⟨_, pss_one (ps_if (pt_not (pt_val (pe_callG (E := fun _ => E0) GN hr hgd rfl T.gIsN T.kIsN bN .nil pass0G (pa_cons (pv 0) pa_nil))))
      (pss_one (ps_raiseX (X := cxOf (L2.CX P w) P w K mg base ["thing"] "check_number" (defScope sChk) f cdv A outer s H E) rfl base_VE T.ex fn_thing hr hgd T.gC T.sup (takes_of rfl rfl rfl rfl) (pa_cons (pv 0) pa_nil))) pss_nil), ?_⟩
    refine ⟨_, rfl, x, d, rfl, hd, _, rfl, ?_⟩
    cases e : isN d with
    | true => exact iteF (k1 e)
    | false =>
      refine iteT ?_
      exact ⟨_, rfl, x, d, rfl, hd, (k2 e).1, fun dx hdx => (k2 e).2 dx hdx⟩
theorem scNu : FnScope ["above", "below", "shared"] ["above", "below"] (defScope sNum) := ⟨rfl, rfl, rfl, by decide +kernel, rfl, by decide +kernel, by decide +kernel⟩
theorem shr_log {a b : Int} (h : b ≠ 0) (hb : b.natAbs < 2 ^ 8000) : (shr a b).natAbs.log2 < 9000 := by
  have h1 : (shr a b).natAbs < 2 ^ 8000 := by
    rw [shr_abs]
    exact Nat.lt_of_le_of_lt (Nat.gcd_le_right _ (by omega)) hb
  have h2 := PySem.Flt.log2_lt_of (show 0 < 8000 by decide) h1
  omega
theorem okGD {x qual : Str} {params : Arguments} {body : List Stmt} {scope : Scope} {dvs : List V} {kws : List (Str × V)} {f : Addr} {fd : FuncData} {N ps : List Str} {k : Nat} {sp : Sp} (F : FunD K x qual params body scope dvs kws f fd) (S : FnScope N ps scope) (len : ∀ vs H Q E, sp vs H Q E → vs.length = ps.length)
    (hbody : ∀ (cdv : Value) (A : Around) (outer : List Env) (s : Shared) (H : Hp) (vs : List V) (Q : VK) (E : XK), Room k (A.deeper (envOfC qual scope s.heap.objs.size f cdv)) → A.guards = some [] → sp vs H Q E →
      ∃ t, PSs (cxOf (L2.CX P w) P w K mg base N qual scope f cdv A outer s H E) body t ∧ t { nx := fun _ H' => Q .non H', rt := Q } (start N vs) H) : FnG P w K mg base (k + 1) f fd ps sp := by
  obtain ⟨oc, od, dV, kV, doc, pm, an, cdv, ct, osl, rfl, lk, hcd, _, _⟩ := F.ex
  exact fn_ofG lk hcd S len fun A outer s H vs Q E hr hg hsp => hbody cdv A outer s H vs Q E hr hg hsp
theorem ok_num {f : Addr} {fd fdI : FuncData} (F : FunD K "number" "number" (defArgs sNum) (defBody sNum) (defScope sNum) [.int 1] [] f fd) (T : TxtN P K mg C fI fNum fIsI fIsN fChk) (FI : Fun K "is_integer" "is_integer" sIsI fIsI fdI) (bI : Binds K fdI ["thing"] []) :
    FnG P w K mg base 2 f fd ["above", "below"] (spNum K C) := by
  have GI : FnG P w K mg base 1 fIsI fdI ["thing"] (spIsI K) := ok_isI FI T
  refine okGD F scNu (fun vs H Q E h => ?_) (fun cdv A outer s H vs Q E hr hgd h => ?_)
  · obtain ⟨x, y, d, e, rfl, _⟩ := h
    rfl
  · obtain ⟨x, y, d, e, rfl, hx, hy, k1, k2⟩ := h
    refine ⟨_, pss_cons (ps_if (PW.pt (pw_or (pt_not (pt_val (pe_callG (E := fun _ => E0) GI hr hgd rfl T.gIsI T.kIsI bI .nil pass0G (pa_cons (pv 0) pa_nil)))) (pw_or (pt_not (pt_val (pe_callG (E := fun _ => E0) GI hr hgd rfl T.gIsI T.kIsI bI .nil pass0G (pa_cons (pv 1) pa_nil)))) (pw_or1 (pt_cmpR op_eq (pv 1) pe_int (nomark _))))))
        (pss_one (ps_raiseX (X := cxOf (L2.CX P w) P w K mg base ["above", "below", "shared"] "number" (defScope sNum) f cdv A outer s H E) rfl base_VE T.ex fn_thing hr hgd T.gC T.sup (takes_of rfl rfl rfl rfl) (pa_cons (pe_tup (pa_cons (pv 0) (pa_cons (pv 1) pa_nil))) pa_nil))) pss_nil)
      (pss_cons (ps_set (i := 2) scNu.nd rfl (Or.inl rfl) (pe_callBfun cr_gcd rfl T.gcd (pa_cons (pv 0) (pa_cons (pv 1) pa_nil))))
      (pss_cons (ps_if (pt_cmpR op_lt (pv 1) pe_int (nomark _)) (pss_one (ps_set (i := 2) scNu.nd rfl (Or.inl rfl) (pe_un un_neg (pv 2)))) pss_nil)
      (pss_one (ps_ret (pe_tup (pa_cons (pe_op op_fdivZ (pv 0) (pv 2)) (pa_cons (pe_op op_fdivZ (pv 1) (pv 2)) pa_nil))))))), ?_⟩
    have bad : (isI d = false ∨ isI e = false ∨ e = .int 0) → tRaiseX K C (Str.ofString "thing") (fun cls d _ H => E cls d H) (tCons (tTup (tCons (tVar 0) (tCons (tVar 1) tNil))) tNil) { nx := fun _ H' => Q .non H', rt := Q } (start ["above", "below", "shared"] [x, y]) H := fun hb => by
      refine ⟨_, rfl, _, rfl, by rw [sizeLine_eq]; show 2 ≤ 16777216; decide, fun p np => ?_⟩
      exact ⟨.ref p, _, rfl, .tup (SqT.of upd_same) (.cons (dp_same (same_new np) hx) (.cons (dp_same (same_new np) hy) .nil)), (k2 hb).1, fun dx hdx => (k2 hb).2 p np dx hdx⟩
    refine ⟨_, rfl, x, d, rfl, hx, _, rfl, ?_⟩
    cases e1 : isI d with
    | false => exact iteT (iteT (bad (.inl e1)))
    | true =>
      refine iteF ⟨_, rfl, y, e, rfl, hy, _, rfl, ?_⟩
      cases e2 : isI e with
      | false => exact iteT (iteT (bad (.inr (.inl e2))))
      | true =>
        obtain ⟨a, rfl⟩ := isI_int e1
        obtain ⟨b, rfl⟩ := isI_int e2
        cases hx
        cases hy
        refine iteF ⟨_, rfl, rfl, _, rfl, ?_⟩
        refine ite2 (fun hb => ?_) (fun hb => ?_)
        · have z : b = 0 := by
            have := of_decide_eq_true hb
            injection this
          subst z
          exact bad (.inr (.inr rfl))
        · have hb0 : b ≠ 0 := fun z => hb (by rw [z]; exact decide_eq_true rfl)
          obtain ⟨s1, s2, kq⟩ := k1 a b rfl rfl hb0
          refine ⟨_, rfl, _, rfl, a, b, rfl, _, rfl, _, _, rfl, rfl, _, rfl, ?_⟩
          refine ite2 (fun hn => ?_) (fun hn => ?_)
          · have hlt : b < 0 := of_decide_eq_true hn
            have es : shr a b = -((Nat.gcd a.natAbs b.natAbs : Nat) : Int) := if_pos hlt
            refine ⟨_, rfl, _, rfl, ?_⟩
            have h1 := shr_ne (a := a) hb0
            have h2 := shr_log (a := a) hb0 s2
            rw [es] at h1 h2
            refine ⟨_, rfl, _, rfl, _, _, rfl, rfl, ⟨h1, h2⟩, _, rfl, _, rfl, _, _, rfl, rfl, ⟨h1, h2⟩, by rw [sizeLine_eq]; show 2 ≤ 16777216; decide, fun p np => ?_⟩
            have q := kq p np
            unfold nrm at q
            rw [es] at q
            exact q
          · have hlt : ¬ b < 0 := fun z => hn (decide_eq_true z)
            have es : shr a b = ((Nat.gcd a.natAbs b.natAbs : Nat) : Int) := if_neg hlt
            have h1 := shr_ne (a := a) hb0
            have h2 := shr_log (a := a) hb0 s2
            rw [es] at h1 h2
            refine ⟨_, rfl, _, rfl, _, _, rfl, rfl, ⟨h1, h2⟩, _, rfl, _, rfl, _, _, rfl, rfl, ⟨h1, h2⟩, by rw [sizeLine_eq]; show 2 ≤ 16777216; decide, fun p np => ?_⟩
            have q := kq p np
            unfold nrm at q
            rw [es] at q
            exact q
/-! ### the arithmetic -/
theorem isN_iff {d : PyData} (h : isN d = true) : ∃ a b, d = .tuple [.int a, .int b] ∧ isNum a b := by
  unfold isN at h
  split at h
  · rename_i a b
    simp only [Bool.and_eq_true, decide_eq_true_eq] at h
    exact ⟨a, b, rfl, h.1, by omega⟩
  · cases h
theorem isN_of {a b : Int} (h : isNum a b) : isN (.tuple [.int a, .int b]) = true := by
  have hk : isN (.tuple [.int a, .int b]) = (decide (1 ≤ b) && decide (((Nat.gcd a.natAbs b.natAbs : Nat) : Int) = 1)) := rfl
  rw [hk, decide_eq_true h.1, Bool.true_and]
  exact decide_eq_true (by rw [h.2]; rfl)
theorem dp_num {H : Hp} {x : V} {a b : Int} (h : Dp K H x (.tuple [.int a, .int b])) : ∃ p, x = .ref p ∧ SqT K H p [.int a, .int b] := by
  cases h with
  | tup h1 h2 =>
    cases h2 with
    | cons g1 h2 => cases h2 with
      | cons g2 h2 => cases h2; cases g1; cases g2; exact ⟨_, rfl, h1⟩
theorem dp_mk {H : Hp} {p : Addr} {a b : Int} (h : SqT K H p [.int a, .int b]) : Dp K H (.ref p) (.tuple [.int a, .int b]) := .tup h (.cons (.int a) (.cons (.int b) .nil))
end
end K5
set_option Elab.async false
set_option linter.all false
set_option maxRecDepth 100000
set_option maxHeartbeats 4000000
set_option exponentiation.threshold 100000
namespace K5
open PySem PySem.Spec PyProof.Rows L2 RmX Rm Mth
abbrev sTxt : Stmt := top 12
/-! ### what a call of a def needs -/
structure Cal (P : Program) (w : World) (K : PySem.W.Frag) (mg : Str → Option Value) (base : Heap) (x : Str) (f : Addr) (fd : FuncData) (k : Nat) (ps : List Str) (sp : Sp) : Prop where
  fn : FnG P w K mg base k f fd ps sp
  g : mg x = some (.ref f)
  k : PySem.W.keepIn K (.ref f) = true
  b : Binds K fd ps []
/-- a promise as one word, not opened by the unifier -/
structure Bx (p : Prop) : Prop where
  h : p
def bx (sp : Sp) : Sp := fun vs H Q E => Bx (sp vs H Q E)
theorem fn_bx {P : Program} {w : World} {K : PySem.W.Frag} {mg : Str → Option Value} {base : Heap} {k : Nat} {f : Addr} {fd : FuncData} {ps : List Str} {sp : Sp} (F : FnG P w K mg base k f fd ps sp) : FnG P w K mg base k f fd ps (bx sp) := F.imp fun _ _ _ _ q => q.h
section
variable {X : Cx} {k : Nat} {f : Addr} {fd : FuncData} {ps ks : List Str} {sp : Sp} {x : Str} {p pos : Pos} {e : Expr} {es : List Expr} {kws : List Keyword} {t tk : TA} {g : List Value → List Value → List Value} {gV : List V → List V → List V}
theorem pe_cal (c : Cal X.prog X.w X.K X.mg X.base x f fd k ps sp) (hr : Room k X.A) (hgd : X.A.guards = some []) (ha : PA X (e :: es) t) (hg : Gl X x := by rfl)
    (hdb : (x == ("__debug__" : Str)) = false := by decide) (he : starEach (e :: es) X.env = (false, eval e X.env) :: starEach es X.env := by rfl) (hpl : (backTo pos (starEach es X.env)).any (·.1) = false := by rfl) :
    PE X (.Call (.Name x p) (e :: es) [] pos) (tCallSD sp [] (fun _ => E0) t) := pe_callG c.fn hr hgd hg c.g c.k c.b .nil pass0G ha hdb he hpl
theorem pe_calK (c : Cal X.prog X.w X.K X.mg X.base x f fd k ps sp) (hb : KBinds X.K fd ps ks g gV) (hr : Room k X.A) (hgd : X.A.guards = some []) (hkw : PK X kws tk) (hg : Gl X x := by rfl)
    (hall : (backToKw pos (keywordEach kws X.env)).all (·.1.isSome) = true := by rfl) (hks : (backToKw pos (keywordEach kws X.env)).filterMap (·.1) = ks := by rfl)
    (hdb : (x == ("__debug__" : Str)) = false := by decide) (hpl : ((backTo pos (starEach [] X.env)).any (·.1) || (backToKw pos (keywordEach kws X.env)).any (·.1.isNone)) = false := by rfl) :
    PE X (.Call (.Name x p) [] kws pos) (tCallKG sp gV (fun _ => E0) tk) := pe_callKG c.fn hr hgd hg c.g c.k hb pass0G hkw hall hks hdb hpl
end
theorem sqT_same {K : PySem.W.Frag} {H H' : Hp} {a : Addr} {xs : List V} (s : Same H H') (h : SqT K H a xs) : SqT K H' a xs := by
  rcases h with (h | ⟨o, h⟩) | h
  · exact .inl (.inl (s _ _ h))
  · exact .inl (.inr ⟨o, s _ _ h⟩)
  · exact .inr h
theorem same_tr {H H1 H2 : Hp} (s : Same H H1) (s2 : Same H1 H2) : Same H H2 := fun b o e => s2 b o (s b o e)
theorem same_rf (H : Hp) : Same H H := fun _ _ e => e
theorem tup_ok {xs : List V} {H : Hp} {Q : VK} (h : ∀ p H', Same H H' → H' p = some (.tup xs) → Q (.ref p) H') : ∀ p, H p = none → Q (.ref p) (upd H p (.tup xs)) := fun p np => h p _ (same_new np) upd_same
theorem lst_ok {xs : List V} {H : Hp} {Q : VK} (hl : xs.length ≤ 100) (h : ∀ p H', Same H H' → H' p = some (.lst xs) → Q (.ref p) H') : xs.length ≤ sizeLine ∧ ∀ p, H p = none → Q (.ref p) (upd H p (.lst xs)) := ⟨by rw [sizeLine_eq]; omega, fun p np => h p _ (same_new np) upd_same⟩
theorem sh_int {i : Int} (h : i.natAbs < 2 ^ 1900) : (PyData.int i).showable = true := by
  have := PySem.Flt.log2_lt_of (show 0 < 1900 by decide) h
  simp only [PyData.showable, decide_eq_true_eq]
  omega
def RepP (K : PySem.W.Frag) (xs : List V) (H : Hp) (Q : VK) : Prop := ∃ v d, xs = [v] ∧ Dp K H v d ∧ d.showable = true ∧ d.hasDict = false ∧ d.depth ≤ 20 ∧ d.shown.length ≤ sizeLine ∧ Q (.str d.shown) H
def rRep (K : PySem.W.Frag) : List V → Hp → VK → Prop := fun xs H Q => Bx (RepP K xs H Q)
theorem rep_ok {K : PySem.W.Frag} {H : Hp} {v : V} {d : PyData} {Q : VK} (hd : Dp K H v d) (f : Fit d) (h : Q (.str d.shown) H) : Bx (RepP K [v] H Q) :=
  ⟨v, d, rfl, hd, f.1, f.2.1, f.2.2.1, Nat.le_trans f.2.2.2 (by rw [sizeLine_eq]; decide), h⟩
theorem call_rep {X : Cx} {k : Nat} (hr : Room k X.A) (hgd : X.A.guards = some []) : CallR X (.builtin "repr") (rRep X.K) := fun pins s σ H xs us Q I r h => call_reprD hr hgd pins s σ H xs us Q I r h.h
theorem same_of {H H2 : Hp} {p : Addr} {o : HO} (n : H p = none) (e : upd H p o = H2) : Same H H2 ∧ H2 p = some o := by
  subst e
  exact ⟨same_new n, upd_same⟩
structure TxtL (mg : Str → Option Value) : Prop where
  str : mg "str" = none
  rep : mg "repr" = none
theorem lg {i : Int} (h : i.natAbs < 2 ^ 1500) : i.natAbs.log2 < 1920 := by
  have := PySem.Flt.log2_lt_of (show 0 < 1500 by decide) h
  omega
theorem tx_len {i : Int} (h : i.natAbs < 2 ^ 1500) : ((toString i : String) : Str).length ≤ 2000 := by
  have e := int_text_length_le (k := 1920) (by decide) (lg h)
  rw [PySem.ofString_length]
  omega
def txtOf (a b : Int) : Str := if b = 1 then ((toString a : String) : Str) else ((toString a : String) : Str) ++ (Str.ofString "/") ++ ((toString b : String) : Str)
def spTxt (K : PySem.W.Frag) (C : Addr) : Sp := fun vs H Q E => ∃ x d, vs = [x] ∧ Dp K H x d ∧ (isN d = false → Fit d ∧ Bad C x H E) ∧ (∀ a b, d = .tuple [.int a, .int b] → isN d = true → a.natAbs < 2 ^ 1500 ∧ b.natAbs < 2 ^ 1500 ∧ Q (.str (txtOf a b)) H)
section
variable {P : Program} {w : World} {K : PySem.W.Frag} {mg : Str → Option Value} {base : Heap} {C fI fNum fIsI fIsN fChk : Addr} {fdIsI fdIsN fdChk : FuncData}
theorem scTx : FnScope ["value"] ["value"] (defScope sTxt) := ⟨rfl, rfl, rfl, by decide +kernel, rfl, by decide +kernel, by decide +kernel⟩
theorem ok_txt {f : Addr} {fd : FuncData} (F : Fun K "number_text" "number_text" sTxt f fd) (TL : TxtL mg) (cC : Cal P w K mg base "check_number" fChk fdChk 3 ["thing"] (spChk K C)) : FnG P w K mg base 4 f fd ["value"] (spTxt K C) := by
  refine okG F scTx (fun vs H Q E h => ?_) (fun cdv A outer s H vs Q E hr hgd h => ?_)
  · obtain ⟨x, d, rfl, _⟩ := h
    rfl
  · obtain ⟨x, d, rfl, hd, kb, kg⟩ := h
    have tk : Takes (cxOf (L2.CX P w) P w K mg base ["value"] "number_text" (defScope sTxt) f cdv A outer s H E) (fun cls d _ H => E cls d H) := takes_of rfl rfl rfl rfl
    refine ⟨_, pss_cons (ps_expr (pe_callG (E := WE (fun cls d _ H => E cls d H)) cC.fn hr hgd rfl cC.g cC.k cC.b .nil (fun σ => passAt tk σ) (pa_cons (pv 0) pa_nil)))
      (pss_cons (ps_if (pt_cmpR op_eq (pe_ix ix_tup (pv 0) pe_int (fun _ _ => rfl)) pe_int (nomark _)) (pss_one (ps_ret (pe_callTy call_str_int (by rfl) TL.str (by decide +kernel) (pa_cons (pe_ix ix_tup (pv 0) pe_int (fun _ _ => rfl)) pa_nil)))) pss_nil)
      (pss_one (ps_ret (pe_joined (.cons (pe_fmt (pe_ix ix_tup (pv 0) pe_int (fun _ _ => rfl))) (.cons pe_str (.cons (pe_fmt (pe_ix ix_tup (pv 0) pe_int (fun _ _ => rfl))) .nil))))))), ?_⟩
    refine ⟨_, rfl, x, d, rfl, hd, fun hn => ?_, kb⟩
    obtain ⟨a, b, rfl, _⟩ := isN_iff hn
    obtain ⟨q, rfl, hp⟩ := dp_num hd
    obtain ⟨za, zb, k⟩ := kg a b rfl hn
    unfold txtOf at k
    refine ⟨_, rfl, q, _, _, _, rfl, rfl, hp, rfl, rfl, _, rfl, ?_⟩
    refine ite2 (fun h1 => ?_) (fun h1 => ?_)
    · have z : b = 1 := by
        have := of_decide_eq_true h1
        injection this
      rw [if_pos z] at k
      exact ⟨_, rfl, q, _, _, _, rfl, rfl, hp, rfl, a, rfl, lg za, k⟩
    · have z : ¬ b = 1 := fun z => h1 (by rw [z]; exact decide_eq_true rfl)
      rw [if_neg z] at k
      have l1 := tx_len za
      have l2 := tx_len zb
      have l3 : (Str.ofString "/").length = 1 := by decide +kernel
      have lz : (5000 : Nat) ≤ sizeLine := by rw [sizeLine_eq]; decide
      refine ⟨_, rfl, q, _, _, _, rfl, rfl, hp, rfl, .inr ⟨a, rfl, lg za, _, rfl, ?_, ?_⟩⟩
      · rw [Str.empty_append]; omega
      · rw [Str.empty_append]
        refine ⟨_, rfl, ?_, ?_⟩
        · rw [strLen_append]; omega
        · refine ⟨_, rfl, q, _, _, _, rfl, rfl, hp, rfl, .inr ⟨b, rfl, lg zb, _, rfl, ?_, k⟩⟩
          rw [strLen_append, strLen_append]; omega
end
end K5
set_option Elab.async false
set_option linter.all false
set_option maxRecDepth 100000
set_option maxHeartbeats 4000000
set_option exponentiation.threshold 100000
namespace K5
open PySem PySem.Spec PyProof.Rows L2 RmX Rm Mth SX
abbrev sIn : Stmt := top 15
abbrev sDig : Stmt := top 16
abbrev sPar : Stmt := top 18
structure TxtP (mg : Str → Option Value) : Prop where
  all : mg "all" = none
  len : mg "len" = none
  gint : mg "int" = none
  gstr : mg "str" = none
  isi : mg "isinstance" = none
def spDig (K : PySem.W.Frag) : Sp := fun vs H Q _ => ∃ (l : List Nat) (m : Nat), vs = [.str (S l), .int (m : Int)] ∧ l.length ≤ 10000 ∧ ∀ H', Same H H' → Q (.bl (dg m l)) H'
theorem dig_ok {K : PySem.W.Frag} {H : Hp} {l : List Nat} {m : Nat} {Q : VK} {E : XK} (hl : l.length ≤ 10000) (h : ∀ H', Same H H' → Q (.bl (dg m l)) H') : Bx (spDig K [.str (S l), .int (m : Int)] H Q E) := ⟨⟨l, m, rfl, hl, h⟩⟩
def okD (c : Nat) : Bool := decide (48 ≤ c) && decide (c ≤ 57)
theorem D_map (l : List Nat) : D l = (l.map okD).all id := by
  unfold D
  rw [List.all_map]
  rfl
theorem lt_one (a b : Nat) : decide ([a] < [b]) = decide (a < b) := by
  by_cases h : a < b
  · rw [decide_eq_true h, decide_eq_true]
    exact List.Lex.rel h
  · rw [decide_eq_false h, decide_eq_false]
    intro z
    cases z with
    | rel h' => exact h h'
    | cons h' => cases h'
theorem tl48 : ("0" : Str).cps.toList = [48] := by decide +kernel
theorem tl57 : ("9" : Str).cps.toList = [57] := by decide +kernel
section
variable {P : Program} {w : World} {K : PySem.W.Frag} {mg : Str → Option Value} {base : Heap} {C fI fNum fIsI fIsN fChk : Addr} {fdIsI fdIsN fdChk : FuncData}
abbrev nD : List Str := ["text", "most", "sign"]
theorem scDg : FnScope nD ["text", "most"] (defScope sDig) := ⟨rfl, rfl, rfl, by decide +kernel, rfl, by decide +kernel, by decide +kernel⟩
theorem ok_dig {f : Addr} {fd : FuncData} (F : Fun K "is_digits" "is_digits" sDig f fd) (T : TxtP mg) : FnG P w K mg base 1 f fd ["text", "most"] (spDig K) := by
  refine okG F scDg (fun vs H Q E h => ?_) (fun cdv A outer s H vs Q E hr hgd h => ?_)
  · obtain ⟨l, m, rfl, _⟩ := h
    rfl
  · obtain ⟨l, m, rfl, hl, k⟩ := h
    refine ⟨_, pss_one (ps_ret (pe_and (pe_chain op_le op_le pe_int (pe_callB call_len_str (by rfl) T.len PySem.boot_len (pa_cons (pv 0) pa_nil)) (pv 1))
      (pe_one (pe_callB (cr_all rfl) (by rfl) T.all (by decide +kernel) (pa_cons (pe_lc (own := [("sign", 2)]) (g := gName 2) (tt := tYes) rfl scDg.nd (pi_str (pv 0)) (blkOk_by (N := nD) (sc := defScope sDig) (by decide +kernel)) (fun _ _ _ _ _ => pg_name (i := 2) scDg.nd rfl (Or.inl rfl)) (fun _ _ _ _ _ => pts_nil) (fun _ _ _ _ _ => pe_chain op_le_str op_le_str pe_str (pv 2) pe_str)) pa_nil))))), ?_⟩
    have zl : (S l).length = l.length := S_len l
    have z0 : (S l).length ≤ sizeLine := by rw [zl, sizeLine_eq]; omega
    have kk := k H (same_rf _)
    refine ⟨_, rfl, S l, rfl, z0, _, _, rfl, rfl, _, rfl, ?_⟩
    rw [zl]
    refine ite2 (fun h1 => ?_) (fun h1 => ?_)
    · have h1' : 1 ≤ l.length := by
        have : (1 : Int) ≤ (l.length : Int) := of_decide_eq_true h1
        omega
      refine ⟨_, rfl, _, _, rfl, rfl, _, rfl, ?_⟩
      refine ite2 (fun h2 => ?_) (fun h2 => ?_)
      · have h2' : l.length ≤ m := by
          have : (l.length : Int) ≤ (m : Int) := of_decide_eq_true h2
          omega
        refine ⟨_, rfl, S l, rfl, fun Dd nD => lc_it (walk_str (z := S l)) (fun i H' => H' Dd = some (.lst (((l.take i).map okD).map V.bl)) ∧ Same H H') ⟨upd_same, same_new nD⟩ (fun _ _ _ _ => trivial) (fun i x H0 H' hi hP hy => ?_) (fun H' hP => ?_)⟩
        · obtain ⟨rfl, c, hc, rfl⟩ := hy
          obtain ⟨hD, s'⟩ := hP
          have hc' : l[i]? = some c := by
            have : (S l).cps[i]? = l[i]? := by simp [S]
            rw [← this]; exact hc
          have tk1 : l.take (i + 1) = l.take i ++ [c] := by
            rw [List.take_succ, hc']
            rfl
          have fin : ∀ b : Bool, b = okD c → ∃ acc, H' Dd = some (.lst acc) ∧ acc.length < sizeLine ∧ ((upd H' Dd (.lst (acc ++ [V.bl b]))) Dd = some (.lst (((l.take (i + 1)).map okD).map V.bl)) ∧ Same H (upd H' Dd (.lst (acc ++ [V.bl b])))) := fun b e => by
            refine ⟨_, hD, ?_, ?_, fun b' o hb => ?_⟩
            · rw [List.length_map, List.length_map, List.length_take, sizeLine_eq]
              omega
            · rw [upd_same, tk1, List.map_append, List.map_append, e]
              rfl
            · rw [upd_ne (ne_of_none hb nD)]
              exact s' _ _ hb
          refine ⟨rfl, ?_⟩
          refine ⟨_, rfl, _, _, rfl, rfl, _, rfl, ?_⟩
          have e1 : (!decide ([c] < ("0" : Str).cps.toList)) = decide (48 ≤ c) := by
            rw [tl48, lt_one]
            by_cases h : 48 ≤ c
            · rw [decide_eq_true h, decide_eq_false (by omega)]; rfl
            · rw [decide_eq_false h, decide_eq_true (by omega)]; rfl
          have e2 : (!decide (("9" : Str).cps.toList < [c])) = decide (c ≤ 57) := by
            rw [tl57, lt_one]
            by_cases h : c ≤ 57
            · rw [decide_eq_true h, decide_eq_false (by omega)]; rfl
            · rw [decide_eq_false h, decide_eq_true (by omega)]; rfl
          refine ite2 (fun ha => ?_) (fun ha => ?_)
          · have ha' : (!decide ([c] < ("0" : Str).cps.toList)) = true := ha
            rw [e1] at ha'
            refine ⟨_, _, rfl, rfl, fin _ ?_⟩
            show (!decide (("9" : Str).cps.toList < [c])) = okD c
            unfold okD
            rw [e2, ha', Bool.true_and]
          · have ha' : (!decide ([c] < ("0" : Str).cps.toList)) = false := Bool.eq_false_iff.mpr ha
            rw [e1] at ha'
            refine fin _ ?_
            unfold okD
            rw [ha', Bool.false_and]
        · obtain ⟨hD, s'⟩ := hP
          have sz : (S l).cps.size = l.length := by simp [S]
          rw [sz, List.take_length] at hD
          refine ⟨Dd, _, rfl, .of hD, ?_⟩
          have z := k H' s'
          unfold dg at z
          rw [decide_eq_true h1', decide_eq_true h2', D_map] at z
          exact z
      · have : ¬ l.length ≤ m := fun z => h2 (decide_eq_true (by show (l.length : Int) ≤ (m : Int); omega))
        unfold dg at kk
        rw [decide_eq_false this, Bool.false_and, Bool.and_false] at kk
        exact kk
    · have h1' : ¬ 1 ≤ l.length := fun z => h1 (decide_eq_true (by show (1 : Int) ≤ (l.length : Int); omega))
      unfold dg at kk
      rw [decide_eq_false h1', Bool.false_and] at kk
      refine ⟨_, rfl, ?_⟩
      exact iteF kk
end
end K5
set_option Elab.async false
set_option linter.all false
set_option maxRecDepth 100000
set_option maxHeartbeats 4000000
set_option exponentiation.threshold 100000
namespace K5
open PySem PySem.Spec PyProof.Rows L2 RmX Rm Mth SX
theorem fresh_same {H H' : Hp} (s : Same H H') {a : Addr} (n : H' a = none) : H a = none := by
  cases e : H a with
  | none => rfl
  | some o => rw [s _ _ e] at n; cases n
theorem s45 : (Str.ofString "-") = S [45] := by decide +kernel
theorem s47 : (Str.ofString "/") = S [47] := by decide +kernel
theorem s49 : (Str.ofString "1") = S [49] := by decide +kernel
theorem starts45 (l : List Nat) : Txt.startswith (S l) (S [45]) = sg l := by
  have h := TL.at_iff (x := S l) (y := S [45]) (by decide) 0
  have h1 : Txt.startswith (S l) (S [45]) = true ↔ TL.pre [45] l = true := by
    have e : Txt.startswith (S l) (S [45]) = (decide (0 + (S [45]).length ≤ (S l).length) && Builtin.Str.subAt (S l) (S [45]) 0) := rfl
    rw [e, Bool.and_eq_true, decide_eq_true_eq]
    exact h
  have h2 : TL.pre [45] l = true ↔ sg l = true := by
    cases l with
    | nil => decide
    | cons c r =>
      unfold TL.pre sg
      rw [decide_eq_true_eq]
      show ([c] == [45]) = true ↔ _
      simp
  cases e : sg l with
  | true => exact h1.mpr (h2.mpr e)
  | false =>
    cases e2 : Txt.startswith (S l) (S [45]) with
    | false => rfl
    | true => rw [h2.mp (h1.mp e2)] at e; cases e
theorem slice1 (l : List Nat) : Txt.slice (S l) (some 1) none = S (l.drop 1) := slice_from (by decide)
theorem body_len (l : List Nat) : (bodyL l).length ≤ l.length := by
  unfold bodyL
  split
  · rw [List.length_drop]; omega
  · exact Nat.le_refl _
theorem par_len {p q b : List Nat} (h : TL.par [47] [] b = some (p, q)) : p.length ≤ b.length ∧ q.length ≤ b.length := by
  by_cases h47 : 47 ∈ b
  · obtain ⟨p', q', rfl, n⟩ := split47 h47
    rw [par_at n] at h
    cases h
    rw [List.length_append, List.length_cons]
    omega
  · have : TL.par [47] [] b = none := TL.par_none1 h47
    rw [this] at h; cases h
theorem cut_len {b : List Nat} {n : Nat} (h : b.length ≤ n) (h1 : 1 ≤ n) : (cut b).1.length ≤ n ∧ (cut b).2.length ≤ n := by
  unfold cut
  split
  · exact ⟨h, h1⟩
  · rename_i p q e
    have := par_len e
    exact ⟨Nat.le_trans this.1 h, Nat.le_trans this.2 h⟩
theorem dv_lt : ∀ {l : List Nat}, D l = true → dv l < 10 ^ l.length := by
  have main : ∀ (k : Nat) (l : List Nat), l.length = k → D l = true → dv l < 10 ^ k := by
    intro k
    induction k with
    | zero =>
      intro l hl _
      rw [List.length_eq_zero_iff.mp hl]
      decide
    | succ k ih =>
      intro l hl hd
      rcases List.eq_nil_or_concat l with z | ⟨l', c, z⟩
      · rw [z] at hl; cases hl
      · rw [List.concat_eq_append] at z
        subst z
        have hd' := D_all hd
        have hc := hd' c (by simp)
        have h1 := ih l' (by simpa using hl) (D_of fun x hx => hd' x (List.mem_append_left _ hx))
        rw [dv_snoc, Nat.pow_succ]
        omega
  exact fun {l} => main l.length l rfl
theorem dg_lt {l : List Nat} (h : dg 420 l = true) : dv l < 2 ^ 1400 := by
  obtain ⟨_, h2, h3⟩ := dg_iff.mp h
  have h1 := dv_lt h3
  have h4 : (10 : Nat) ^ l.length ≤ 10 ^ 420 := Nat.pow_le_pow_right (by decide) h2
  have h5 : (10 : Nat) ^ 420 < 2 ^ 1400 := by decide
  omega
theorem int_dg {l : List Nat} (h : dg 420 l = true) : intText? (S l) = some ((dv l : Nat) : Int) ∧ (S l).length ≤ 640 := by
  obtain ⟨h1, h2, h3⟩ := dg_iff.mp h
  exact ⟨int_S h3 (ne_of_dg h) (by omega), by rw [S_len]; omega⟩
theorem txt_tl (a b : Int) : txtOf a b = S (txtL a b) := by
  refine TL.ext_tl ?_
  unfold txtOf txtL
  split
  · rfl
  · rw [TL.tl_append, TL.tl_append, s47, List.append_assoc]
    rfl
def spIn (K : PySem.W.Frag) (C : Addr) : Sp := fun vs H Q E => ∃ l : List Nat, vs = [.str (S l), .int 420] ∧ l.length ≤ 10000 ∧ Fit (.str (S l)) ∧
  (∀ a b, numIn l = some (a, b) → ∀ p H', Same H H' → H p = none → H' p = some (.tup [.int a, .int b]) → Q (.ref p) H') ∧ (numIn l = none → ∀ H', Same H H' → Bad C (.str (S l)) H' E)
section
variable {P : Program} {w : World} {K : PySem.W.Frag} {mg : Str → Option Value} {base : Heap} {C fI fNum fIsI fIsN fChk aDg aNb aTx : Addr} {dDg dNb dTx : FuncData}
abbrev nI : List Str := ["text", "most_digits", "body", "above", "slash", "below", "sign", "value"]
theorem scIn : FnScope nI ["text", "most_digits"] (defScope sIn) := ⟨rfl, rfl, rfl, by decide +kernel, rfl, by decide +kernel, by decide +kernel⟩
theorem ok_in {f : Addr} {fd : FuncData} (F : FunD K "number_in" "number_in" (defArgs sIn) (defBody sIn) (defScope sIn) [.int 420] [] f fd) (T : TxtN P K mg C fI fNum fIsI fIsN fChk) (TP : TxtP mg) (cD : Cal P w K mg base "is_digits" aDg dDg 1 ["text", "most"] (bx (spDig K)))
    (cN : Cal P w K mg base "number" aNb dNb 2 ["above", "below"] (spNum K C)) (cT : Cal P w K mg base "number_text" aTx dTx 4 ["value"] (spTxt K C)) : FnN P w K mg base 5 f fd ["text", "most_digits"] (spIn K C) := by
  refine okDN F scIn (fun vs H Q E h => ?_) (fun cdv A outer s H vs Q E hr hgd h => ?_)
  · obtain ⟨l, rfl, _⟩ := h
    rfl
  · obtain ⟨l, rfl, hl, ft, yes, no⟩ := h
    have tk : L2N.Takes (cxOf (L2N.CX P w) P w K mg base nI "number_in" (defScope sIn) f cdv A outer s H E) (fun cls d _ H => E cls d H) := L2N.takes_of rfl rfl rfl rfl
    refine ⟨_, C8.pss_cut (ps_set (i := 2) scIn.nd rfl (Or.inl rfl) (pe_ifExp (pt_val (pe_m1 PySem.F.slot_str_startswith PySem.F.type_str_startswith mt_startswith (pv 0) pe_str)) (pe_slice C8.sl_txt (pv 0) (po_some pe_int) po_none) (pv 0)))
      (pss_cons (ps_asg (pe_partition (pv 2) pe_str) (pg_tup rfl (pgs_cons (pg_name (i := 3) scIn.nd rfl (Or.inl rfl)) (pgs_cons (pg_name (i := 4) scIn.nd rfl (Or.inl rfl)) (pgs_cons (pg_name (i := 5) scIn.nd rfl (Or.inl rfl)) pgs_nil)))))
      (C8.pss_cut (ps_if (pt_not (pt_truth (pv 4) (by intro _; rfl))) (pss_one (ps_set (i := 5) scIn.nd rfl (Or.inl rfl) pe_str)) pss_nil)
      (pss_cons (ps_if (PW.pt (pw_or (pt_not (pt_val (pe_cal cD (hr.mono (by decide)) hgd (pa_cons (pv 3) (pa_cons (pv 1) pa_nil))))) (pw_or (pt_not (pt_val (pe_cal cD (hr.mono (by decide)) hgd (pa_cons (pv 5) (pa_cons (pv 1) pa_nil))))) (pw_or1 (pt_cmpR op_eq (pe_callTy call_int_str (by rfl) TP.gint (by decide +kernel) (pa_cons (pv 5) pa_nil)) pe_int (nomark _))))))
        (pss_one (ps_raiseXN rfl base_VE T.ex fn_thing hr hgd T.gC T.sup tk (pa_cons (pv 0) pa_nil))) pss_nil)
      (C8.pss_cut (ps_set (i := 6) scIn.nd rfl (Or.inl rfl) (pe_ifExp (pt_cmpR op_eq (pv 2) (pv 0) (nomark _)) pe_int (pe_un un_neg pe_int)))
      (pss_cons (ps_set (i := 7) scIn.nd rfl (Or.inl rfl) (pe_cal cN (hr.mono (by decide)) hgd (pa_cons (pe_op op_mul (pv 6) (pe_callTy call_int_str (by rfl) TP.gint (by decide +kernel) (pa_cons (pv 3) pa_nil))) (pa_cons (pe_callTy call_int_str (by rfl) TP.gint (by decide +kernel) (pa_cons (pv 5) pa_nil)) pa_nil))))
      (pss_cons (ps_if (pt_cmpR op_ne (pe_cal cT (hr.mono (by decide)) hgd (pa_cons (pv 7) pa_nil)) (pv 0) (nomark _)) (pss_one (ps_raiseXN rfl base_VE T.ex fn_thing hr hgd T.gC T.sup tk (pa_cons (pv 0) pa_nil))) pss_nil)
      (pss_one (ps_ret (pv 7))))))))), ?_⟩
    have hz : ∀ {m : List Nat}, m.length ≤ 10000 → (S m).length ≤ sizeLine := fun {m} h => by rw [S_len, sizeLine_eq]; omega
    have bl := Nat.le_trans (body_len l) hl
    obtain ⟨cl1, cl2⟩ := cut_len bl (by decide)
    have raised : ∀ {H' : Hp}, Same H H' → numIn l = none → ∀ (a2 a3 a4 a5 a6 a7 : Option V) (D : Ends), tRaiseX K C (Str.ofString "thing") (fun cls d _ H => E cls d H) (tCons (tVar 0) tNil) D [some (.str (S l)), some (.int 420), a2, a3, a4, a5, a6, a7] H' := fun {H'} s' e a2 a3 a4 a5 a6 a7 D =>
      ⟨_, rfl, _, _, rfl, .str _, ft, fun dx hdx => no e H' s' dx hdx⟩
    refine ⟨fun σ' H' => σ' = [some (.str (S l)), some (.int 420), some (.str (S (bodyL l))), none, none, none, none, none] ∧ H = H', ?_, ?_⟩
    · refine ⟨_, rfl, ⟨_, rfl⟩, _, _, rfl, rfl, ?_⟩
      rw [show Txt.startswith (S l) (Str.ofString "-") = sg l by rw [s45]; exact starts45 l]
      refine ⟨_, rfl, ?_⟩
      have eb : bodyL l = if sg l = true then l.drop 1 else l := rfl
      cases e : sg l with
      | true =>
        rw [e, if_pos rfl] at eb
        refine iteT ⟨_, rfl, ⟨_, rfl, S l, rfl, hz hl, ?_⟩⟩
        rw [slice1, ← eb]
        exact ⟨rfl, rfl⟩
      | false =>
        rw [e, if_neg (by decide)] at eb
        refine iteF ⟨_, rfl, ?_⟩
        exact ⟨by rw [eb]; rfl, rfl⟩
    · rintro σ' H' ⟨rfl, rfl⟩
      refine ⟨_, rfl, ⟨_, rfl⟩, _, _, rfl, rfl, by decide +kernel, hz bl, fun t nt => ?_⟩
      generalize hG : upd H t _ = H1
      obtain ⟨s1, h1⟩ := same_of nt hG
      clear hG nt
      refine ⟨t, _, rfl, .of h1, rfl, _, _, rfl, _, _, rfl, _, _, rfl, rfl, ?_⟩
      refine ⟨fun σ' H' => ∃ sl : V, σ' = [some (.str (S l)), some (.int 420), some (.str (S (bodyL l))), some (.str (S (cut (bodyL l)).1)), some sl, some (.str (S (cut (bodyL l)).2)), none, none] ∧ Same H H', ?_, ?_⟩
      · have n47 : ([47] : List Nat) ≠ [] := by decide
        cases e : TL.par [47] [] (bodyL l) with
        | some r =>
          obtain ⟨p, q⟩ := r
          have ep := SX.partition_some n47 e
          have ec : cut (bodyL l) = (p, q) := by unfold cut; rw [e]
          rw [s47, ep, ec]
          refine ⟨_, rfl, true, ⟨by rw [S_len, sizeLine_eq]; decide, rfl⟩, iteF ?_⟩
          exact ⟨_, rfl, s1⟩
        | none =>
          have ep := SX.partition_none n47 e
          have ec : cut (bodyL l) = (bodyL l, [49]) := by unfold cut; rw [e]
          rw [s47, ep, ec]
          refine ⟨_, rfl, false, ⟨by rw [S_len, sizeLine_eq]; decide, rfl⟩, iteT ?_⟩
          exact ⟨_, by rw [← s49]; rfl, s1⟩
      · clear s1 h1
        rintro σ' H' ⟨sl, rfl, s1⟩
        generalize hp : (cut (bodyL l)).1 = p at *
        generalize hq : (cut (bodyL l)).2 = q at *
        have en : numIn l = if dg 420 p = true ∧ dg 420 q = true ∧ dv q ≠ 0 then (if txtL (nrm (sgn l (dv p)) (dv q)).1 (nrm (sgn l (dv p)) (dv q)).2 = l then some (nrm (sgn l (dv p)) (dv q)) else none) else none := by
          rw [← hp, ← hq]
          rfl
        refine ⟨_, rfl, _, rfl, dig_ok (m := 420) cl1 fun H2 s2 => ⟨_, rfl, ?_⟩⟩
        have S2 := same_tr s1 s2
        cases d1 : dg 420 p with
        | false => exact iteT (iteT (raised S2 (by rw [en, d1]; exact if_neg (fun z => Bool.noConfusion z.1)) _ _ _ _ _ _ _))
        | true =>
          refine iteF ⟨_, rfl, _, rfl, dig_ok (m := 420) cl2 fun H3 s3 => ⟨_, rfl, ?_⟩⟩
          have S3 := same_tr S2 s3
          cases d2 : dg 420 q with
          | false => exact iteT (iteT (raised S3 (by rw [en, d2]; exact if_neg (fun z => Bool.noConfusion z.2.1)) _ _ _ _ _ _ _))
          | true =>
            obtain ⟨ip, lp⟩ := int_dg d1
            obtain ⟨iq, lq⟩ := int_dg d2
            refine iteF ⟨_, rfl, S q, _, rfl, iq, lq, rfl, _, rfl, ?_⟩
            refine ite2 (fun h0 => ?_) (fun h0 => ?_)
            · have z : ((dv q : Nat) : Int) = 0 := by
                have := of_decide_eq_true h0
                injection this
              exact raised S3 (by rw [en]; exact if_neg (fun y => y.2.2 (by omega))) _ _ _ _ _ _ _
            · have q0 : dv q ≠ 0 := fun z => h0 (by rw [z]; exact decide_eq_true rfl)
              rw [if_pos ⟨d1, d2, q0⟩] at en
              refine ⟨fun σ' H' => σ' = [some (.str (S l)), some (.int 420), some (.str (S (bodyL l))), some (.str (S p)), some sl, some (.str (S q)), some (.int (if bodyL l = l then 1 else -1)), none] ∧ Same H H', ?_, ?_⟩
              · refine ⟨_, rfl, _, rfl, rfl, _, rfl, ?_⟩
                refine ite2 (fun h1 => ?_) (fun h1 => ?_)
                · have z : bodyL l = l := by
                    have := of_decide_eq_true h1
                    injection this with this
                    exact S_inj this
                  rw [if_pos z]
                  exact ⟨rfl, S3⟩
                · have z : ¬ bodyL l = l := fun z => h1 (by rw [z]; exact decide_eq_true rfl)
                  rw [if_neg z]
                  exact ⟨_, rfl, rfl, S3⟩
              · rintro σ' H' ⟨rfl, S4⟩
                have b1 := dg_lt d1
                have b2 := dg_lt d2
                have qi : ((dv q : Nat) : Int) ≠ 0 := by omega
                have es : (if bodyL l = l then (1 : Int) else -1) * ((dv p : Nat) : Int) = sgn l (dv p) := rfl
                have ea := sgn_abs l (dv p)
                have NS := nrm_spec (a := sgn l (dv p)) qi
                have la := NS.la
                have lb := NS.lb
                rw [ea] at la
                have bb : ∀ {k : Nat}, k < 2 ^ 1400 → k < 2 ^ 8000 := fun h => Nat.lt_trans h (Nat.pow_lt_pow_right (by decide) (by decide))
                have bc : ∀ {k : Nat}, k < 2 ^ 1400 → k < 2 ^ 1500 := fun h => Nat.lt_trans h (Nat.pow_lt_pow_right (by decide) (by decide))
                refine ⟨_, rfl, _, rfl, S p, _, rfl, ip, lp, _, _, rfl, rfl, .inl (by split <;> decide), _, rfl, S q, _, rfl, iq, lq, ?_⟩
                refine ⟨.int (sgn l (dv p)), .int ((dv q : Nat) : Int), .int (sgn l (dv p)), .int ((dv q : Nat) : Int), rfl, .int _, .int _, fun a b e1 e2 _ => ?_, fun hbad => ?_⟩
                · cases e1
                  cases e2
                  refine ⟨bb (by rw [ea]; exact b1), bb (by omega), fun t nt => ?_⟩
                  generalize hG : upd H' t _ = H5
                  obtain ⟨s5, h5⟩ := same_of nt hG
                  clear hG
                  have S5 := same_tr S4 s5
                  refine ⟨_, rfl, _, _, rfl, dp_mk (.of h5), fun z => ?_, fun a b e1 hn => ?_⟩
                  · rw [isN_of NS.num] at z
                    cases z
                  · cases e1
                    refine ⟨bc (by omega), bc (by omega), ?_⟩
                    refine ⟨_, rfl, rfl, _, rfl, ?_⟩
                    rw [txt_tl]
                    by_cases ht : txtL (nrm (sgn l (dv p)) (dv q)).1 (nrm (sgn l (dv p)) (dv q)).2 = l
                    · rw [if_pos ht] at en
                      refine iteNS (by rw [ht]) ?_
                      exact ⟨_, rfl, yes _ _ en t H5 S5 (fresh_same S4 nt) h5⟩
                    · rw [if_neg ht] at en
                      refine ite2 (fun _ => raised S5 en _ _ _ _ _ _ _) (fun h => ?_)
                      refine absurd ?_ h
                      rw [decide_eq_false (fun z => ht (by injection z with z; exact S_inj z))]
                      rfl
                · rcases hbad with z | z | z
                  · cases z
                  · cases z
                  · injection z with z
                    exact absurd z qi
end
end K5
set_option Elab.async false
set_option linter.all false
set_option maxRecDepth 100000
set_option maxHeartbeats 4000000
set_option exponentiation.threshold 100000
namespace K5
open PySem PySem.Spec PyProof.Rows L2 RmX Rm Mth SX
def inD : PyData → Option (Int × Int)
  | .str t => numIn (TL.tl t)
  | _ => none
/-- InvalidText(x) leaves -/
def BadT (C : Addr) (x : V) (H : Hp) (E : XK) : Prop := ∀ dx, H dx = none → E (.ref C) (some dx) (upd H dx (.xd [(Str.ofString "line", x)]))
theorem fn_line : FName (Str.ofString "line") := ⟨rfl, by decide, by decide +kernel, by decide +kernel, rfl, rfl, rfl, fun _ _ _ _ _ _ _ _ _ _ _ _ => rfl, fun _ _ _ _ _ _ _ _ _ _ _ _ => rfl⟩
structure TxtT (P : Program) (K : PySem.W.Frag) (mg : Str → Option Value) (C CT fIT : Addr) : Prop where
  ex : ExT P K mg CT fIT (Str.ofString "line") "ValueError" "ValueError.__new__" "ValueError.__init__" [.type "ValueError", .type "Exception", .type "BaseException", .type "object"]
  gC : mg "InvalidText" = some (.ref CT)
  one : PySem.W.exmOne K (.ref C) (.ref C) = some true
def spPar (K : PySem.W.Frag) (CT : Addr) : Sp := fun vs H Q E => ∃ x d, vs = [x] ∧ Dp K H x d ∧ Fit d ∧ (∀ t, d = .str t → t.length ≤ 10000) ∧
  (∀ a b, inD d = some (a, b) → ∀ p H', Same H H' → H p = none → H' p = some (.tup [.int a, .int b]) → Q (.ref p) H') ∧ (inD d = none → ∀ H', Same H H' → BadT CT (.int 0) H' E)
theorem ks_s : kitB "str" "str" = some true := by decide +kernel
theorem ks_n : kitB "NoneType" "str" = some false := by decide +kernel
theorem ks_b : kitB "bool" "str" = some false := by decide +kernel
theorem ks_i : kitB "int" "str" = some false := by decide +kernel
theorem ks_l : kitB "list" "str" = some false := by decide +kernel
theorem ks_t : kitB "tuple" "str" = some false := by decide +kernel
theorem fit0 : Fit (.int 0) := ⟨by decide, by decide, by decide, by decide +kernel⟩
section
variable {P : Program} {w : World} {K : PySem.W.Frag} {mg : Str → Option Value} {base : Heap} {C CT fI fIT fNum fIsI fIsN fChk aIn : Addr} {dIn : FuncData} {v420 : Value}
theorem scPa : FnScope ["text"] ["text"] (defScope sPar) := ⟨rfl, rfl, rfl, by decide +kernel, rfl, by decide +kernel, by decide +kernel⟩
theorem ok_par {f : Addr} {fd : FuncData} (F : Fun K "parse_number" "parse_number" sPar f fd) (T : TxtN P K mg C fI fNum fIsI fIsN fChk) (TP : TxtP mg) (TT : TxtT P K mg C CT fIT)
    (GI : FnN P w K mg base 5 aIn dIn ["text", "most_digits"] (spIn K C)) (gI : mg "number_in" = some (.ref aIn)) (kI : PySem.W.keepIn K (.ref aIn) = true) (bI : Binds K dIn ["text", "most_digits"] [v420]) (rI : Vals [V.int 420] [v420]) : FnG P w K mg base 6 f fd ["text"] (spPar K CT) := by
  refine okG F scPa (fun vs H Q E h => ?_) (fun cdv A outer s H vs Q E hr hgd h => ?_)
  · obtain ⟨x, d, rfl, _⟩ := h
    rfl
  · obtain ⟨x, d, rfl, hd, ft, hl, yes, no⟩ := h
    have tk : Takes (cxOf (L2.CX P w) P w K mg base ["text"] "parse_number" (defScope sPar) f cdv A outer s H E) (fun cls d _ H => E cls d H) := takes_of rfl rfl rfl rfl
    refine ⟨_, pss_cons (ps_if (pt_not (pt_val (pe_callB call_isi (by rfl) TP.isi (by decide +kernel) (pa_cons (pv 0) (pa_cons (pe_bltn (v := .ty "str") (by rfl) TP.gstr (by decide +kernel) rfl) pa_nil))))) (pss_one (ps_raiseX rfl base_VE TT.ex fn_line hr hgd TT.gC T.sup tk (pa_cons pe_int pa_nil))) pss_nil)
      (pss_one (L2H.ps_try_onlyX (ts := fun a cls d => tRaiseX K CT (Str.ofString "line") (fun cls d _ H => E cls d H) (tCons (tC (.int 0)) tNil)) rfl rfl ⟨rfl, by decide, .inl T.gC⟩ (L2H.passesAt_of rfl) tk
        (fun W pn xe tkN tkP po => pss_one (ps_ret (pe_callN (E := WE W) GI hr hgd rfl gI kI bI rI (fun σ => L2N.passAt tkN σ) (pa_cons (pv 0) pa_nil))))
        (fun a oe cls d pn hz hf tkS hot => pss_one (ps_raiseXH hot base_VE TT.ex fn_line (L2H.roomH_mark hr (some (.ref a))) hgd TT.gC T.sup tkS (pa_cons pe_int pa_nil))))), ?_⟩
    have ty := dpTy hd
    have bad : inD d = none → ∀ (D : Ends), tRaiseX K CT (Str.ofString "line") (fun cls d _ H => E cls d H) (tCons (tC (.int 0)) tNil) D [some x] H := fun e D => ⟨_, _, rfl, .int 0, fit0, fun dx hdx => no e H (same_rf _) dx hdx⟩
    cases hd with
    | non => exact ⟨_, rfl, _, _, _, _, false, rfl, .ty "str", ty, kb "NoneType" "str" ks_n, _, rfl, iteT (bad rfl _)⟩
    | bl b => exact ⟨_, rfl, _, _, _, _, false, rfl, .ty "str", ty, kb "bool" "str" ks_b, _, rfl, iteT (bad rfl _)⟩
    | int i => exact ⟨_, rfl, _, _, _, _, false, rfl, .ty "str", ty, kb "int" "str" ks_i, _, rfl, iteT (bad rfl _)⟩
    | lst h1 h2 => exact ⟨_, rfl, _, _, _, _, false, rfl, .ty "str", ty, kb "list" "str" ks_l, _, rfl, iteT (bad rfl _)⟩
    | tup h1 h2 => exact ⟨_, rfl, _, _, _, _, false, rfl, .ty "str", ty, kb "tuple" "str" ks_t, _, rfl, iteT (bad rfl _)⟩
    | str t =>
      refine ⟨_, rfl, _, _, _, _, true, rfl, .ty "str", ty, kb "str" "str" ks_s, _, rfl, iteF ?_⟩
      have e : t = S (TL.tl t) := (S_tl t).symm
      have lt := hl t rfl
      refine ⟨_, rfl, TL.tl t, by rw [← e]; rfl, by rw [← TL.len_tl]; exact lt, by rw [← e]; exact ft, fun a b h p H' s' np h' => yes a b h p H' s' np h', fun h H' s' dx hdx => ?_⟩
      refine ⟨true, TT.one, fun _ a na => ?_, fun z => Bool.noConfusion z⟩
      refine ⟨_, _, rfl, .int 0, fit0, fun dy hdy => no h _ ?_ dy hdy⟩
      exact fun b o hb => by rw [upd_ne (ne_of_none (s' _ _ hb) hdx)]; exact s' _ _ hb
end
end K5
set_option Elab.async false
set_option linter.all false
set_option maxRecDepth 100000
set_option maxHeartbeats 4000000
set_option exponentiation.threshold 100000
namespace K5
open PySem PySem.Spec PyProof.Rows L2 RmX Rm Mth SX
abbrev sLea : Stmt := top 23
abbrev sCho : Stmt := top 24
abbrev sWri : Stmt := top 25
abbrev sLDg : Stmt := top 26
structure TxtI (K : PySem.W.Frag) (mg : Str → Option Value) (fNx : Addr) : Prop where
  gNx : mg "_law_next" = some (.ref fNx)
  kNx : PySem.W.keepIn K (.ref fNx) = true
structure TxtA (mg : Str → Option Value) : Prop where
  abs : mg "abs" = none
  len : mg "len" = none
  str : mg "str" = none
  int : mg "int" = none
  list : mg "list" = none
  rep : mg "repr" = none
  range : mg "range" = none
  min : mg "min" = none
  isi : mg "isinstance" = none
theorem kp_of {H H' : Hp} {p : Addr} (s : Same H H') : Kp p H H' := fun b o e _ => s b o e
theorem sqL_kp {K : PySem.W.Frag} {H H' : Hp} {p c : Addr} {n : Nat} (D : DrawAt H p c n) (kp : Kp p H H') {a : Addr} {xs : List V} (h : SqL K H a xs) : SqL K H' a xs := by
  obtain ⟨_, _, _, _, hp, _⟩ := D
  rcases h with (h | ⟨o, h⟩) | h
  · exact .inl (.inl (kp _ _ h (ne_of h hp (by intro z; cases z))))
  · exact .inl (.inr ⟨o, kp _ _ h (ne_of h hp (by intro z; cases z))⟩)
  · exact .inr h
/-! ### promises -/
def spLea : Sp := fun vs H Q _ => ∃ a b : Int, vs = [.int a, .int b] ∧ 1 ≤ b ∧ a.natAbs < 2 ^ 1500 ∧ b.natAbs < 2 ^ 1500 ∧ ∀ p H', Same H H' → H' p = some (.tup [.int (nrm a b).1, .int (nrm a b).2]) → Q (.ref p) H'
theorem lea_ok {H : Hp} {a b : Int} {Q : VK} {E : XK} (h1 : 1 ≤ b) (h2 : a.natAbs < 2 ^ 1500) (h3 : b.natAbs < 2 ^ 1500) (h : ∀ p H', Same H H' → H' p = some (.tup [.int (nrm a b).1, .int (nrm a b).2]) → Q (.ref p) H') : Bx (spLea [.int a, .int b] H Q E) := ⟨⟨a, b, rfl, h1, h2, h3, h⟩⟩
def spCho (K : PySem.W.Frag) : Sp := fun vs H Q _ => ∃ (p c l : Addr) (n : Nat) (xs : List V), vs = [.ref p, .ref l] ∧ DrawAt H p c n ∧ n < 2 ^ 29 ∧ SqL K H l xs ∧ 0 < xs.length ∧ xs.length ≤ 1000 ∧
  ∀ (x : V) (H' : Hp), x ∈ xs → DrawAt H' p c (n + 1) → Kp p H H' → Q x H'
theorem cho_ok {K : PySem.W.Frag} {H : Hp} {p c l : Addr} {n : Nat} {xs : List V} {Q : VK} {E : XK} (D : DrawAt H p c n) (hn : n < 2 ^ 29) (hS : SqL K H l xs) (h0 : 0 < xs.length) (h1 : xs.length ≤ 1000) (h : ∀ (x : V) (H' : Hp), x ∈ xs → DrawAt H' p c (n + 1) → Kp p H H' → Q x H') : Bx (spCho K [.ref p, .ref l] H Q E) :=
  ⟨⟨p, c, l, n, xs, rfl, D, hn, hS, h0, h1, h⟩⟩
def spWri (K : PySem.W.Frag) : Sp := fun vs H Q _ => ∃ (q : Addr) (a b : Int), vs = [.ref q] ∧ SqT K H q [.int a, .int b] ∧ a.natAbs < 2 ^ 1500 ∧ b.natAbs < 2 ^ 1500 ∧ Q (.str (S (txtL a b))) H
def As (l : List Nat) : Prop := ∀ c ∈ l, c < 128
theorem As.ok {l : List Nat} (h : As l) : PyData.strOk (S l) = true := by
  unfold PyData.strOk
  simp only [List.all_toArray, List.all_eq_true, decide_eq_true_eq]
  intro c hc
  have := h c hc
  omega
theorem As.fit {l : List Nat} (h : As l) (hl : l.length ≤ 10000) : Fit (.str (S l)) := by
  have e := PySem.StrLaws.reprText_len (S l) (fun c hc => by have := h c hc; omega)
  have e2 := S_len l
  exact ⟨rfl, rfl, by simp [PyData.depth], by show (reprText (S l)).length ≤ 1000000; omega⟩
def spLDg (K : PySem.W.Frag) : Sp := fun vs H Q _ => ∃ l : List Nat, vs = [.str (S l)] ∧ As l ∧ l.length ≤ 10000 ∧ ∀ H', Same H H' → Q (.bl (lawD l)) H'
theorem ldg_ok {K : PySem.W.Frag} {H : Hp} {l : List Nat} {Q : VK} {E : XK} (h1 : As l) (h2 : l.length ≤ 10000) (h : ∀ H', Same H H' → Q (.bl (lawD l)) H') : Bx (spLDg K [.str (S l)] H Q E) := ⟨⟨l, rfl, h1, h2, h⟩⟩
/-- the texts of the signs -/
def one1 (l : List Nat) : List V := l.map fun c => V.str (S [c])
theorem dp_signs {K : PySem.W.Frag} {H : Hp} {a : Addr} {l : List Nat} (h : SqL K H a (one1 l)) : Dp K H (.ref a) (.list (l.map fun c => PyData.str (S [c]))) := by
  refine .lst h ?_
  clear h
  induction l with
  | nil => exact .nil
  | cons c r ih => exact .cons (.str _) ih
theorem shp_signs {l : List Nat} (h : As l) : SeqAt.shaped (.list (l.map fun c => PyData.str (S [c]))) = true := by
  unfold SeqAt.shaped
  rw [Bool.and_eq_true, decide_eq_true_eq]
  refine ⟨?_, ?_⟩
  · show PyData.canLayAll0 _ = true
    induction l with
    | nil => rfl
    | cons c r ih =>
      show (PyData.strOk (S [c]) && PyData.canLayAll0 _) = true
      rw [As.ok (l := [c]) (fun x hx => h x (by rw [List.mem_singleton.mp hx]; exact List.mem_cons_self ..)), Bool.true_and]
      exact ih fun x hx => h x (List.mem_cons_of_mem _ hx)
  · have : ∀ r : List Nat, PyData.depthAll (r.map fun c => PyData.str (S [c])) ≤ 1 := by
      intro r
      induction r with
      | nil => exact Nat.zero_le _
      | cons c r ih =>
        simp only [List.map_cons, PyData.depthAll, PyData.depth]
        omega
    have := this l
    simp only [PyData.depth]
    omega
theorem eqv_nil (l : List PyData) : PyData.eqv (.list l) (.list []) = l.isEmpty := by
  cases l <;> rfl
theorem shp_nil : SeqAt.shaped (.list []) = true := by decide +kernel
section
variable {P : Program} {w : World} {K : PySem.W.Frag} {mg : Str → Option Value} {base : Heap} {fNx : Addr} {fdNx : FuncData}
theorem scLe : FnScope ["above", "below", "one", "two"] ["above", "below"] (defScope sLea) := ⟨rfl, rfl, rfl, by decide +kernel, rfl, by decide +kernel, by decide +kernel⟩
theorem ok_lea {f : Addr} {fd : FuncData} (F : Fun K "_law_least" "_law_least" sLea f fd) (T : TxtA mg) : FnG P w K mg base 1 f fd ["above", "below"] spLea := by
  refine okG F scLe (fun vs H Q E h => ?_) (fun cdv A outer s H vs Q E hr hgd h => ?_)
  · obtain ⟨a, b, rfl, _⟩ := h
    rfl
  · obtain ⟨a, b, rfl, hb, za, zb, fin⟩ := h
    refine ⟨_, pss_cons (ps_par (by rfl) scLe.nd (i := 2) (j := 3) rfl rfl (by decide) rfl rfl (pa_cons (pe_callB call_abs (by rfl) T.abs (by decide +kernel) (pa_cons (pv 0) pa_nil)) (pa_cons (pv 1) pa_nil)) (by rfl))
      (pss_cons (ps_while PassesOwn.leaving (pt_cmpR op_gt (pv 3) pe_int (nomark _))
        (pss_one (ps_par (by rfl) scLe.nd (i := 2) (j := 3) rfl rfl (by decide) rfl rfl (pa_cons (pv 3) (pa_cons (pe_op op_mod (pv 2) (pv 3)) pa_nil)) (by rfl))))
      (pss_one (ps_ret (pe_tup (pa_cons (pe_op op_fdivZ (pv 0) (pv 2)) (pa_cons (pe_op op_fdivZ (pv 1) (pv 2)) pa_nil)))))), ?_⟩
    refine ⟨_, rfl, _, rfl, _, rfl, _, _, rfl, ?_⟩
    have ea : (if a < 0 then -a else a) = (a.natAbs : Int) := by split <;> omega
    rw [ea]
    refine ⟨fun m σ H' => ∃ x y : Nat, σ = [some (.int a), some (.int b), some (.int (x : Int)), some (.int (y : Int))] ∧ Nat.gcd x y = Nat.gcd a.natAbs b.natAbs ∧ m = y ∧ Same H H', ⟨b.natAbs, a.natAbs, b.natAbs, by rw [show ((b.natAbs : Nat) : Int) = b by omega]; rfl, rfl, rfl, same_rf _⟩, ?_⟩
    rintro m σ H' ⟨x, y, rfl, hg, rfl, sm⟩
    refine ⟨_, rfl, _, _, rfl, rfl, _, rfl, ?_⟩
    refine ite2 (fun hy => ?_) (fun hy => ?_)
    · have y0 : (0 : Int) < (m : Int) := of_decide_eq_true hy
      refine ⟨fun σ' H2 => ∃ x' y' : Nat, σ' = [some (.int a), some (.int b), some (.int (x' : Int)), some (.int (y' : Int))] ∧ Nat.gcd x' y' = Nat.gcd a.natAbs b.natAbs ∧ y' < m ∧ Same H H2, ?_, ?_⟩
      · rintro σ' H2 ⟨x', y', rfl, g', l', s'⟩
        exact ⟨_, l', x', y', rfl, g', rfl, s'⟩
      · refine ⟨_, rfl, _, rfl, _, rfl, _, _, rfl, rfl, y0, _, _, rfl, m, x % m, rfl, ?_, Nat.mod_lt _ (by omega), sm⟩
        rw [← hg, Nat.gcd_comm x m, Nat.gcd_rec m x, Nat.gcd_comm]
    · have y0 : m = 0 := by
        have : ¬ (0 : Int) < (m : Int) := fun z => hy (decide_eq_true z)
        omega
      subst y0
      rw [Nat.gcd_zero_right] at hg
      have es : shr a b = (x : Int) := by
        unfold shr
        rw [if_neg (by omega), hg]
      have h1 := shr_ne (a := a) (b := b) (by omega)
      have h2 := shr_log (a := a) (b := b) (by omega) (Nat.lt_trans zb (Nat.pow_lt_pow_right (by decide) (by decide)))
      rw [es] at h1 h2
      refine ⟨_, rfl, _, rfl, _, _, rfl, rfl, ⟨h1, h2⟩, _, rfl, _, rfl, _, _, rfl, rfl, ⟨h1, h2⟩, by rw [sizeLine_eq]; show 2 ≤ 16777216; decide, fun p np => ?_⟩
      generalize hG : upd H' p _ = H2
      obtain ⟨s2, g2⟩ := same_of np hG
      clear hG
      refine fin p H2 (same_tr sm s2) ?_
      rw [g2]
      unfold nrm
      rw [es]
theorem scCh2 : FnScope ["draw", "some"] ["draw", "some"] (defScope sCho) := ⟨rfl, rfl, rfl, by decide +kernel, rfl, by decide +kernel, by decide +kernel⟩
theorem ok_cho {f : Addr} {fd : FuncData} (F : Fun K "_law_choose" "_law_choose" sCho f fd) (T : TxtA mg) (TI : TxtI K mg fNx) (GN : FnG P w K mg base 2 fNx fdNx ["draw", "bound"] spNext) (bN : Binds K fdNx ["draw", "bound"] []) : FnG P w K mg base 3 f fd ["draw", "some"] (spCho K) := by
  refine okG F scCh2 (fun vs H Q E h => ?_) (fun cdv A outer s H vs Q E hr hgd h => ?_)
  · obtain ⟨p, c, l, n, xs, rfl, _⟩ := h
    rfl
  · obtain ⟨p, c, l, n, xs, rfl, D, hn, hS, h0, h1, fin⟩ := h
    refine ⟨_, pss_one (ps_ret (pe_ix ix_list (pv 1) (pe_callG (E := fun _ => E0) GN hr hgd rfl TI.gNx TI.kNx bN .nil pass0G (pa_cons (pv 0) (pa_cons (pe_callB call_len_seq (by rfl) T.len PySem.boot_len (pa_cons (pv 1) pa_nil)) pa_nil))) (fun _ _ => rfl))), ?_⟩
    refine ⟨_, rfl, _, rfl, _, rfl, l, xs, rfl, .inl hS, p, c, n, _, rfl, D, by omega, by omega, by omega, fun r H2 r0 r1 D2 K2 _ => ?_⟩
    obtain ⟨j, hj⟩ : ∃ j : Nat, r = (j : Int) := ⟨r.toNat, by omega⟩
    subst hj
    have jl : j < xs.length := by omega
    refine ⟨l, xs, _, xs[j], rfl, rfl, sqL_kp D K2 hS, atI_nat (List.getElem?_eq_getElem jl), fin _ _ (List.getElem_mem jl) D2 K2⟩
theorem scWr : FnScope ["one"] ["one"] (defScope sWri) := ⟨rfl, rfl, rfl, by decide +kernel, rfl, by decide +kernel, by decide +kernel⟩
theorem ok_wri {f : Addr} {fd : FuncData} (F : Fun K "_law_written" "_law_written" sWri f fd) (TL : TxtA mg) : FnG P w K mg base 1 f fd ["one"] (spWri K) := by
  refine okG F scWr (fun vs H Q E h => ?_) (fun cdv A outer s H vs Q E hr hgd h => ?_)
  · obtain ⟨q, a, b, rfl, _⟩ := h
    rfl
  · obtain ⟨q, a, b, rfl, hp, za, zb, K7⟩ := h
    refine ⟨_, pss_one (ps_ret (pe_ifExp (pt_cmpR op_eq (pe_ix ix_tup (pv 0) pe_int (fun _ _ => rfl)) pe_int (nomark _)) (pe_callTy call_str_int (by rfl) TL.str (by decide +kernel) (pa_cons (pe_ix ix_tup (pv 0) pe_int (fun _ _ => rfl)) pa_nil)) (pe_op op_add_str (pe_op op_add_str (pe_callTy call_str_int (by rfl) TL.str (by decide +kernel) (pa_cons (pe_ix ix_tup (pv 0) pe_int (fun _ _ => rfl)) pa_nil)) pe_str) (pe_callTy call_str_int (by rfl) TL.str (by decide +kernel) (pa_cons (pe_ix ix_tup (pv 0) pe_int (fun _ _ => rfl)) pa_nil))))), ?_⟩
    rw [← txt_tl] at K7
    unfold txtOf at K7
    refine ⟨_, rfl, q, _, _, _, rfl, rfl, hp, rfl, rfl, _, rfl, ?_⟩
    refine ite2 (fun h1 => ?_) (fun h1 => ?_)
    · have z : b = 1 := by
        have := of_decide_eq_true h1
        injection this
      rw [if_pos z] at K7
      exact ⟨_, rfl, q, _, _, _, rfl, rfl, hp, rfl, a, rfl, lg za, K7⟩
    · have z : ¬ b = 1 := fun z => h1 (by rw [z]; exact decide_eq_true rfl)
      rw [if_neg z] at K7
      have l1 := tx_len za
      have l2 := tx_len zb
      have l3 : (Str.ofString "/").length = 1 := by decide +kernel
      have lz : (5000 : Nat) ≤ sizeLine := by rw [sizeLine_eq]; decide
      refine ⟨_, rfl, q, _, _, _, rfl, rfl, hp, rfl, a, rfl, lg za, _, _, rfl, rfl, ?_, ?_⟩
      · omega
      · refine ⟨_, rfl, q, _, _, _, rfl, rfl, hp, rfl, b, rfl, lg zb, _, _, rfl, rfl, ?_, K7⟩
        rw [strLen_append]; omega
end
end K5
set_option Elab.async false
set_option linter.all false
set_option maxRecDepth 100000
set_option maxHeartbeats 4000000
set_option exponentiation.threshold 100000
namespace K5
open PySem PySem.Spec PyProof.Rows L2 RmX Rm Mth SX
theorem sDgs : (Str.ofString "0123456789") = S [48, 49, 50, 51, 52, 53, 54, 55, 56, 57] := by decide +kernel
theorem s48 : (Str.ofString "0") = S [48] := by decide +kernel
theorem mem_dgs (c : Nat) : decide (c ∈ (S [48, 49, 50, 51, 52, 53, 54, 55, 56, 57]).cps.toList) = okD c := by
  unfold okD
  by_cases h : 48 ≤ c ∧ c ≤ 57
  · rw [decide_eq_true h.1, decide_eq_true h.2]
    refine decide_eq_true ?_
    show c ∈ [48, 49, 50, 51, 52, 53, 54, 55, 56, 57]
    have : c = 48 ∨ c = 49 ∨ c = 50 ∨ c = 51 ∨ c = 52 ∨ c = 53 ∨ c = 54 ∨ c = 55 ∨ c = 56 ∨ c = 57 := by omega
    simp [this]
  · have : decide (48 ≤ c) = false ∨ decide (c ≤ 57) = false := by
      by_cases z : 48 ≤ c
      · exact .inr (decide_eq_false fun y => h ⟨z, y⟩)
      · exact .inl (decide_eq_false z)
    have e : (decide (48 ≤ c) && decide (c ≤ 57)) = false := by
      rcases this with z | z <;> rw [z]
      · rfl
      · rw [Bool.and_false]
    rw [e]
    refine decide_eq_false fun z => h ?_
    have z : c ∈ [48, 49, 50, 51, 52, 53, 54, 55, 56, 57] := z
    simp at z
    omega
theorem filter_D (l : List Nat) : (l.filter fun c => !okD c).isEmpty = D l := by
  rw [D_map]
  induction l with
  | nil => rfl
  | cons c r ih =>
    rw [List.filter_cons]
    cases h : okD c with
    | true => simpa [h] using ih
    | false => simp [h]
theorem dec_str (a b : List Nat) : decide (V.str (S a) = V.str (S b)) = decide (a = b) := by
  by_cases h : a = b
  · rw [decide_eq_true h, h]
    exact decide_eq_true rfl
  · rw [decide_eq_false h]
    exact decide_eq_false fun z => h (by injection z with z; exact S_inj z)
section
variable {P : Program} {w : World} {K : PySem.W.Frag} {mg : Str → Option Value} {base : Heap}
abbrev nLD : List Str := ["part", "sign"]
theorem scLD : FnScope nLD ["part"] (defScope sLDg) := ⟨rfl, rfl, rfl, by decide +kernel, rfl, by decide +kernel, by decide +kernel⟩
theorem ok_ldg {f : Addr} {fd : FuncData} (F : Fun K "_law_is_digits" "_law_is_digits" sLDg f fd) (T : TxtA mg) : FnG P w K mg base 1 f fd ["part"] (spLDg K) := by
  refine okG F scLD (fun vs H Q E h => ?_) (fun cdv A outer s H vs Q E hr hgd h => ?_)
  · obtain ⟨l, rfl, _⟩ := h
    rfl
  · obtain ⟨l, rfl, as, hl, k⟩ := h
    refine ⟨_, pss_cons (ps_if (PW.pt (pw_or (pt_not (pt_chain op_le op_le pe_int (pe_callB call_len_str (by rfl) T.len PySem.boot_len (pa_cons (pv 0) pa_nil)) pe_int)) (pw_or1 (pt_cmpR (op_neD hr.units) (pe_lc (own := [("sign", 1)]) (g := gName 1) rfl scLD.nd (pi_str (pv 0)) (blkOk_by (N := nLD) (sc := defScope sLDg) (by decide +kernel)) (fun _ _ _ _ _ => pg_name (i := 1) scLD.nd rfl (Or.inl rfl)) (fun _ _ _ _ _ => pts_one (pt_cmpR op_notIn_sign (pv 1) pe_str rfl)) (fun _ _ _ _ _ => pv 1)) (pe_lst pa_nil) (nomark _))))) (pss_one (ps_ret pe_bl)) pss_nil)
      (pss_one (ps_ret (pe_or (pe_cmpR op_eq (pv 0) pe_str (nomark _)) (pe_one (pe_cmpR op_ne (pe_ix ix_str (pv 0) pe_int (fun _ _ => rfl)) pe_str (nomark _)))))), ?_⟩
    have zl : (S l).length = l.length := S_len l
    have z0 : (S l).length ≤ sizeLine := by rw [zl, sizeLine_eq]; omega
    have kk := k H (same_rf _)
    have no : (∀ z, ¬ (1 ≤ l.length ∧ l.length ≤ 420) → lawD l = z → z = false) := fun z h e => by
      rw [← e]
      unfold lawD
      cases d : dg 420 l with
      | false => rfl
      | true => exact absurd ⟨(dg_iff.mp d).1, (dg_iff.mp d).2.1⟩ h
    refine ⟨_, rfl, S l, rfl, z0, _, _, rfl, rfl, _, rfl, ?_⟩
    rw [zl]
    refine ite2 (fun h1 => ?_) (fun h1 => ?_)
    · have h1' : 1 ≤ l.length := by
        have : (1 : Int) ≤ (l.length : Int) := of_decide_eq_true h1
        omega
      refine ⟨_, _, rfl, rfl, _, rfl, ?_⟩
      by_cases h2 : l.length ≤ 420
      · refine iteNS (show (l.length : Int) ≤ 420 by omega) ?_
        refine ⟨_, rfl, S l, rfl, fun Dd nD => lc_it (walk_str (z := S l)) (fun i H' => H' Dd = some (.lst (one1 ((l.take i).filter fun c => !okD c))) ∧ Same H H') ⟨upd_same, same_new nD⟩ (fun _ _ _ _ => trivial) (fun i x H0 H' hi hP hy => ?_) (fun H' hP => ?_)⟩
        · obtain ⟨rfl, c, hc, rfl⟩ := hy
          obtain ⟨hD, s'⟩ := hP
          have hc' : l[i]? = some c := by
            have : (S l).cps[i]? = l[i]? := by simp [S]
            rw [← this]; exact hc
          have tk1 : l.take (i + 1) = l.take i ++ [c] := by
            rw [List.take_succ, hc']
            rfl
          refine ⟨rfl, _, rfl, c, S [48, 49, 50, 51, 52, 53, 54, 55, 56, 57], rfl, by rw [← sDgs], ?_⟩
          rw [mem_dgs]
          refine ⟨_, rfl, ?_⟩
          cases ho : okD c with
          | true =>
            refine iteF ⟨?_, s'⟩
            rw [hD, tk1, List.filter_append]
            simp [ho]
          | false =>
            refine iteT ⟨_, rfl, _, hD, ?_, ?_, fun b' o hb => ?_⟩
            · unfold one1
              rw [List.length_map, sizeLine_eq]
              have := List.length_filter_le (fun c => !okD c) (l.take i)
              rw [List.length_take] at this
              omega
            · rw [upd_same, tk1, List.filter_append]
              unfold one1
              rw [List.map_append]
              simp [ho]
            · rw [upd_ne (ne_of_none hb nD)]
              exact s' _ _ hb
        · obtain ⟨hD, s'⟩ := hP
          have sz : (S l).cps.size = l.length := by simp [S]
          rw [sz, List.take_length] at hD
          refine ⟨by rw [sizeLine_eq]; show 0 ≤ 16777216; decide, fun e ne => ?_⟩
          generalize hG : upd H' e _ = H2
          obtain ⟨s2, g2⟩ := same_of ne hG
          clear hG
          have asf : As (l.filter fun c => !okD c) := fun c hc => as c (List.mem_filter.mp hc).1
          refine ⟨_, _, dp_signs (.of (s2 _ _ hD)), .lst (.of g2) .nil, shp_signs asf, shp_nil, ?_⟩
          rw [eqv_nil]
          have em : ((l.filter fun c => !okD c).map fun c => PyData.str (S [c])).isEmpty = D l := by
            rw [← filter_D]
            cases l.filter fun c => !okD c <;> rfl
          rw [em]
          have k2 := k H2 (same_tr s' s2)
          refine ⟨_, rfl, ?_⟩
          have el : lawD l = (D l && canon l) := by
            unfold lawD dg
            rw [decide_eq_true h1', decide_eq_true h2, Bool.true_and, Bool.true_and]
          rw [el] at k2
          cases hd : D l with
          | false =>
            rw [hd] at k2
            exact iteT k2
          | true =>
            rw [hd, Bool.true_and] at k2
            refine iteF ?_
            refine ⟨_, rfl, rfl, _, rfl, ?_⟩
            rw [s48, dec_str]
            unfold canon at k2
            by_cases h0 : l = [48]
            · rw [decide_eq_true h0] at k2 ⊢
              exact iteT k2
            · rw [decide_eq_false h0, Bool.false_or] at k2
              rw [decide_eq_false h0]
              refine iteF ?_
              cases hll : l with
              | nil => rw [hll] at h1'; exact absurd h1' (by decide)
              | cons c r =>
                rw [hll] at k2 z0
                refine ⟨_, rfl, S (c :: r), 0, c, rfl, rfl, z0, (atI_nat (xs := c :: r) (j := 0) (v := c) rfl), rfl, ?_⟩
                have e2 : decide (V.str (S [c]) = V.str (S [48])) = decide ((c :: r).head? = some 48) := by
                  rw [dec_str]
                  by_cases hh : c = 48
                  · rw [hh]; simp
                  · rw [decide_eq_false (by simpa using hh), decide_eq_false (by simpa using hh)]
                show Q (.bl (!decide (V.str (S [c]) = V.str (S [48])))) H2
                rw [e2]
                have e3 : decide (¬ (c :: r).head? = some 48) = !decide ((c :: r).head? = some 48) := decide_not
                rw [e3] at k2
                exact k2
      · have e := no _ (fun z => h2 z.2) rfl
        rw [e] at kk
        refine ite2 (fun _ => kk) (fun hh => ?_)
        exact absurd (by rw [decide_eq_false (show ¬ (l.length : Int) ≤ 420 by omega)]; rfl) hh
    · refine ⟨_, rfl, iteT ?_⟩
      have h1' : ¬ 1 ≤ l.length := fun z => h1 (decide_eq_true (by show (1 : Int) ≤ (l.length : Int); omega))
      have e := no _ (fun z => h1' z.1) rfl
      rw [e] at kk
      exact kk
end
end K5
set_option Elab.async false
set_option linter.all false
set_option maxRecDepth 100000
set_option maxHeartbeats 4000000
set_option exponentiation.threshold 100000
namespace K5
open PySem PySem.Spec PyProof.Rows L2 RmX Rm Mth SX
abbrev sNof : Stmt := top 27
def nofD (l : List Nat) : PyData := match lawOf l with
  | none => .list []
  | some (a, b) => .list [.tuple [.int a, .int b]]
def spNof (K : PySem.W.Frag) : Sp := fun vs H Q _ => ∃ l : List Nat, vs = [.str (S l)] ∧ As l ∧ l.length ≤ 10000 ∧ ∀ r H', Same H H' → Dp K H' (.ref r) (nofD l) → Q (.ref r) H'
theorem nof_ok {K : PySem.W.Frag} {H : Hp} {l : List Nat} {Q : VK} {E : XK} (h1 : As l) (h2 : l.length ≤ 10000) (h : ∀ r H', Same H H' → Dp K H' (.ref r) (nofD l) → Q (.ref r) H') : Bx (spNof K [.str (S l)] H Q E) := ⟨⟨l, rfl, h1, h2, h⟩⟩
theorem spl_mem : ∀ (n : Nat) (b : List Nat), b.length = n → ∀ p ∈ TL.spl [47] 0 [] b, (∀ c ∈ p, c ∈ b) ∧ p.length ≤ b.length := by
  intro n
  induction n using Nat.strongRecOn with
  | _ n ih =>
    intro b hb p hp
    by_cases h : 47 ∈ b
    · obtain ⟨x, y, rfl, nx⟩ := split47 h
      rw [spl_at nx] at hp
      rw [List.length_append, List.length_cons] at hb
      rcases List.mem_cons.mp hp with z | z
      · subst z
        exact ⟨fun c hc => List.mem_append_left _ hc, by rw [List.length_append]; omega⟩
      · obtain ⟨h1, h2⟩ := ih y.length (by omega) y rfl p z
        exact ⟨fun c hc => List.mem_append_right _ (List.mem_cons_of_mem _ (h1 c hc)), by rw [List.length_append, List.length_cons]; omega⟩
    · rw [spl_one h, List.mem_singleton] at hp
      subst hp
      exact ⟨fun c hc => hc, Nat.le_refl _⟩
theorem As.body {l : List Nat} (h : As l) : As (bodyL l) := by
  unfold bodyL
  split
  · exact fun c hc => h c (List.mem_of_mem_drop hc)
  · exact h
theorem parts_as {l : List Nat} (h : As l) (hl : l.length ≤ 10000) : ∀ p ∈ parts l, As p ∧ p.length ≤ 10000 := fun p hp => by
  obtain ⟨h1, h2⟩ := spl_mem _ _ rfl p hp
  exact ⟨fun c hc => h.body c (h1 c hc), by have := body_len l; omega⟩
theorem parts_ne (l : List Nat) : 1 ≤ (parts l).length := by
  unfold parts
  by_cases h : 47 ∈ bodyL l
  · obtain ⟨x, y, e, nx⟩ := split47 h
    rw [e, spl_at nx, List.length_cons]
    omega
  · rw [spl_one h]
    simp
theorem parts_len {l : List Nat} (hl : l.length ≤ 10000) : (parts l).length ≤ 10001 := by
  have main : ∀ (n : Nat) (b : List Nat), b.length = n → (TL.spl [47] 0 [] b).length ≤ b.length + 1 := by
    intro n
    induction n using Nat.strongRecOn with
    | _ n ih =>
      intro b hb
      by_cases h : 47 ∈ b
      · obtain ⟨x, y, rfl, nx⟩ := split47 h
        rw [spl_at nx]
        rw [List.length_append, List.length_cons] at hb ⊢
        have := ih y.length (by omega) y rfl
        rw [List.length_cons]
        omega
      · rw [spl_one h]
        simp
  have := main _ (bodyL l) rfl
  have := body_len l
  unfold parts
  omega
def txsV (ps : List (List Nat)) : List V := ps.map fun p => V.str (S p)
theorem strs_eq (ps : List (List Nat)) : (ps.map S).map V.str = txsV ps := by
  unfold txsV
  rw [List.map_map]
  rfl
theorem dp_strs {K : PySem.W.Frag} {H : Hp} {a : Addr} {ps : List (List Nat)} (h : SqL K H a (txsV ps)) : Dp K H (.ref a) (.list (ps.map fun p => PyData.str (S p))) := by
  refine .lst h ?_
  clear h
  induction ps with
  | nil => exact .nil
  | cons c r ih => exact .cons (.str _) ih
theorem shp_strs {ps : List (List Nat)} (h : ∀ p ∈ ps, As p) : SeqAt.shaped (.list (ps.map fun p => PyData.str (S p))) = true := by
  unfold SeqAt.shaped
  rw [Bool.and_eq_true, decide_eq_true_eq]
  refine ⟨?_, ?_⟩
  · show PyData.canLayAll0 _ = true
    induction ps with
    | nil => rfl
    | cons c r ih =>
      show (PyData.strOk (S c) && PyData.canLayAll0 _) = true
      rw [As.ok (h c (List.mem_cons_self ..)), Bool.true_and]
      exact ih fun x hx => h x (List.mem_cons_of_mem _ hx)
  · have : ∀ r : List (List Nat), PyData.depthAll (r.map fun p => PyData.str (S p)) ≤ 1 := by
      intro r
      induction r with
      | nil => exact Nat.zero_le _
      | cons c r ih =>
        simp only [List.map_cons, PyData.depthAll, PyData.depth]
        omega
    have := this ps
    simp only [PyData.depth]
    omega
theorem shp_two (a b : Int) : SeqAt.shaped (.tuple [.int a, .int b]) = true := rfl
theorem eqv_two (a b c d : Int) : PyData.eqv (.tuple [.int a, .int b]) (.tuple [.int c, .int d]) = (decide (a = c) && decide (b = d)) := by
  show ((a == c) && ((b == d) && true)) = _
  have e : ∀ x y : Int, (x == y) = decide (x = y) := fun x y => by by_cases h : x = y <;> simp [h]
  rw [Bool.and_true, e, e]
theorem sg_take (l : List Nat) : decide (V.str (S (l.take 1)) = V.str (S [45])) = sg l := by
  rw [dec_str]
  unfold sg
  cases l with
  | nil => rfl
  | cons c r =>
    show decide ([c] = [45]) = decide (some c = some 45)
    by_cases h : c = 45
    · rw [h]; rfl
    · rw [decide_eq_false (by simpa using h), decide_eq_false (by simpa using h)]
theorem low_pos {T L : Nat} (h : 1 ≤ L) : (nrm (T : Int) (L : Int)).1 = T ∧ (nrm (T : Int) (L : Int)).2 = L ↔ Nat.gcd T L = 1 := by
  have l0 : (L : Int) ≠ 0 := by omega
  constructor
  · rintro ⟨h1, h2⟩
    have := (nrm_spec (a := (T : Int)) l0).num.2
    rw [h1, h2] at this
    exact this
  · intro h
    have := nrm_is (a := (T : Int)) (b := (L : Int)) (n := T) (d := L) l0 ⟨by omega, h⟩ rfl
    rw [this]
    exact ⟨rfl, rfl⟩
section
variable {P : Program} {w : World} {K : PySem.W.Frag} {mg : Str → Option Value} {base : Heap} {aLD aLe : Addr} {dLD dLe : FuncData}
abbrev nNo : List Str := ["page", "parts", "part", "above", "below"]
theorem scNo : FnScope nNo ["page"] (defScope sNof) := ⟨rfl, rfl, rfl, by decide +kernel, rfl, by decide +kernel, by decide +kernel⟩
theorem ok_nof {f : Addr} {fd : FuncData} (F : Fun K "_law_number_of" "_law_number_of" sNof f fd) (T : TxtA mg) (cD : Cal P w K mg base "_law_is_digits" aLD dLD 1 ["part"] (bx (spLDg K))) (cE : Cal P w K mg base "_law_least" aLe dLe 1 ["above", "below"] (bx spLea)) : FnG P w K mg base 2 f fd ["page"] (spNof K) := by
  refine okG F scNo (fun vs H Q E h => ?_) (fun cdv A outer s H vs Q E hr hgd h => ?_)
  · obtain ⟨l, rfl, _⟩ := h
    rfl
  · obtain ⟨l, rfl, as, hl, k⟩ := h
    refine ⟨_, pss_cons (ps_set (i := 1) scNo.nd rfl (Or.inl rfl) (pe_split (pe_slice C8.sl_txt (pv 0) (po_some (pe_callTy call_int1 (by rfl) T.int (by decide +kernel) (pa_cons (pe_cmpR op_eq (pe_slice C8.sl_txt (pv 0) po_none (po_some pe_int)) pe_str (nomark _)) pa_nil))) po_none) pe_str))
      (pss_cons (ps_if (PW.pt (pw_or (pt_cmpR op_gt (pe_callB call_len_seq (by rfl) T.len PySem.boot_len (pa_cons (pv 1) pa_nil)) pe_int (nomark _)) (pw_or1 (pt_cmpR (op_neD hr.units) (pe_lc (own := [("part", 2)]) (g := gName 2) rfl scNo.nd (pi_list (pv 1)) (blkOk_by (N := nNo) (sc := defScope sNof) (by decide +kernel)) (fun _ _ _ _ _ => pg_name (i := 2) scNo.nd rfl (Or.inl rfl)) (fun _ _ _ _ _ => pts_one (pt_not (pt_val (pe_cal cD hr hgd (pa_cons (pv 2) pa_nil))))) (fun _ _ _ _ _ => pv 2)) (pe_lst pa_nil) (nomark _))))) (pss_one (ps_ret (pe_lst pa_nil))) pss_nil)
      (C8.pss_cut (ps_par (by rfl) scNo.nd (i := 3) (j := 4) rfl rfl (by decide) rfl rfl (pa_cons (pe_callTy call_int_str (by rfl) T.int (by decide +kernel) (pa_cons (pe_ix ix_list (pv 1) pe_int (fun _ _ => rfl)) pa_nil)) (pa_cons (pe_ifExp (pt_cmpR op_eq (pe_callB call_len_seq (by rfl) T.len PySem.boot_len (pa_cons (pv 1) pa_nil)) pe_int (nomark _)) (pe_callTy call_int_str (by rfl) T.int (by decide +kernel) (pa_cons (pe_ix ix_list (pv 1) (pe_un un_neg pe_int) (fun _ _ => rfl)) pa_nil)) pe_int) pa_nil)) (by rfl))
      (C8.pss_cut (ps_if (PW.pt (pw_or (PW.pt (pw_and (pt_cmpR op_eq (pe_callB call_len_seq (by rfl) T.len PySem.boot_len (pa_cons (pv 1) pa_nil)) pe_int (nomark _)) (pw_and1 (pt_cmpR op_lt (pv 4) pe_int (nomark _))))) (pw_or1 (PW.pt (pw_and (pt_cmpR op_eq (pe_slice C8.sl_txt (pv 0) po_none (po_some pe_int)) pe_str (nomark _)) (pw_and1 (pt_cmpR op_eq (pv 3) pe_int (nomark _)))))))) (pss_one (ps_ret (pe_lst pa_nil))) pss_nil)
      (pss_cons (ps_if (pt_cmpR (op_neD hr.units) (pe_cal cE hr hgd (pa_cons (pv 3) (pa_cons (pv 4) pa_nil))) (pe_tup (pa_cons (pv 3) (pa_cons (pv 4) pa_nil))) (nomark _)) (pss_one (ps_ret (pe_lst pa_nil))) pss_nil)
      (pss_one (ps_ret (pe_lst (pa_cons (pe_tup (pa_cons (pe_ifExp (pt_cmpR op_eq (pe_slice C8.sl_txt (pv 0) po_none (po_some pe_int)) pe_str (nomark _)) (pe_op op_sub pe_int (pv 3)) (pv 3)) (pa_cons (pv 4) pa_nil))) pa_nil)))))))), ?_⟩
    have hz : ∀ {m : List Nat}, m.length ≤ 10000 → (S m).length ≤ sizeLine := fun {m} h => by rw [S_len, sizeLine_eq]; omega
    have none_ : lawOf l = none → ∀ H', Same H H' → ([] : List V).length ≤ sizeLine ∧ ∀ r, H' r = none → Q (.ref r) (upd H' r (.lst [])) := fun e H' s' => by
      refine ⟨by rw [sizeLine_eq]; show 0 ≤ 16777216; decide, fun r nr => ?_⟩
      generalize hG : upd H' r _ = H2
      obtain ⟨s2, g2⟩ := same_of nr hG
      clear hG
      refine k r H2 (same_tr s' s2) ?_
      unfold nofD
      rw [e]
      exact .lst (.of g2) .nil
    refine ⟨_, rfl, _, rfl, _, rfl, S l, rfl, hz hl, ?_⟩
    rw [show Txt.slice (S l) none (some 1) = S (l.take 1) from slice_to (by decide)]
    refine ⟨rfl, .inr ⟨_, rfl, ?_⟩⟩
    have esg : (if decide (V.str (S (l.take 1)) = V.str (Str.ofString "-")) = true then (1 : Int) else 0) = ((if sg l = true then 1 else 0 : Nat) : Int) := by
      rw [s45, sg_take]
      cases sg l <;> rfl
    have edr : bodyL l = l.drop (if sg l = true then 1 else 0) := by
      unfold bodyL
      cases sg l <;> rfl
    refine ⟨_, rfl, S l, rfl, hz hl, ?_⟩
    rw [esg, show Txt.slice (S l) (some ((if sg l = true then 1 else 0 : Nat) : Int)) none = S (bodyL l) by rw [slice_from (by omega), Int.toNat_natCast, ← edr]]
    refine ⟨⟨_, rfl⟩, _, _, rfl, rfl, by decide +kernel, by rw [S_len, sizeLine_eq]; have := body_len l; omega, fun q nq => ?_⟩
    rw [s47, split_S (by decide) (by decide), strs_eq]
    have ep : TL.spl [47] 0 [] (bodyL l) = parts l := rfl
    rw [ep]
    generalize hG : upd H q _ = H1
    obtain ⟨s1, hq⟩ := same_of nq hG
    clear hG nq
    have pl := parts_len hl
    have pn := parts_ne l
    have pa := parts_as as hl
    generalize hps : parts l = ps at *
    have lx : (txsV ps).length = ps.length := List.length_map _
    have el : lawOf l = if 2 < ps.length ∨ ps.all lawD = false then none
      else if (ps.length = 2 ∧ lawLow l < 2) ∨ (sg l = true ∧ lawTop l = 0) then none
      else if Nat.gcd (lawTop l) (lawLow l) ≠ 1 then none
      else some (if sg l = true then -(lawTop l : Int) else (lawTop l : Int), (lawLow l : Int)) := by rw [← hps]; rfl
    have eT : lawTop l = dv (ps.headD []) := by rw [← hps]; rfl
    have eL : lawLow l = if ps.length = 2 then dv (ps.getLastD []) else 1 := by rw [← hps]; rfl
    refine ⟨_, rfl, q, _, rfl, .inl (.of hq), _, _, rfl, rfl, _, rfl, ?_⟩
    rw [lx]
    refine ite2 (fun h2 => ?_) (fun h2 => ?_)
    · have h2' : 2 < ps.length := by
        have : (2 : Int) < (ps.length : Int) := of_decide_eq_true h2
        omega
      have e : lawOf l = none := by rw [el]; exact if_pos (.inl h2')
      exact iteT (none_ e H1 s1)
    · have h2' : ¬ 2 < ps.length := fun z => h2 (decide_eq_true (by show (2 : Int) < (ps.length : Int); omega))
      refine ⟨_, rfl, q, rfl, ⟨_, .of hq⟩, fun Dd nD => lc_list (K := K) (a := q) (xs := txsV ps) (fun i H' => H' Dd = some (.lst (txsV ((ps.take i).filter fun p => !lawD p))) ∧ Same H1 H') ⟨upd_same, same_new nD⟩ (fun i H' hi hP => .of (hP.2 _ _ hq)) (fun i x H' hi hP => ?_) (fun H' hP => ?_)⟩
      · obtain ⟨hD, s'⟩ := hP
        have il : i < ps.length := by
          have := (List.getElem?_eq_some_iff.mp hi).1
          omega
        have hx : x = V.str (S ps[i]) := by
          have e : (txsV ps)[i]? = some (V.str (S ps[i])) := by
            unfold txsV
            rw [List.getElem?_map, List.getElem?_eq_getElem il]
            rfl
          rw [e] at hi
          exact (Option.some.inj hi).symm
        subst hx
        obtain ⟨a1, a2⟩ := pa ps[i] (List.getElem_mem il)
        have tk1 : ps.take (i + 1) = ps.take i ++ [ps[i]] := by
          rw [List.take_succ, List.getElem?_eq_getElem il]
          rfl
        refine ⟨rfl, _, rfl, ldg_ok a1 a2 fun H2 s2 => ⟨_, rfl, ?_⟩⟩
        cases hd : lawD ps[i] with
        | true =>
          refine iteF ⟨?_, same_tr s' s2⟩
          rw [s2 _ _ hD, tk1, List.filter_append]
          simp [hd]
        | false =>
          refine iteT ⟨_, rfl, _, s2 _ _ hD, ?_, ?_, fun b' o hb => ?_⟩
          · unfold txsV
            rw [List.length_map, sizeLine_eq]
            have := List.length_filter_le (fun p => !lawD p) (ps.take i)
            rw [List.length_take] at this
            omega
          · rw [upd_same, tk1, List.filter_append]
            unfold txsV
            rw [List.map_append]
            simp [hd]
          · rw [upd_ne (ne_of_none hb nD)]
            exact s2 _ _ (s' _ _ hb)
      · obtain ⟨hD, s'⟩ := hP
        rw [lx, List.take_length] at hD
        refine ⟨by rw [sizeLine_eq]; show 0 ≤ 16777216; decide, fun e ne => ?_⟩
        generalize hG : upd H' e _ = H2
        obtain ⟨s2, g2⟩ := same_of ne hG
        clear hG ne
        have asf : ∀ p ∈ (ps.filter fun p => !lawD p), As p := fun p hp => (pa p (List.mem_filter.mp hp).1).1
        refine ⟨_, _, dp_strs (.of (s2 _ _ hD)), .lst (.of g2) .nil, shp_strs asf, shp_nil, ?_⟩
        rw [eqv_nil]
        have em : ((ps.filter fun p => !lawD p).map fun p => PyData.str (S p)).isEmpty = ps.all lawD := by
          clear ep hps pl pn pa lx el eT eL h2 h2' hD asf hq
          induction ps with
          | nil => rfl
          | cons p r ih =>
            rw [List.filter_cons, List.all_cons]
            cases h : lawD p with
            | true => simpa [h] using ih
            | false => simp
        rw [em]
        have S2 := same_tr s1 (same_tr s' s2)
        have hq2 := s2 _ _ (s' _ _ hq)
        refine ⟨_, rfl, ?_⟩
        cases hall : ps.all lawD with
        | false =>
          have e : lawOf l = none := by rw [el]; exact if_pos (.inr hall)
          exact iteT (none_ e H2 S2)
        | true =>
          have cA : ¬ (2 < ps.length ∨ ps.all lawD = false) := by
            rintro (z | z)
            · exact h2' z
            · rw [hall] at z; cases z
          rw [if_neg cA] at el
          refine iteF ?_
          have dgs : ∀ p ∈ ps, dg 420 p = true := fun p hp => by
            have := List.all_eq_true.mp hall p hp
            unfold lawD at this
            rw [Bool.and_eq_true] at this
            exact this.1
          refine ⟨fun σ' H' => σ' = [some (.str (S l)), some (.ref q), none, some (.int (lawTop l : Int)), some (.int (lawLow l : Int))] ∧ H' q = some (.lst (txsV ps)) ∧ Same H H', ?_, ?_⟩
          · have p0 : ps[0]? = some (ps.headD []) := by
              cases ps with
              | nil => exact absurd pn (by decide)
              | cons a r => rfl
            have m0 : ps.headD [] ∈ ps := List.mem_of_getElem? p0
            have x0 : (txsV ps)[0]? = some (V.str (S (ps.headD []))) := by
              unfold txsV
              rw [List.getElem?_map, p0]
              rfl
            obtain ⟨i0, l0⟩ := int_dg (dgs _ m0)
            refine ⟨_, rfl, q, _, _, _, rfl, rfl, .of hq2, atI_nat x0, _, _, rfl, i0, l0, ?_⟩
            rw [← eT]
            refine ⟨_, rfl, q, _, rfl, .inl (.of hq2), rfl, _, rfl, ?_⟩
            rw [lx]
            refine ite2 (fun hc => ?_) (fun hc => ?_)
            · have c2 : ps.length = 2 := by
                have := of_decide_eq_true hc
                injection this with this
                omega
              rw [if_pos c2] at eL
              obtain ⟨x, y, e2⟩ : ∃ x y, ps = [x, y] := by
                match ps, c2 with
                | [x, y], _ => exact ⟨x, y, rfl⟩
              have ey : ps.getLastD [] = y := by rw [e2]; rfl
              have my : y ∈ ps := by rw [e2]; simp
              obtain ⟨i1, l1⟩ := int_dg (dgs _ my)
              have xl : atI (txsV ps) (-1) = some (V.str (S y)) := by
                rw [e2]
                exact atI_last [V.str (S x)] _
              rw [eL, ey]
              exact ⟨_, rfl, _, rfl, q, _, _, _, rfl, rfl, .of hq2, xl, _, _, rfl, i1, l1, _, _, rfl, rfl, hq2, S2⟩
            · have c2 : ¬ ps.length = 2 := fun z => hc (by rw [z]; exact decide_eq_true rfl)
              rw [if_neg c2] at eL
              rw [eL]
              exact ⟨_, _, rfl, rfl, hq2, S2⟩
          · rintro σ' H' ⟨rfl, hq', S'⟩
            have bad : ((ps.length = 2 ∧ lawLow l < 2) ∨ (sg l = true ∧ lawTop l = 0)) → lawOf l = none := fun c => by rw [el]; exact if_pos c
            refine ⟨fun σ'' H'' => σ'' = [some (.str (S l)), some (.ref q), none, some (.int (lawTop l : Int)), some (.int (lawLow l : Int))] ∧ H' = H'' ∧ ¬ ((ps.length = 2 ∧ lawLow l < 2) ∨ (sg l = true ∧ lawTop l = 0)), ?_, ?_⟩
            · refine ⟨_, rfl, q, _, rfl, .inl (.of hq'), rfl, _, rfl, ?_⟩
              rw [lx]
              by_cases c2 : ps.length = 2
              · rw [show decide (V.int ((ps.length : Nat) : Int) = V.int 2) = true by rw [c2]; exact decide_eq_true rfl]
                refine iteT ⟨_, rfl, _, _, rfl, rfl, _, rfl, ?_⟩
                by_cases c3 : lawLow l < 2
                · rw [decide_eq_true (show ((lawLow l : Nat) : Int) < 2 by omega)]
                  exact iteT (iteT (none_ (bad (.inl ⟨c2, c3⟩)) H' S'))
                · rw [decide_eq_false (show ¬ ((lawLow l : Nat) : Int) < 2 by omega)]
                  refine iteF ?_
                  refine ⟨_, rfl, _, rfl, S l, rfl, hz hl, ?_⟩
                  rw [show Txt.slice (S l) none (some 1) = S (l.take 1) from slice_to (by decide)]
                  refine ⟨rfl, _, rfl, ?_⟩
                  rw [s45, sg_take]
                  cases hs : sg l with
                  | false =>
                    refine iteF (iteF ⟨rfl, rfl, ?_⟩)
                    rintro (z | z)
                    · exact c3 z.2
                    · exact Bool.noConfusion z.1
                  | true =>
                    refine iteT ⟨_, rfl, rfl, _, rfl, ?_⟩
                    by_cases c4 : lawTop l = 0
                    · rw [show decide (V.int ((lawTop l : Nat) : Int) = V.int 0) = true by rw [c4]; exact decide_eq_true rfl]
                      exact iteT (none_ (bad (.inr ⟨hs, c4⟩)) H' S')
                    · rw [show decide (V.int ((lawTop l : Nat) : Int) = V.int 0) = false from decide_eq_false (fun z => by injection z with z; exact c4 (by omega))]
                      refine iteF ⟨rfl, rfl, ?_⟩
                      rintro (z | z)
                      · exact c3 z.2
                      · exact c4 z.2
              · rw [show decide (V.int ((ps.length : Nat) : Int) = V.int 2) = false from decide_eq_false (fun z => by injection z with z; exact c2 (by omega))]
                refine iteF (iteF ?_)
                refine ⟨_, rfl, _, rfl, S l, rfl, hz hl, ?_⟩
                rw [show Txt.slice (S l) none (some 1) = S (l.take 1) from slice_to (by decide)]
                refine ⟨rfl, _, rfl, ?_⟩
                rw [s45, sg_take]
                cases hs : sg l with
                | false =>
                  refine iteF (iteF ⟨rfl, rfl, ?_⟩)
                  rintro (z | z)
                  · exact c2 z.1
                  · exact Bool.noConfusion z.1
                | true =>
                  refine iteT ⟨_, rfl, rfl, _, rfl, ?_⟩
                  by_cases c4 : lawTop l = 0
                  · rw [show decide (V.int ((lawTop l : Nat) : Int) = V.int 0) = true by rw [c4]; exact decide_eq_true rfl]
                    exact iteT (none_ (bad (.inr ⟨hs, c4⟩)) H' S')
                  · rw [show decide (V.int ((lawTop l : Nat) : Int) = V.int 0) = false from decide_eq_false (fun z => by injection z with z; exact c4 (by omega))]
                    refine iteF ⟨rfl, rfl, ?_⟩
                    rintro (z | z)
                    · exact c2 z.1
                    · exact c4 z.2
            · rintro σ'' H'' ⟨rfl, rfl, good⟩
              rw [if_neg good] at el
              have L1 : 1 ≤ lawLow l := by
                by_cases c2 : ps.length = 2
                · have := fun z => good (.inl ⟨c2, z⟩)
                  omega
                · rw [eL, if_neg c2]
                  exact Nat.le_refl 1
              have bT : lawTop l < 2 ^ 1400 := by
                rw [eT]
                refine dg_lt (dgs _ ?_)
                cases hh : ps with
                | nil => rw [hh] at pn; exact absurd pn (by decide)
                | cons a r => exact List.mem_cons_self ..
              have bL : lawLow l < 2 ^ 1400 := by
                rw [eL]
                split
                · rename_i c2
                  match ps, c2, dgs with
                  | [x, y], _, dgs => exact dg_lt (dgs y (by simp))
                · decide
              have bc : ∀ {k : Nat}, k < 2 ^ 1400 → k < 2 ^ 1500 := fun h => Nat.lt_trans h (Nat.pow_lt_pow_right (by decide) (by decide))
              refine ⟨_, rfl, _, rfl, lea_ok (by omega) (bc bT) (bc bL) fun t1 H3 s3 h3 => ?_⟩
              refine ⟨_, rfl, _, rfl, by rw [sizeLine_eq]; show 2 ≤ 16777216; decide, fun t2 nt => ?_⟩
              generalize hG : upd H3 t2 _ = H4
              obtain ⟨s4, h4⟩ := same_of nt hG
              clear hG nt
              refine ⟨_, _, dp_mk (.of (s4 _ _ h3)), dp_mk (.of h4), shp_two _ _, shp_two _ _, ?_⟩
              rw [eqv_two]
              have S4 := same_tr S' (same_tr s3 s4)
              refine ⟨_, rfl, ?_⟩
              by_cases hg : Nat.gcd (lawTop l) (lawLow l) = 1
              · obtain ⟨g1, g2⟩ := (low_pos (T := lawTop l) L1).mpr hg
                rw [g1, g2, decide_eq_true rfl, decide_eq_true rfl]
                refine iteF ?_
                rw [if_neg (fun z => z hg)] at el
                have fin : ∀ (a : Int), a = (if sg l = true then -(lawTop l : Int) else (lawTop l : Int)) → ∀ t H5, Same H4 H5 → H5 t = some (.tup [.int a, .int (lawLow l : Int)]) → ([V.ref t] : List V).length ≤ sizeLine ∧ ∀ r, H5 r = none → Q (.ref r) (upd H5 r (.lst [V.ref t])) := fun a ea t H5 s5 h5 => by
                  refine ⟨by rw [sizeLine_eq]; show 1 ≤ 16777216; decide, fun r nr => ?_⟩
                  generalize hG : upd H5 r _ = H6
                  obtain ⟨s6, h6⟩ := same_of nr hG
                  clear hG
                  refine k r H6 (same_tr S4 (same_tr s5 s6)) ?_
                  unfold nofD
                  rw [el, ← ea]
                  exact .lst (.of h6) (.cons (dp_mk (.of (s6 _ _ h5))) .nil)
                refine ⟨_, rfl, _, rfl, S l, rfl, hz hl, ?_⟩
                rw [show Txt.slice (S l) none (some 1) = S (l.take 1) from slice_to (by decide)]
                refine ⟨rfl, _, rfl, ?_⟩
                rw [s45, sg_take]
                cases hs : sg l with
                | true =>
                  refine iteT ⟨_, rfl, _, _, rfl, rfl, _, rfl, by rw [sizeLine_eq]; show 2 ≤ 16777216; decide, fun t nt => ?_⟩
                  generalize hG : upd H4 t _ = H5
                  obtain ⟨s5, h5⟩ := same_of nt hG
                  clear hG nt
                  exact fin _ (by rw [hs]; show (0 : Int) - _ = -_; omega) t H5 s5 h5
                | false =>
                  refine iteF ⟨_, rfl, _, rfl, by rw [sizeLine_eq]; show 2 ≤ 16777216; decide, fun t nt => ?_⟩
                  generalize hG : upd H4 t _ = H5
                  obtain ⟨s5, h5⟩ := same_of nt hG
                  clear hG nt
                  exact fin _ (by rw [hs]; rfl) t H5 s5 h5
              · have ne : (decide ((nrm (lawTop l : Int) (lawLow l : Int)).1 = (lawTop l : Int)) && decide ((nrm (lawTop l : Int) (lawLow l : Int)).2 = (lawLow l : Int))) = false := nb fun z => hg ((low_pos (T := lawTop l) L1).mp ⟨of_decide_eq_true z.1, of_decide_eq_true z.2⟩)
                rw [ne]
                rw [if_pos hg] at el
                exact iteT (none_ el H4 S4)
end
end K5
set_option Elab.async false
set_option linter.all false
set_option maxRecDepth 100000
set_option maxHeartbeats 4000000
/-! # A lambda handed to a def that may catch what it raises; nothing is being shown -/
namespace Rm
open PySem PySem.Spec PyProof.Rows L2 RmX LamX
section
variable {X : Cx} {pins : List (Addr × Obj)} {σ : L2.St} {H : Hp} {s : Shared}
/-- x(), in the def that got the lambda -/
theorem pe_actG {CXg : CXT} {Eg : XK} {Ng : List Str} {qg : Str} {sg : Scope} {g f c' : Addr} {cdg pm ctv : Value} {params : Arguments} {body : Expr} {scope : Scope} {k i : Nat} {a : Str} {pn : List (Addr × Obj)} {xe : Value → Shared → Prop} {W : WX} {t : XK → TE} {p1 p2 : Pos}
    (I : Inv X pins σ H s) (L : LamS X.env.scope scope) (hf : s.heap.get? f = some (PySem.W.kla_obj "<lambda>" (X.env.qual ++ "<lambda>") params body scope (cloFrom X.env.cells scope.names []) pm c' ctv)) (hfn : H f = none) (hfr : f ∉ frs X.stack)
    (hbind : bindArgs (PySem.W.kla_fn "<lambda>" (X.env.qual ++ "<lambda>") params body scope (cloFrom X.env.cells scope.names []) pm (.ref c') ctv) ⟨[], []⟩ = pure [])
    (tk : Takes ((cxOf CXg X.prog X.w X.K X.mg X.base Ng qg sg g cdg X.A X.stack s H Eg).tr pn xe) W) (hr : Room (k + 1) (X.A.deeper (envOfC qg sg s.heap.objs.size g cdg))) (hgd : X.A.guards = some [])
    (hbody : ∀ (E : XK) (A : Around) (outer : List Env) (s : Shared) (H : Hp), A.guards = some [] → Room k (A.deeper (lamEnv X scope s.heap.objs.size f c')) → PE (lamCx X A outer s H E scope f c') body (t E))
    (hN : Ng[i]? = some a) (hv : Vis sg a) (hd : (a == ("__debug__" : Str)) = false := by decide) (hcd : (a == ("__classdict__" : Str)) = false := by decide) :
    PE ((cxOf CXg X.prog X.w X.K X.mg X.base Ng qg sg g cdg X.A X.stack s H Eg).tr pn xe) (.Call (.Name a p1) [] [] p2)
      (fun σZ HZ Q => σZ[i]? = some (some (.ref f)) ∧ HZ c' = some (CodeO c' (X.env.qual ++ "<lambda>")) ∧ ∃ (E : XK) (Q0 : VK), (∀ cls d H', E cls d H' → W cls d σZ H') ∧ (∀ v H', Q0 v H' → Q v H') ∧ t E σ HZ Q0) := by
  refine ⟨fun pinsZ sZ σZ HZ Q IZ ⟨slot, code, E, Q0, sub, up, want⟩ => ?_⟩
  refine wpAny_Call_Name_kw (thn ((pe_var (pos := p1) (i := i) hN hv hd hcd).run pinsZ sZ σZ HZ (fun v H1 => v = .ref f ∧ H1 = HZ) IZ ⟨.ref f, slot, rfl, rfl⟩) fun u s1 ⟨v, H1, I1, r1, ev, eH⟩ => ?_)
  subst ev
  rw [eH] at I1
  obtain rfl : u = Value.ref f := r1
  have un : Un (frs X.stack) [] H HZ s.heap s1.heap := I1.base
  have there : s1.heap.get? f = some (PySem.W.kla_obj "<lambda>" (X.env.qual ++ "<lambda>") params body scope (cloFrom X.env.cells scope.names []) pm c' ctv) := un.keep f _ hf hfn hfr (fun z => nomatch (show f ∈ ([] : List Addr) from z))
  refine PySem.W.callWith_F0 ⟨_, _, _, _, there⟩ ?_
  obtain ⟨⟨oc, vs, tc, hoc, hdc, hvc⟩, _, _⟩ := I1.hok c' _ code
  have ran : codeAny (model X.prog X.w) (X.A.deeper (envOfC qg sg s.heap.objs.size g cdg)) (.call (.ref f) ⟨[], []⟩) (CR (L2.CX X.prog X.w) (envOfC qg sg s.heap.objs.size g cdg :: X.stack) X.prog X.w HZ s1 Q0 E) s1 := by
    refine PySem.W.kla_callFunE hr.depth there rfl L.co L.gen rfl ⟨c', oc, vs, tc, rfl, hoc, hdc, hvc⟩ ?_
    rw [hbind]
    refine wpAny_pure (wpAny_newFunctionEnv (fun y hy => (L.own y hy).2) (fun y hy => absurd hy (by simp)) (fun h₁ hns hsb => ⟨I1.nolimit.fresh _ hsb, ?_⟩) L.kind)
    show codeAny _ _ (.expr body (lamEnv X scope s1.heap.objs.size f c')) _ _
    have kp : ∀ b o, s1.heap.get? b = some o → h₁.get? b = some o := fun b o e => hsb.extBut b o (Nat.ne_of_lt (Heap.lt_size e)) (Heap.get?_push_of_some _ e)
    have J : Inv (lamCx X (X.A.deeper (envOfC qg sg s.heap.objs.size g cdg)) (envOfC qg sg s.heap.objs.size g cdg :: X.stack) s1 HZ E scope f c') [] σ HZ { s1 with heap := h₁, toks := s1.toks + ([] : List (Str × Value)).length } :=
      lam_start2 I L I1.env0 hr.hd un hns kp
    refine PySem.W.kla_codeExpr (wpAny_mono ((hbody E (X.A.deeper (envOfC qg sg s.heap.objs.size g cdg)) _ s1 HZ hgd (hr.deeper _)).run [] _ _ HZ Q0 J want) (fun v s' hq => ?_) fun e s' hq => hq)
    obtain ⟨w', H', J', rv, q⟩ := hq
    exact ⟨w', H', J'.os, J'.bare, J'.base, J'.hok, rv, q⟩
  refine wpAny_call (codeAny_mono ran fun r s' hq => ?_)
  cases r with
  | error e => exact tk e s' (XE.of_call I1 (fun cls d H' h => sub cls d H' h) hq)
  | ok fl =>
    cases fl with
    | ret u =>
      obtain ⟨v, H', b1, b2, b3, b4, b5, q⟩ := hq
      exact I1.after ⟨v, H', b1, b2, b3, b4, b5, up v H' q⟩
    | next => exact hq.elim
    | brk => exact hq.elim
    | cont => exact hq.elim
end
/-- the def x with the one parameter a: what TT makes of the reading of the lambda that it gets -/
def GivesG (X : Cx) (k : Nat) (Ng : List Str) (x : Str) (sg : Scope) (g : Addr) (cdg : Value) (bg : List Stmt) (a : Str) (q : Str) (TT : (XK → Hp → VK → Prop) → Hp → VK → Prop) : Prop :=
  ∀ (f c' : Addr) (s : Shared) (H : Hp) (Q : VK) (tl : XK → Hp → VK → Prop), Room k (X.A.deeper (envOfC x sg s.heap.objs.size g cdg)) →
    (∀ (W : WX) (pn : List (Addr × Obj)) (xe : Value → Shared → Prop) (p1 p2 : Pos), Takes ((cxOf (L2.CX X.prog X.w) X.prog X.w X.K X.mg X.base Ng x sg g cdg X.A X.stack s H L2.E0).tr pn xe) W →
      PE ((cxOf (L2.CX X.prog X.w) X.prog X.w X.K X.mg X.base Ng x sg g cdg X.A X.stack s H L2.E0).tr pn xe) (.Call (.Name a p1) [] [] p2) (fun σZ HZ Q => σZ[0]? = some (some (.ref f)) ∧ HZ c' = some (CodeO c' q) ∧ ∃ (E : XK) (Q0 : VK), (∀ cls d H', E cls d H' → W cls d σZ H') ∧ (∀ v H', Q0 v H' → Q v H') ∧ tl E HZ Q0)) →
    H c' = some (CodeO c' q) → TT tl H Q →
    ∃ t, PSs (cxOf (L2.CX X.prog X.w) X.prog X.w X.K X.mg X.base Ng x sg g cdg X.A X.stack s H L2.E0) bg t ∧ t { nx := fun _ H' => Q .non H', rt := Q } (L2.start Ng [.ref f]) H
section
variable {X : Cx}
/-- x(lambda: body) -/
theorem pe_lamcallG {T : List (Addr × Str)} {TT : (XK → Hp → VK → Prop) → Hp → VK → Prop} {x a : Str} {g c P : Addr} {k : Nat} {pg : Arguments} {bg : List Stmt} {sg : Scope} {dV kV doc pm cdv ct oc : Value} {an od : Option Addr} {osl : Array (Option Value)} {Ng : List Str}
    {params : Arguments} {body : Expr} {scope : Scope} {t : XK → TE} {p lpos pos : Pos} (hg : Gl X x) (hm : X.mg x = some (.ref g)) (hk : PySem.W.keepIn X.K (.ref g) = true)
    (lk : X.K.lookup g = some ⟨oc, od, .func (PySem.W.fnOf x x pg bg sg dV kV doc pm an cdv ct), osl⟩) (hcg : PySem.W.codeIn X.K cdv x = true) (hb : L2.Binds X.K (PySem.W.fnOf x x pg bg sg dV kV doc pm an cdv ct) [a] []) (Sg : FnScope Ng [a] sg) (hNg : Ng[0]? = some a) (hva : Vis sg a)
    (hG : GivesG X (k + 1) Ng x sg g cdv bg a (X.env.qual ++ "<lambda>") TT)
    (TB : TabB X.base X.mg c P) (hcode : X.env.code = .ref c) (hmT : (P, X.env.qual ++ "<lambda>") ∈ T) (hu : ∀ p ∈ T, p.1 = P → p.2 = X.env.qual ++ "<lambda>") (hr : Room (k + 2) X.A) (hgd : X.A.guards = some []) (L : LamS X.env.scope scope) (hdef : defaultsOf params X.env = ([], []))
    (hbind : ∀ (q : Str) (cl : List (Str × Addr)) (pm cv ctv : Value), bindArgs (PySem.W.kla_fn "<lambda>" q params body scope cl pm cv ctv) ⟨[], []⟩ = pure [])
    (hbody : ∀ (E : XK) (A : Around) (outer : List Env) (s : Shared) (H : Hp) (f c' : Addr), A.guards = some [] → Room k (A.deeper (lamEnv X scope s.heap.objs.size f c')) → PE (lamCx X A outer s H E scope f c') body (t E))
    (hdb : (x == ("__debug__" : Str)) = false := by decide) (hd : (a == ("__debug__" : Str)) = false := by decide) (hcd : (a == ("__classdict__" : Str)) = false := by decide) :
    PE X (.Call (.Name x p) [.Lambda params body scope lpos] [] pos) (tLam T TT t) := by
  refine ⟨fun pins s σ H Q I ⟨hT, h⟩ => ?_⟩
  refine wpAny_Call_Name_kw (ld_glob I hg hm ?_ hdb)
  refine PySem.W.callWith_K (h₀ := X.base) I.ok.mod.kin hk ?_ (by rfl) (by rfl)
  show wpAny _ _ (spliced ((false, eval (.Lambda params body scope lpos) X.env) :: backTo pos (starEach [] X.env))) _ _ s
  refine Calls.spliced_cons (lam_make2 I TB hcode hmT hu hT hdef (L.has I.ok) fun f c' pm' ctv H1 s' I1 eN T1 hf hfn hfr hco => Calls.spliced_nil ⟨I1.kIn, ?_⟩)
  have ran : codeAny (model X.prog X.w) X.A (.call (.ref g) ⟨[.ref f], []⟩) (CR (L2.CX X.prog X.w) X.stack X.prog X.w H1 s' Q L2.E0) s' := by
    refine run_ofS (N := Ng) (ps := [a]) (us := [.ref f]) (vs := [.ref f]) lk hcg Sg hr I1.env0 (hb s' [.ref f] I1.kIn rfl) (.cons rfl .nil) rfl fun hr' => ?_
    exact hG f c' s' H1 Q (fun E H' Q' => t E σ H' Q') hr' (fun W pn xe p1 p2 tk => pe_actG (i := 0) I1 L hf hfn hfr (hbind _ _ _ _ _) tk hr' hgd (fun E A outer s H hA hr2 => hbody E A outer s H f c' hA hr2) hNg hva hd hcd) hco (h H1 eN T1)
  refine wpAny_call (codeAny_mono ran fun r s2 hq => ?_)
  cases r with
  | error e =>
    obtain ⟨_, _, _, _, _, _, _, _, _, _, _, _, z⟩ := hq
    exact z.elim
  | ok fl =>
    cases fl with
    | ret u => exact I1.after hq
    | next => exact hq.elim
    | brk => exact hq.elim
    | cont => exact hq.elim
end
end Rm
set_option Elab.async false
set_option linter.all false
set_option maxRecDepth 100000
set_option maxHeartbeats 4000000
set_option exponentiation.threshold 100000
namespace K5
open PySem PySem.Spec PyProof.Rows L2 RmX Rm Mth SX
abbrev sTol : Stmt := top 28
abbrev sMrk : Stmt := top 29
structure TxtW (K : PySem.W.Frag) (mg : Str → Option Value) (CT cP cS cM : Addr) : Prop where
  gP : mg "PaceError" = some (.ref cP)
  gS : mg "StateError" = some (.ref cS)
  gM : mg "MissingError" = some (.ref cM)
  exm : PySem.W.exmAny K (.ref CT) [.ref cP, .ref cS, .ref cM] = some true
  kit : PySem.W.kitOne K (.ref CT) (.ref CT) = some true
def spMrk (CT : Addr) : Sp := fun vs H Q _ => ∃ (a dx : Addr) (v : V), vs = [.ref a] ∧ H a = some (exv a CT dx) ∧ H dx = some (.xd [(Str.ofString "line", v)]) ∧ ∀ t H', Same H H' → H t = none → H' t = some (.tup [.str (Str.ofString "text"), v]) → Q (.ref t) H'
theorem mrk_ok {CT : Addr} {H : Hp} {a dx : Addr} {v : V} {Q : VK} {E : XK} (h1 : H a = some (exv a CT dx)) (h2 : H dx = some (.xd [(Str.ofString "line", v)])) (h : ∀ t H', Same H H' → H t = none → H' t = some (.tup [.str (Str.ofString "text"), v]) → Q (.ref t) H') : Bx (spMrk CT [.ref a] H Q E) := ⟨⟨a, dx, v, rfl, h1, h2, h⟩⟩
def TTold (CT : Addr) : (XK → Hp → VK → Prop) → Hp → VK → Prop := fun tl H Q => ∀ HB, Same H HB →
  tl (fun cls d H' => cls = .ref CT ∧ ∃ dx v, d = some dx ∧ H' dx = some (.xd [(Str.ofString "line", v)]) ∧ ∀ t H2, Same H' H2 → H' t = none → H2 t = some (.tup [.str (Str.ofString "text"), v]) → Q (.ref t) H2) HB (fun v H' => ∀ r H2, Same H' H2 → H' r = none → H2 r = some (.lst [v]) → Q (.ref r) H2)
section
variable {P : Program} {w : World} {K : PySem.W.Frag} {mg : Str → Option Value} {base : Heap} {C CT fIT cP cS cM : Addr}
theorem scMk : FnScope ["error"] ["error"] (defScope sMrk) := ⟨rfl, rfl, rfl, by decide +kernel, rfl, by decide +kernel, by decide +kernel⟩
theorem ok_mrk {f : Addr} {fd : FuncData} (F : Fun K "_law_marks" "_law_marks" sMrk f fd) (T : TxtA mg) (TT : TxtT P K mg C CT fIT) (W : TxtW K mg CT cP cS cM) : FnG P w K mg base 1 f fd ["error"] (spMrk CT) := by
  refine okG F scMk (fun vs H Q E h => ?_) (fun cdv A outer s H vs Q E hr hgd h => ?_)
  · obtain ⟨a, dx, v, rfl, _⟩ := h
    rfl
  · obtain ⟨a, dx, v, rfl, h2, h1, fin⟩ := h
    refine ⟨_, pss_one (ps_ret (pe_ifExp (pt_val (pe_callB call_isX (by rfl) T.isi (by decide +kernel) (pa_cons (pv 0) (pa_cons (pe_glob (v := .ref CT) rfl TT.gC rfl) pa_nil)))) (pe_tup (pa_cons pe_str (pa_cons (pe_exf (pv 0)) pa_nil))) (pe_tup (pa_cons pe_str (pa_cons pe_non pa_nil))))), ?_⟩
    refine ⟨_, rfl, a, CT, dx, fIT, _, _, _, _, _, _, _, true, rfl, TT.ex, h2, ⟨_, h1⟩, .own CT, W.kit, _, rfl, iteT ?_⟩
    refine ⟨_, rfl, a, CT, dx, fIT, _, _, _, _, _, rfl, TT.ex, h2, h1, ?_⟩
    refine ⟨by rw [sizeLine_eq]; show 2 ≤ 16777216; decide, fun l nn => ?_⟩
    generalize hG : upd H l _ = H3
    obtain ⟨s3, h3⟩ := same_of nn hG
    clear hG
    exact fin l H3 s3 nn h3
abbrev nTo : List Str := ["action", "error", "found", "e"]
theorem scTo : FnScope nTo ["action"] (defScope sTol) := ⟨rfl, rfl, rfl, by decide +kernel, rfl, by decide +kernel, by decide +kernel⟩
theorem told_gives {X : Cx} {k : Nat} {g aMk : Addr} {dMk : FuncData} {cdv : Value} {q : Str} (hgd : X.A.guards = some []) (T : TxtA X.mg) (W : TxtW X.K X.mg CT cP cS cM) (cM' : Cal X.prog X.w X.K X.mg X.base "_law_marks" aMk dMk 1 ["error"] (bx (spMrk CT))) :
    GivesG X (k + 1) nTo "_law_told" (defScope sTol) g cdv (defBody sTol) "action" q (TTold CT) := by
  intro f c' s H Q tl hr act hc h
  refine ⟨_, pss_cons (ps_asg (pe_tup (pa_cons pe_non (pa_cons pe_non pa_nil))) (pg_tup rfl (pgs_cons (pg_name (i := 1) scTo.nd rfl (Or.inl rfl)) (pgs_cons (pg_name (i := 2) scTo.nd rfl (Or.inl rfl)) pgs_nil))))
      (pss_cons (ps_try_keep (i := 3) (c1 := cP) (c2 := cS) (c3 := cM) rfl rfl scTo.nd rfl rfl rfl ⟨rfl, by decide, .inl W.gP⟩ ⟨rfl, by decide, .inl W.gS⟩ ⟨rfl, by decide, .inl W.gM⟩
        (fun W' pn xe tk po => pss_one (ps_set (i := 2) scTo.nd rfl (Or.inl rfl) (act W' pn xe _ _ tk)))
        (fun a oe pn => pss_one (ps_set (i := 1) scTo.nd rfl (Or.inl rfl) (pv 3))))
      (pss_one (ps_ret (pe_ifExp (pt_cmpR op_isN (pv 1) pe_non (nomark _)) (pe_lst (pa_cons (pv 2) pa_nil)) (pe_cal cM' (hr.mono (by omega)) hgd (pa_cons (pv 1) pa_nil)))))), ?_⟩
  refine ⟨by rw [sizeLine_eq]; show 2 ≤ 16777216; decide, fun ta nn => ?_⟩
  generalize hG : upd H ta _ = HB
  obtain ⟨sB, hB⟩ := same_of nn hG
  clear hG nn
  refine ⟨ta, _, rfl, .of hB, rfl, _, _, rfl, _, _, rfl, rfl, ?_⟩
  refine ⟨rfl, sB _ _ hc, _, _, ?_, ?_, h HB sB⟩
  · rintro cls d H' ⟨rfl, dx, v, rfl, hx, fin⟩
    refine ⟨W.exm, CT, dx, rfl, rfl, fun a na => ?_⟩
    refine ⟨_, rfl, na, ?_⟩
    generalize hG : upd H' a _ = H2
    obtain ⟨s2, h2⟩ := same_of na hG
    clear hG
    have h1' := s2 _ _ hx
    refine ⟨_, rfl, rfl, _, rfl, ?_⟩
    refine ite2 (fun z => V.noConfusion (of_decide_eq_true z)) (fun _ => ?_)
    exact ⟨_, rfl, mrk_ok h2 h1' fun t H3 s3 nt h3 => fin t H3 (same_tr s2 s3) (fresh_same s2 nt) h3⟩
  · intro v H' fin
    refine ⟨_, rfl, rfl, _, rfl, iteT ?_⟩
    refine ⟨_, rfl, by rw [sizeLine_eq]; show 1 ≤ 16777216; decide, fun l nn => ?_⟩
    generalize hG : upd H' l _ = H3
    obtain ⟨s3, h3⟩ := same_of nn hG
    clear hG
    exact fin l H3 s3 nn h3
end
end K5
set_option Elab.async false
set_option linter.all false
set_option maxRecDepth 100000
set_option maxHeartbeats 4000000
/-! # Texts: a sign times a number, a text backwards, the list of a text's signs -/
namespace Rm
open PySem PySem.Spec PyProof.Rows L2 SX
section
variable {X : Cx}
theorem fold_rep (c : Nat) : ∀ (n : Nat) (acc : Array Nat), (List.replicate n (#[c] : Array Nat)).foldl (· ++ ·) acc = acc ++ (List.replicate n c).toArray
  | 0, acc => by simp
  | n + 1, acc => by
    rw [List.replicate_succ, List.foldl_cons, fold_rep c n, List.replicate_succ]
    refine Array.toList_inj.mp ?_
    rw [Array.toList_append, Array.toList_append, Array.toList_append, List.append_assoc]
    rfl
/-- c * n -/
theorem op_mulS : OpR X (binaryOp .Mult) (fun x y H Q => ∃ (c n : Nat), x = .str (S [c]) ∧ y = .int (n : Int) ∧ 2 ≤ n ∧ n ≤ 1000000 ∧ Q (.str (S (List.replicate n c))) H) := by
  intro pins s σ H x y v u Q I rx ry h
  obtain ⟨c, n, rfl, rfl, h2, hn, q⟩ := h
  obtain ⟨t, rfl⟩ := rx
  obtain ⟨t', rfl⟩ := ry
  have len : (S [c]).length = 1 := S_len [c]
  have c1 : ¬ ((n : Int) < 1) := by omega
  have c2 : (((n : Int) == 1) || ((S [c]).length == 0)) = false := by
    rw [len, Bool.or_eq_false_iff]
    exact ⟨by simp; omega, rfl⟩
  refine PySem.P.mul_str (by rw [decide_eq_false (by omega), decide_eq_false (by omega)]; rfl) (fun _ _ => ?_) (fun _ _ => ?_) ?_
  · rw [len]
    have : (1 : Int) ≤ (2 ^ 63 - 1) / (n : Int) := by
      rw [Int.le_ediv_iff_mul_le (by omega)]
      omega
    omega
  · rw [len, Nat.one_mul, Int.toNat_natCast]
    unfold Builtin.Str.tooLong
    rw [decide_eq_false]
    rw [sizeLine_eq]; omega
  · rw [if_neg c1, if_neg (by rw [c2]; exact Bool.false_ne_true)]
    have e : (⟨(List.replicate (n : Int).toNat (S [c]).cps).foldl (· ++ ·) #[]⟩ : Str) = S (List.replicate n c) := by
      rw [Int.toNat_natCast]
      have e1 := fold_rep c n #[]
      have e2 : (#[] : Array Nat) ++ (List.replicate n c).toArray = (List.replicate n c).toArray := by simp
      rw [e2] at e1
      exact congrArg Str.mk e1
    rw [e]
    exact ⟨by rw [S_len, List.length_replicate, sizeLine_eq]; omega, .str _, H, I.tok _, ⟨_, rfl⟩, q⟩
/-- list(s) -/
theorem call_listS (hc : X.calm = true) : CallR X (.type "list") (fun xs H Q => ∃ l : List Nat, xs = [.str (S l)] ∧ l.length ≤ 1000000 ∧ ∀ p, H p = none → Q (.ref p) (upd H p (.lst (l.map fun c => V.str (S [c]))))) := by
  intro pins s σ H xs us Q I r h
  obtain ⟨l, rfl, hl, q⟩ := h
  obtain ⟨u, rfl, t, rfl⟩ := vals1 r
  have sz : (S l).cps.size = l.length := by simp [S]
  refine call_list_str (I.ok.hd hc) (S l) t (fun h' tk acc' c' kp e items => ?_) (by rw [sz, sizeLine_eq]; omega)
  refine ⟨.ref s.heap.objs.size, _, I.laid (t' := tk) kp (Nat.le_refl _) (show ObjOk X.prog X.w _ h' _ (.lst (l.map fun c => V.str (S [c]))) from ⟨by rw [List.length_map, sizeLine_eq]; omega, acc'.toList, c', ?_, by rw [Array.toArray_toList]; exact e⟩), rfl, q _ (I.hok.fresh (Nat.le_refl _))⟩
  obtain ⟨n1, n2⟩ := items
  rw [sz] at n1
  have main : ∀ (ms : List Nat) (ws : List Value) (k : Nat), ms.length = ws.length → (∀ (j : Nat) (v : Value), ws[j]? = some v → ∃ (c : Nat) (u : Tok), ms[j]? = some c ∧ v = Value.str (S [c]) u) → Vals (ms.map fun c => V.str (S [c])) ws := by
    intro ms
    induction ms with
    | nil =>
      intro ws k hw _
      cases ws with
      | nil => exact .nil
      | cons _ _ => cases hw
    | cons m r ih =>
      intro ws k hw hh
      cases ws with
      | nil => cases hw
      | cons v vs =>
        obtain ⟨c, u, h1, h2⟩ := hh 0 v rfl
        have : m = c := Option.some.inj h1
        subst this
        refine .cons ⟨u, h2⟩ (ih vs 0 (by simpa using hw) fun j v' hj => ?_)
        exact hh (j + 1) v' hj
  refine main l acc'.toList 0 (by rw [Array.length_toList]; exact n1.symm) fun j v hj => ?_
  obtain ⟨c, u, h1, h2⟩ := n2 j v (by rw [← Array.getElem?_toList]; exact hj)
  refine ⟨c, u, ?_, h2⟩
  have : (S l).cps[j]? = l[j]? := by simp [S]
  rw [← this]; exact h1
/-- s[::-1] -/
def tRevS (te : TE) : TE := fun σ H Q => te σ H fun x H1 => ∃ l : List Nat, x = .str (S l) ∧ l.length ≤ 1000000 ∧ Q (.str (S l.reverse)) H1
theorem pe_revS {e : Expr} {te : TE} {k : Nat} {p1 p2 p3 pos : Pos} (he : PE X e te) : PE X (.Subscript e (.Slice none none (some (.UnaryOp .USub (.Constant (.int 1) k p1) p2)) p3) pos) (tRevS te) := by
  refine ⟨fun pins s σ H Q I h => Subscript_ (thn (he.run pins s σ H _ I h) fun v s1 ⟨x, H1, I1, r1, l, ex, hl, q⟩ => ?_)⟩
  subst ex
  obtain ⟨t, rfl⟩ := r1
  have step : PO X (some (.UnaryOp .USub (.Constant (.int 1) k p1) p2)) (tPart (tUn (rU fun i => .int (-i)) (tC (.int 1)))) := po_some (pe_un un_neg pe_int)
  refine wpAny_Slice (thn (po_none.run pins s1 σ H1 (fun o H2 => o = none ∧ H2 = H1) I1 ⟨rfl, rfl⟩) fun vl s2 ⟨lo, H2, I2, pl, el, e2⟩ => ?_)
  subst el e2
  refine thn (po_none.run pins s2 σ H2 (fun o H3 => o = none ∧ H3 = H2) I2 ⟨rfl, rfl⟩) fun vu s3 ⟨u, H3, I3, pu, eu, e3⟩ => ?_
  subst eu e3
  refine thn (step.run pins s3 σ H3 (fun o H4 => o = some (-1) ∧ H4 = H3) I3 ⟨1, rfl, -1, rfl, rfl, rfl⟩) fun vs s4 ⟨o, H4, I4, ps, eo, e4⟩ => ?_
  subst eo e4
  have I5 : Inv X pins σ H4 { s4 with heap := s4.heap.push { cls := .type "slice", data := .fields #[vl, vu, vs] } } := I4.kept (t' := s4.toks) fun b ob q => Heap.get?_push_of_some _ q
  obtain ⟨a1, ra, ea⟩ := IsPart.raw pl
  obtain ⟨a2, rb, eb⟩ := IsPart.raw pu
  obtain ⟨a3, rc, ec⟩ := IsPart.raw ps
  have sz : (S l).cps.size = l.length := by simp [S]
  refine tail_any (ops := [.str (S l) t, .ref s4.heap.objs.size]) (typeIs_str _ _ _) F.slot_str_getitem.lookup ?_ (by with_unfolding_all rfl)
  refine wpAny_getItem_str_slice (l := a1) (u := a2) (st := a3) ⟨_, Heap.get?_push_size _ rfl, rfl, by rw [ra, rb, rc]⟩ (by rw [ec]; rfl) ?_
  unfold sliceMade slicePicked
  rw [ea, eb, ec]
  show Made.post (if ((-1 : Int) == 1 && (Builtin.Str.strSliceIndices none none (-1) (S l).length).length == (S l).length) = true then Made.val (.str (S l) t) else Made.str ⟨((Builtin.Str.strSliceIndices none none (-1) (S l).length).filterMap ((S l).cps[·]?)).toArray⟩) (EP X pins σ Q) _
  rw [show ((-1 : Int) == 1) = false by decide, Bool.false_and, if_neg Bool.false_ne_true]
  have e1 : Builtin.Str.strSliceIndices none none (-1) (S l).length = (List.range (S l).cps.size).reverse := by
    show sliceRange (((S l).length : Int) - 1) (-1) (-1) = _
    rw [PySem.W.krv_sliceRange, PySem.W.krv_range]
    rfl
  rw [e1, List.filterMap_reverse, PySem.W.krv_all]
  exact ⟨by show ((S l).cps.toList.reverse.toArray).size ≤ sizeLine; rw [List.size_toArray, List.length_reverse, Array.length_toList, sz, sizeLine_eq]; omega, .str _, H4, I5.tok _, ⟨_, rfl⟩, q⟩
end
end Rm
set_option Elab.async false
set_option linter.all false
set_option maxRecDepth 100000
set_option maxHeartbeats 4000000
set_option exponentiation.threshold 100000
namespace K5
open PySem PySem.Spec PyProof.Rows L2 RmX Rm Mth SX
abbrev sVal : Stmt := top 30
abbrev sBen : Stmt := top 31
def spVal : Sp := fun vs H Q _ => ∃ (p c : Addr) (n : Nat), vs = [.ref p] ∧ DrawAt H p c n ∧ n < 2 ^ 28 ∧
  ∀ (t : Addr) (a b : Int) (H' : Hp), DrawAt H' p c (n + 20) → Kp p H H' → H' t = some (.tup [.int a, .int b]) → isNum a b → a.natAbs < 10 ^ 400 → b.natAbs < 10 ^ 400 → Q (.ref t) H'
theorem val_ok {p c : Addr} {n : Nat} {H : Hp} {Q : VK} {E : XK} (D : DrawAt H p c n) (hn : n < 2 ^ 28) (h : ∀ (t : Addr) (a b : Int) (H' : Hp), DrawAt H' p c (n + 20) → Kp p H H' → H' t = some (.tup [.int a, .int b]) → isNum a b → a.natAbs < 10 ^ 400 → b.natAbs < 10 ^ 400 → Q (.ref t) H') : Bx (spVal [.ref p] H Q E) := ⟨⟨p, c, n, rfl, D, hn, h⟩⟩
abbrev l399 : List Nat := [49] ++ List.replicate 399 48
theorem dv399 : dv l399 = 10 ^ 399 := by decide +kernel
theorem int399 : intText? (Str.ofString "1" ++ S (List.replicate 399 48)) = some (((10 ^ 399 : Nat)) : Int) ∧ (Str.ofString "1" ++ S (List.replicate 399 48)).length ≤ 640 := by
  have e : Str.ofString "1" ++ S (List.replicate 399 48) = S l399 := by rw [s49, S_cat]
  rw [e, ← dv399]
  exact ⟨int_S (by decide +kernel) (by decide) (by decide +kernel), by rw [S_len]; decide +kernel⟩
theorem str_len0 : (Str.ofString "1").length + (S (List.replicate 399 48)).length ≤ sizeLine := by
  have e1 := S_len (List.replicate 399 48)
  rw [List.length_replicate] at e1
  rw [e1, show (Str.ofString "1").length = 1 by decide +kernel, sizeLine_eq]
  decide
section
variable {P : Program} {w : World} {K : PySem.W.Frag} {mg : Str → Option Value} {base : Heap} {fNx aCh aLe : Addr} {fdNx dCh dLe : FuncData}
abbrev nVa : List Str := ["draw", "tops", "above", "below", "found"]
theorem scVa : FnScope nVa ["draw"] (defScope sVal) := ⟨rfl, rfl, rfl, by decide +kernel, rfl, by decide +kernel, by decide +kernel⟩
theorem ok_val {f : Addr} {fd : FuncData} (F : Fun K "_law_value" "_law_value" sVal f fd) (T : TxtA mg) (TI : TxtI K mg fNx) (GN : FnG P w K mg base 2 fNx fdNx ["draw", "bound"] spNext) (bN : Binds K fdNx ["draw", "bound"] []) (cC : Cal P w K mg base "_law_choose" aCh dCh 3 ["draw", "some"] (bx (spCho K))) (cE : Cal P w K mg base "_law_least" aLe dLe 1 ["above", "below"] (bx spLea)) :
    FnG P w K mg base 4 f fd ["draw"] spVal := by
  refine okG F scVa (fun vs H Q E h => ?_) (fun cdv A outer s H vs Q E hr hgd h => ?_)
  · obtain ⟨p, c, n, rfl, _⟩ := h
    rfl
  · obtain ⟨p, c, n, rfl, D, hn, kq⟩ := h
    refine ⟨_, pss_cons (ps_set (i := 1) scVa.nd rfl (Or.inl rfl) (pe_lst (pa_cons pe_int (pa_cons pe_int (pa_cons (pe_op op_pow pe_int pe_int) (pa_cons (pe_op op_pow pe_int pe_int) (pa_cons (pe_op op_pow pe_int pe_int) (pa_cons (pe_op op_pow pe_int pe_int) pa_nil))))))))
      (pss_cons (ps_par (by rfl) scVa.nd (i := 2) (j := 3) rfl rfl (by decide) rfl rfl (pa_cons (pe_callG (E := fun _ => E0) GN (hr.mono (by decide)) hgd rfl TI.gNx TI.kNx bN .nil pass0G (pa_cons (pv 0) (pa_cons (pe_cal cC (hr.mono (by decide)) hgd (pa_cons (pv 0) (pa_cons (pv 1) pa_nil))) pa_nil))) (pa_cons (pe_op op_add pe_int (pe_callG (E := fun _ => E0) GN (hr.mono (by decide)) hgd rfl TI.gNx TI.kNx bN .nil pass0G (pa_cons (pv 0) (pa_cons (pe_cal cC (hr.mono (by decide)) hgd (pa_cons (pv 0) (pa_cons (pv 1) pa_nil))) pa_nil)))) pa_nil)) (by rfl))
      (C8.pss_cut (ps_set (i := 2) scVa.nd rfl (Or.inl rfl) (pe_ifExp (pt_cmpR op_eq (pe_callG (E := fun _ => E0) GN (hr.mono (by decide)) hgd rfl TI.gNx TI.kNx bN .nil pass0G (pa_cons (pv 0) (pa_cons pe_int pa_nil))) pe_int (nomark _)) (pe_op op_add (pv 2) (pe_callTy call_int_str (by rfl) T.int (by decide +kernel) (pa_cons (pe_op op_add_str pe_str (pe_op op_mulS pe_str pe_int)) pa_nil))) (pv 2)))
      (C8.pss_cut (ps_set (i := 3) scVa.nd rfl (Or.inl rfl) (pe_ifExp (pt_cmpR op_eq (pe_callG (E := fun _ => E0) GN (hr.mono (by decide)) hgd rfl TI.gNx TI.kNx bN .nil pass0G (pa_cons (pv 0) (pa_cons pe_int pa_nil))) pe_int (nomark _)) (pe_op op_add (pv 3) (pe_callTy call_int_str (by rfl) T.int (by decide +kernel) (pa_cons (pe_op op_add_str pe_str (pe_op op_mulS pe_str pe_int)) pa_nil))) (pv 3)))
      (C8.pss_cut (ps_set (i := 3) scVa.nd rfl (Or.inl rfl) (pe_ifExp (pt_cmpR op_eq (pe_callG (E := fun _ => E0) GN (hr.mono (by decide)) hgd rfl TI.gNx TI.kNx bN .nil pass0G (pa_cons (pv 0) (pa_cons pe_int pa_nil))) pe_int (nomark _)) pe_int (pv 3)))
      (pss_cons (ps_set (i := 4) scVa.nd rfl (Or.inl rfl) (pe_cal cE (hr.mono (by decide)) hgd (pa_cons (pv 2) (pa_cons (pv 3) pa_nil))))
      (pss_one (ps_ret (pe_ifExp (pt_cmpR op_eq (pe_callG (E := fun _ => E0) GN (hr.mono (by decide)) hgd rfl TI.gNx TI.kNx bN .nil pass0G (pa_cons (pv 0) (pa_cons pe_int pa_nil))) pe_int (nomark _)) (pe_tup (pa_cons (pe_op op_sub pe_int (pe_ix ix_tup (pv 4) pe_int (fun _ _ => rfl))) (pa_cons (pe_ix ix_tup (pv 4) pe_int (fun _ _ => rfl)) pa_nil))) (pv 4))))))))), ?_⟩
    refine ⟨_, _, rfl, rfl, ⟨by decide, by decide, by decide⟩, _, _, rfl, rfl, ⟨by decide, by decide, by decide⟩, _, _, rfl, rfl, ⟨by decide, by decide, by decide⟩, _, _, rfl, rfl, ⟨by decide, by decide, by decide⟩, by rw [sizeLine_eq]; show 6 ≤ 16777216; decide, fun l nl => ?_⟩
    generalize hG : upd H l _ = H1
    obtain ⟨s1, h1⟩ := same_of nl hG
    clear hG nl
    have D1 := D.same s1
    have tops : ∀ {x : V} {xs : List V}, xs = [V.int 9, V.int 100, V.int (10 ^ 6), V.int (10 ^ 18), V.int (10 ^ 17), V.int (10 ^ 9)] → x ∈ xs → ∃ b : Int, x = .int b ∧ 0 < b ∧ b ≤ 10 ^ 18 := fun {x xs} e hx => by
      subst e
      simp only [List.mem_cons, List.not_mem_nil, or_false] at hx
      rcases hx with rfl | rfl | rfl | rfl | rfl | rfl <;> exact ⟨_, rfl, by decide, by decide⟩
    refine ⟨_, rfl, _, rfl, _, rfl, cho_ok D1 (by omega) (.of h1) (by decide) (by decide) fun x H2 hx D2 K2 => ?_⟩
    obtain ⟨b1, rfl, b10, b11⟩ := tops rfl hx
    refine ⟨p, c, _, b1, rfl, D2, by omega, b10, by omega, fun a H3 a0 a1 D3 K3 _ => ?_⟩
    have h3 : SqL K H3 l _ := sqL_kp D2 K3 (sqL_kp D1 K2 (.of h1))
    refine ⟨_, rfl, _, rfl, _, rfl, cho_ok D3 (by omega) h3 (by decide) (by decide) fun x H4 hx D4 K4 => ?_⟩
    obtain ⟨b2, rfl, b20, b21⟩ := tops rfl hx
    refine ⟨p, c, _, b2, rfl, D4, by omega, b20, by omega, fun b H5 c0 c1 D5 K5 _ => ?_⟩
    refine ⟨_, _, rfl, rfl, _, _, rfl, ?_⟩
    have KK : Kp p H H5 := ((kp_of s1).trans K2).trans (K3.trans (K4.trans K5))
    clear D1 D2 D3 D4 K2 K3 K4 K5 h3 h1 s1 hx
    generalize hB : (10 : Int) ^ 399 = B
    have hBn : (((10 ^ 399 : Nat)) : Int) = B := by rw [← hB, Int.natCast_pow]; rfl
    have hB0 : (10 : Int) ^ 18 < B := by rw [← hB]; decide +kernel
    have i399 := int399
    rw [hBn] at i399
    refine ⟨fun σ' H' => ∃ a : Int, σ' = [some (.ref p), some (.ref l), some (.int a), some (.int (1 + b)), none] ∧ 0 ≤ a ∧ a < 2 * B ∧ DrawAt H' p c (n + 5) ∧ Kp p H H', ?_, ?_⟩
    · refine ⟨_, rfl, p, c, _, _, rfl, D5, by omega, by decide, by decide, fun r H6 _ _ D6 K6 _ => ?_⟩
      refine ⟨rfl, _, rfl, ite2 (fun _ => ?_) (fun _ => ?_)⟩
      · refine ⟨_, rfl, 48, 399, by rw [s48], rfl, by decide, by decide, _, _, rfl, rfl, str_len0, _, _, rfl, i399.1, i399.2, _, _, rfl, rfl, _, rfl, by omega, by omega, D6, KK.trans K6⟩
      · exact ⟨_, rfl, _, rfl, by omega, by omega, D6, KK.trans K6⟩
    · rintro σ' H' ⟨a', rfl, a0', a1', D6, K6⟩
      refine ⟨fun σ' H' => ∃ b : Int, σ' = [some (.ref p), some (.ref l), some (.int a'), some (.int b), none] ∧ 1 ≤ b ∧ b ≤ 2 * B ∧ DrawAt H' p c (n + 6) ∧ Kp p H H', ?_, ?_⟩
      · refine ⟨_, rfl, p, c, _, _, rfl, D6, by omega, by decide, by decide, fun r H7 _ _ D7 K7 _ => ?_⟩
        refine ⟨rfl, _, rfl, ite2 (fun _ => ?_) (fun _ => ?_)⟩
        · refine ⟨_, rfl, 48, 399, by rw [s48], rfl, by decide, by decide, _, _, rfl, rfl, str_len0, _, _, rfl, i399.1, i399.2, _, _, rfl, rfl, _, rfl, by omega, by omega, D7, K6.trans K7⟩
        · exact ⟨_, rfl, _, rfl, by omega, by omega, D7, K6.trans K7⟩
      · rintro σ' H' ⟨b', rfl, b0', b1', D7, K7⟩
        refine ⟨fun σ' H' => ∃ b : Int, σ' = [some (.ref p), some (.ref l), some (.int a'), some (.int b), none] ∧ 1 ≤ b ∧ b ≤ 2 * B ∧ DrawAt H' p c (n + 7) ∧ Kp p H H', ?_, ?_⟩
        · refine ⟨_, rfl, p, c, _, _, rfl, D7, by omega, by decide, by decide, fun r H8 _ _ D8 K8 _ => ?_⟩
          refine ⟨rfl, _, rfl, ite2 (fun _ => ?_) (fun _ => ?_)⟩
          · exact ⟨_, rfl, by omega, by omega, D8, K7.trans K8⟩
          · exact ⟨_, rfl, _, rfl, by omega, by omega, D8, K7.trans K8⟩
        · rintro σ' H' ⟨b'', rfl, b0'', b1'', D8, K8⟩
          have big : ∀ {x : Int}, 0 ≤ x → x ≤ 2 * B → x.natAbs < 10 ^ 400 := fun {x} h0 h => by
            have e : ((10 ^ 400 : Nat) : Int) = 10 * B := by rw [← hBn, Nat.pow_succ]; omega
            omega
          have lt2 : (10 : Nat) ^ 400 < 2 ^ 1500 := by decide +kernel
          have za := big a0' (by omega)
          have zb := big (show 0 ≤ b'' by omega) b1''
          refine ⟨_, rfl, _, rfl, lea_ok b0'' (by omega) (by omega) fun t H9 s9 h9 => ?_⟩
          have NS := nrm_spec (a := a') (show b'' ≠ 0 by omega)
          have la := NS.la
          have lb := NS.lb
          have D9 := D8.same s9
          generalize (nrm a' b'').1 = x at *
          generalize (nrm a' b'').2 = y at *
          refine ⟨_, rfl, p, c, _, _, rfl, D9, by omega, by decide, by decide, fun r H10 _ _ D10 K10 _ => ?_⟩
          have h10 : H10 t = some (.tup [.int x, .int y]) := K10 _ _ h9 (by
            obtain ⟨_, _, _, _, hp, _⟩ := D9
            exact ne_of h9 hp (by intro z; cases z))
          have KA := (K8.trans (kp_of s9)).trans K10
          refine ⟨rfl, _, rfl, ite2 (fun _ => ?_) (fun _ => ?_)⟩
          · refine ⟨_, rfl, t, _, _, _, rfl, rfl, .of h10, rfl, _, _, rfl, rfl, _, rfl, t, _, _, _, rfl, rfl, .of h10, rfl, by rw [sizeLine_eq]; show 2 ≤ 16777216; decide, fun t2 nt => ?_⟩
            generalize hG : upd H10 t2 _ = H11
            obtain ⟨s11, h11⟩ := same_of nt hG
            clear hG nt
            exact kq t2 (0 - x) y H11 ((D10.same s11).mono (by omega)) (KA.trans (kp_of s11)) h11 ⟨NS.num.1, by have := NS.num.2; rw [show (0 - x).natAbs = x.natAbs by omega]; exact this⟩ (by omega) (by omega)
          · exact ⟨_, rfl, kq t x y H10 (D10.mono (by omega)) KA h10 NS.num (by omega) (by omega)⟩
end
end K5
set_option Elab.async false
set_option linter.all false
set_option maxRecDepth 100000
set_option maxHeartbeats 4000000
set_option exponentiation.threshold 100000
namespace K5
open PySem PySem.Spec PyProof.Rows L2 RmX Rm Mth SX
def spBen : Sp := fun vs H Q _ => ∃ (p c : Addr) (n : Nat) (l : List Nat), vs = [.ref p, .str (S l)] ∧ DrawAt H p c n ∧ n < 2 ^ 28 ∧ As l ∧ l.length ≤ 5000 ∧
  ∀ (m : List Nat) (H' : Hp), DrawAt H' p c (n + 3) → Kp p H H' → As m → m.length ≤ l.length + 2 → Q (.str (S m)) H'
theorem ben_ok {p c : Addr} {n : Nat} {l : List Nat} {H : Hp} {Q : VK} {E : XK} (D : DrawAt H p c n) (hn : n < 2 ^ 28) (h1 : As l) (h2 : l.length ≤ 5000) (h : ∀ (m : List Nat) (H' : Hp), DrawAt H' p c (n + 3) → Kp p H H' → As m → m.length ≤ l.length + 2 → Q (.str (S m)) H') : Bx (spBen [.ref p, .str (S l)] H Q E) := ⟨⟨p, c, n, l, rfl, D, hn, h1, h2, h⟩⟩
theorem As.take {l : List Nat} (h : As l) (k : Nat) : As (l.take k) := fun c hc => h c (List.mem_of_mem_take hc)
theorem As.drop {l : List Nat} (h : As l) (k : Nat) : As (l.drop k) := fun c hc => h c (List.mem_of_mem_drop hc)
theorem As.app {l m : List Nat} (h : As l) (h2 : As m) : As (l ++ m) := fun c hc => (List.mem_append.mp hc).elim (h c) (h2 c)
theorem As.rev {l : List Nat} (h : As l) : As l.reverse := fun c hc => h c (List.mem_reverse.mp hc)
abbrev sgL : List Nat := [48, 49, 50, 51, 52, 53, 54, 55, 56, 57, 45, 43, 47, 32, 46, 97, 101, 95]
theorem sSg : (Str.ofString "0123456789-+/ .ae_") = S sgL := by decide +kernel
theorem sNl : (Str.ofString "\n") = S [10] := by decide +kernel
theorem sSS : (Str.ofString "//") = S [47, 47] := by decide +kernel
theorem sS1 : (Str.ofString "/1") = S [47, 49] := by decide +kernel
theorem sS2 : (Str.ofString "/2") = S [47, 50] := by decide +kernel
theorem s00 : (Str.ofString "00") = S [48, 48] := by decide +kernel
theorem sSp : (Str.ofString " ") = S [32] := by decide +kernel
def Good (n : Nat) (x : V) : Prop := ∃ m : List Nat, x = .str (S m) ∧ As m ∧ m.length ≤ n
theorem as_of {l : List Nat} (h : l.all (· < 128) = true) : As l := fun c hc => of_decide_eq_true (List.all_eq_true.mp h c hc)
theorem good_signs {x : V} (h : x ∈ (sgL.map fun c => V.str (S [c])) ++ [V.str (S [10]), V.str (S [47, 47]), V.str (S [47, 49]), V.str (S [48, 48])]) : Good 2 x := by
  rcases List.mem_append.mp h with h | h
  · obtain ⟨c, hc, rfl⟩ := List.mem_map.mp h
    have : As sgL := as_of (by decide)
    exact ⟨[c], rfl, fun d hd => by rw [List.mem_singleton.mp hd]; exact this c hc, by simp⟩
  · simp only [List.mem_cons, List.not_mem_nil, or_false] at h
    rcases h with rfl | rfl | rfl | rfl <;> exact ⟨_, rfl, as_of (by decide), by decide⟩
theorem good_all {n : Nat} {xs : List V} (h : ∀ x ∈ xs, Good n x) {x : V} (hx : x ∈ xs) : Good n x := h x hx
section
variable {P : Program} {w : World} {K : PySem.W.Frag} {mg : Str → Option Value} {base : Heap} {fNx aCh : Addr} {fdNx dCh : FuncData}
abbrev nBe : List Str := ["draw", "page", "signs", "at", "sign", "some"]
theorem scBe : FnScope nBe ["draw", "page"] (defScope sBen) := ⟨rfl, rfl, rfl, by decide +kernel, rfl, by decide +kernel, by decide +kernel⟩
theorem ok_ben {f : Addr} {fd : FuncData} (F : Fun K "_law_bent" "_law_bent" sBen f fd) (T : TxtA mg) (TI : TxtI K mg fNx) (GN : FnG P w K mg base 2 fNx fdNx ["draw", "bound"] spNext) (bN : Binds K fdNx ["draw", "bound"] []) (cC : Cal P w K mg base "_law_choose" aCh dCh 3 ["draw", "some"] (bx (spCho K))) :
    FnG P w K mg base 4 f fd ["draw", "page"] spBen := by
  refine okG F scBe (fun vs H Q E h => ?_) (fun cdv A outer s H vs Q E hr hgd h => ?_)
  · obtain ⟨p, c, n, l, rfl, _⟩ := h
    rfl
  · obtain ⟨p, c, n, l, rfl, D, hn, as, hl, kq⟩ := h
    refine ⟨_, pss_cons (ps_set (i := 2) scBe.nd rfl (Or.inl rfl) (pe_op op_cat (pe_callTy (call_listS rfl) (by rfl) T.list (by decide +kernel) (pa_cons pe_str pa_nil)) (pe_lst (pa_cons pe_str (pa_cons pe_str (pa_cons pe_str (pa_cons pe_str pa_nil)))))))
      (pss_cons (ps_par (by rfl) scBe.nd (i := 3) (j := 4) rfl rfl (by decide) rfl rfl (pa_cons (pe_callG (E := fun _ => E0) GN (hr.mono (by decide)) hgd rfl TI.gNx TI.kNx bN .nil pass0G (pa_cons (pv 0) (pa_cons (pe_op op_add (pe_callB call_len_str (by rfl) T.len PySem.boot_len (pa_cons (pv 1) pa_nil)) pe_int) pa_nil))) (pa_cons (pe_cal cC hr hgd (pa_cons (pv 0) (pa_cons (pv 2) pa_nil))) pa_nil)) (by rfl))
      (pss_cons (ps_set (i := 5) scBe.nd rfl (Or.inl rfl) (pe_lst (pa_cons (pe_op op_add_str (pe_op op_add_str (pe_slice C8.sl_txt (pv 1) po_none (po_some (pv 3))) (pv 4)) (pe_slice C8.sl_txt (pv 1) (po_some (pv 3)) po_none)) (pa_cons (pe_op op_add_str (pe_op op_add_str (pe_slice C8.sl_txt (pv 1) po_none (po_some (pv 3))) (pv 4)) (pe_slice C8.sl_txt (pv 1) (po_some (pe_op op_add (pv 3) pe_int)) po_none)) (pa_cons (pe_op op_add_str (pe_slice C8.sl_txt (pv 1) po_none (po_some (pv 3))) (pe_slice C8.sl_txt (pv 1) (po_some (pe_op op_add (pv 3) pe_int)) po_none)) (pa_cons (pe_revS (pv 1)) pa_nil))))))
      (pss_cons (ps_set (i := 5) scBe.nd rfl (Or.inl rfl) (pe_op op_cat (pv 5) (pe_lst (pa_cons (pe_op op_add_str pe_str (pv 1)) (pa_cons (pe_op op_add_str pe_str (pv 1)) (pa_cons (pe_op op_add_str (pv 1) pe_str) (pa_cons (pe_op op_add_str (pv 1) pe_str) pa_nil)))))))
      (pss_one (ps_ret (pe_cal cC hr hgd (pa_cons (pv 0) (pa_cons (pe_op op_cat (pv 5) (pe_lst (pa_cons (pe_slice C8.sl_txt (pv 1) po_none (po_some (pv 3))) (pa_cons (pe_slice C8.sl_txt (pv 1) (po_some (pv 3)) po_none) (pa_cons (pe_op op_add_str pe_str (pv 1)) pa_nil))))) pa_nil)))))))), ?_⟩
    have hz : (S l).length ≤ sizeLine := by have := S_len l; rw [sizeLine_eq]; omega
    have zl : (S l).length = l.length := S_len l
    refine ⟨sgL, by rw [← sSg], by decide, fun l1 n1 => ?_⟩
    generalize hG : upd H l1 _ = H1
    obtain ⟨s1, h1⟩ := same_of n1 hG
    clear hG n1
    refine ⟨by rw [sizeLine_eq]; show 4 ≤ 16777216; decide, fun l2 n2 => ?_⟩
    generalize hG : upd H1 l2 _ = H2
    obtain ⟨s2, h2⟩ := same_of n2 hG
    clear hG n2
    refine ⟨l1, l2, _, _, rfl, rfl, s2 _ _ h1, h2, by rw [sizeLine_eq]; show 22 ≤ 16777216; decide, fun l3 n3 => ?_⟩
    generalize hG : upd H2 l3 _ = H3
    obtain ⟨s3, h3⟩ := same_of n3 hG
    clear hG n3
    rw [sNl, sSS, sS1, s00] at h3
    have S3 := same_tr s1 (same_tr s2 s3)
    have D3 := D.same S3
    refine ⟨_, rfl, _, rfl, S l, rfl, hz, _, _, rfl, rfl, p, c, n, _, rfl, D3, by omega, by omega, by rw [zl]; omega, fun r H4 r0 r1 D4 K4 _ => ?_⟩
    have h4 : SqL K H4 l3 _ := sqL_kp D3 K4 (.of h3)
    refine ⟨_, rfl, _, rfl, cho_ok D4 (by omega) h4 (by decide) (by decide) fun x H5 hx D5 K5 => ?_⟩
    obtain ⟨sg, rfl, asg, lsg⟩ := good_signs hx
    refine ⟨_, _, rfl, ?_⟩
    obtain ⟨j, rfl⟩ : ∃ j : Nat, r = (j : Int) := ⟨r.toNat, by omega⟩
    rw [zl] at r1
    have KK : Kp p H H5 := ((kp_of S3).trans K4).trans K5
    clear D3 D4 K4 K5 h4 h3 h2 h1 s1 s2 s3 S3 hx
    have tk : Txt.slice (S l) none (some (j : Int)) = S (l.take j) := by rw [slice_to (by omega), Int.toNat_natCast]
    have dr : Txt.slice (S l) (some (j : Int)) none = S (l.drop j) := by rw [slice_from (by omega), Int.toNat_natCast]
    have dr1 : Txt.slice (S l) (some ((j : Int) + 1)) none = S (l.drop (j + 1)) := by rw [slice_from (by omega), show ((j : Int) + 1).toNat = j + 1 by omega]
    have ltk : (l.take j).length ≤ l.length := by rw [List.length_take]; omega
    have ldr : (l.drop j).length ≤ l.length := by rw [List.length_drop]; omega
    have ldr1 : (l.drop (j + 1)).length ≤ l.length := by rw [List.length_drop]; omega
    have sum1 : (l.take j).length + (l.drop j).length = l.length := by rw [List.length_take, List.length_drop]; omega
    have sum2 : (l.take j).length + (l.drop (j + 1)).length ≤ l.length := by rw [List.length_take, List.length_drop]; omega
    have sz : ∀ {a b : List Nat}, a.length + b.length ≤ 20000 → (S a).length + (S b).length ≤ sizeLine := fun {a b} h => by
      have e1 := S_len a
      have e2 := S_len b
      rw [sizeLine_eq]; omega
    refine ⟨_, rfl, _, rfl, _, rfl, S l, rfl, hz, ?_⟩
    rw [tk]
    refine ⟨_, rfl, _, _, rfl, rfl, sz (by omega), ?_⟩
    rw [S_cat]
    refine ⟨_, rfl, _, rfl, _, rfl, S l, rfl, hz, ?_⟩
    rw [dr]
    refine ⟨_, _, rfl, rfl, sz (by rw [List.length_append]; omega), ?_⟩
    rw [S_cat]
    refine ⟨_, rfl, _, rfl, _, rfl, S l, rfl, hz, ?_⟩
    rw [tk]
    refine ⟨_, rfl, _, _, rfl, rfl, sz (by omega), ?_⟩
    rw [S_cat]
    refine ⟨_, rfl, _, rfl, _, _, rfl, rfl, _, rfl, S l, rfl, hz, ?_⟩
    rw [dr1]
    refine ⟨_, _, rfl, rfl, sz (by rw [List.length_append]; omega), ?_⟩
    rw [S_cat]
    refine ⟨_, rfl, _, rfl, _, rfl, S l, rfl, hz, ?_⟩
    rw [tk]
    refine ⟨_, rfl, _, rfl, _, _, rfl, rfl, _, rfl, S l, rfl, hz, ?_⟩
    rw [dr1]
    refine ⟨_, _, rfl, rfl, sz (by omega), ?_⟩
    rw [S_cat]
    refine ⟨_, rfl, l, rfl, by omega, ?_⟩
    refine ⟨by rw [sizeLine_eq]; show 4 ≤ 16777216; decide, fun q1 n1 => ?_⟩
    generalize hG : upd H5 q1 _ = H6
    obtain ⟨s6, h6⟩ := same_of n1 hG
    clear hG n1
    have D6 := D5.same s6
    refine ⟨_, rfl, _, rfl, _, _, rfl, rfl, sz (a := [45]) (by simp; omega), ?_⟩
    rw [s45, S_cat]
    refine ⟨_, rfl, _, _, rfl, rfl, sz (a := [48]) (by simp; omega), ?_⟩
    rw [s48, S_cat]
    refine ⟨_, rfl, _, _, rfl, rfl, sz (b := [47, 49]) (by simp; omega), ?_⟩
    rw [sS1, S_cat]
    refine ⟨_, rfl, _, _, rfl, rfl, sz (b := [47, 50]) (by simp; omega), ?_⟩
    rw [sS2, S_cat]
    refine ⟨by rw [sizeLine_eq]; show 4 ≤ 16777216; decide, fun q2 n2 => ?_⟩
    generalize hG : upd H6 q2 _ = H7
    obtain ⟨s7, h7⟩ := same_of n2 hG
    clear hG n2
    refine ⟨q1, q2, _, _, rfl, rfl, s7 _ _ h6, h7, by rw [sizeLine_eq]; show 8 ≤ 16777216; decide, fun q3 n3 => ?_⟩
    generalize hG : upd H7 q3 _ = H8
    obtain ⟨s8, h8⟩ := same_of n3 hG
    clear hG n3
    refine ⟨_, rfl, _, rfl, _, rfl, _, rfl, _, rfl, S l, rfl, hz, ?_⟩
    rw [tk]
    refine ⟨_, rfl, _, rfl, _, rfl, S l, rfl, hz, ?_⟩
    rw [dr]
    refine ⟨_, rfl, _, _, rfl, rfl, sz (a := [32]) (by simp; omega), ?_⟩
    rw [sSp, S_cat]
    refine ⟨by rw [sizeLine_eq]; show 3 ≤ 16777216; decide, fun q4 n4 => ?_⟩
    generalize hG : upd H8 q4 _ = H9
    obtain ⟨s9, h9⟩ := same_of n4 hG
    clear hG n4
    refine ⟨q3, q4, _, _, rfl, rfl, s9 _ _ h8, h9, by rw [sizeLine_eq]; show 11 ≤ 16777216; decide, fun q5 n5 => ?_⟩
    generalize hG : upd H9 q5 _ = HA
    obtain ⟨sA, hA⟩ := same_of n5 hG
    clear hG n5
    have SA := same_tr s6 (same_tr s7 (same_tr s8 (same_tr s9 sA)))
    have DA := D5.same SA
    refine cho_ok DA (by omega) (.of hA) (by simp) (by simp) fun x HB hx DB KB => ?_
    have g : Good (l.length + 2) x := by
      simp only [List.cons_append, List.nil_append, List.mem_cons, List.not_mem_nil, or_false] at hx
      rcases hx with rfl | rfl | rfl | rfl | rfl | rfl | rfl | rfl | rfl | rfl | rfl
      · exact ⟨_, rfl, ((as.take j).app asg).app (as.drop j), by rw [List.length_append, List.length_append]; omega⟩
      · exact ⟨_, rfl, ((as.take j).app asg).app (as.drop (j + 1)), by rw [List.length_append, List.length_append]; omega⟩
      · exact ⟨_, rfl, (as.take j).app (as.drop (j + 1)), by rw [List.length_append]; omega⟩
      · exact ⟨_, rfl, as.rev, by rw [List.length_reverse]; omega⟩
      · exact ⟨_, rfl, (as_of (l := [45]) (by decide)).app as, by rw [List.length_cons]; omega⟩
      · exact ⟨_, rfl, (as_of (l := [48]) (by decide)).app as, by rw [List.length_cons]; omega⟩
      · exact ⟨_, rfl, as.app (as_of (l := [47, 49]) (by decide)), by rw [List.length_append]; simp⟩
      · exact ⟨_, rfl, as.app (as_of (l := [47, 50]) (by decide)), by rw [List.length_append]; simp⟩
      · exact ⟨_, rfl, as.take j, by omega⟩
      · exact ⟨_, rfl, as.drop j, by omega⟩
      · exact ⟨_, rfl, (as_of (l := [32]) (by decide)).app as, by rw [List.length_cons]; omega⟩
    obtain ⟨m, rfl, am, lm⟩ := g
    exact kq m HB (DB.mono (by omega)) ((KK.trans (kp_of SA)).trans KB) am lm
end
end K5
set_option Elab.async false
set_option linter.all false
set_option maxRecDepth 100000
set_option maxHeartbeats 4000000
set_option exponentiation.threshold 100000
namespace K5
open PySem PySem.Spec PyProof.Rows L2 RmX Rm Mth SX LamX
abbrev sJud : Stmt := top 32
/-- a def of the text, its code object told -/
structure FunAt (K : PySem.W.Frag) (x : Str) (st : Stmt) (f : Addr) (fd : FuncData) (c : Addr) : Prop where
  ex : ∃ (oc : Value) (od : Option Addr) (kV doc pm : Value) (an : Option Addr) (ct : Value) (osl : Array (Option Value)),
    fd = PySem.W.fnOf x x (defArgs st) (defBody st) (defScope st) .none kV doc pm an (.ref c) ct ∧ K.lookup f = some ⟨oc, od, .func fd, osl⟩ ∧ PySem.W.codeIn K (.ref c) x = true
theorem okGC {P : Program} {w : World} {K : PySem.W.Frag} {mg : Str → Option Value} {base : Heap} {x : Str} {st : Stmt} {f c : Addr} {fd : FuncData} {N ps : List Str} {k : Nat} {sp : Sp} (F : FunAt K x st f fd c) (S : FnScope N ps (defScope st)) (len : ∀ vs H Q E, sp vs H Q E → vs.length = ps.length)
    (hbody : ∀ (A : Around) (outer : List Env) (s : Shared) (H : Hp) (vs : List V) (Q : VK) (E : XK), Room k (A.deeper (envOfC x (defScope st) s.heap.objs.size f (.ref c))) → A.guards = some [] → sp vs H Q E →
      ∃ t, PSs (cxOf (L2.CX P w) P w K mg base N x (defScope st) f (.ref c) A outer s H E) (defBody st) t ∧ t { nx := fun _ H' => Q .non H', rt := Q } (start N vs) H) : FnG P w K mg base (k + 1) f fd ps sp := by
  obtain ⟨oc, od, kV, doc, pm, an, ct, osl, rfl, lk, hcd⟩ := F.ex
  exact fn_ofG lk hcd S len fun A outer s H vs Q E hr hg hsp => hbody A outer s H vs Q E hr hg hsp
def toldD (d : PyData) : PyData := match inD d with
  | some (a, b) => .list [.tuple [.int a, .int b]]
  | none => .tuple [.str (Str.ofString "text"), .int 0]
def dueD (l : List Nat) : PyData := match lawOf l with
  | some (a, b) => .list [.tuple [.int a, .int b]]
  | none => .tuple [.str (Str.ofString "text"), .int 0]
theorem told_due (l : List Nat) : toldD (.str (S l)) = dueD l := by
  unfold toldD dueD
  have e : inD (.str (S l)) = lawOf l := reads l
  rw [e]
theorem extN_same {H H' : Hp} (s : Same H H') : ExtN H H' := fun b o e _ => s b o e
theorem ext_seqL {K : PySem.W.Frag} {H H' : Hp} (e : ExtN H H') {a : Addr} {xs : List V} (h : SqL K H a xs) : SqL K H' a xs := by
  rcases h with (h | ⟨o, h⟩) | h
  · exact .inl (.inl (e _ _ h (fun _ z => by cases z)))
  · exact .inl (.inr ⟨o, e _ _ h (fun _ z => by cases z)⟩)
  · exact .inr h
theorem ext_seqT {K : PySem.W.Frag} {H H' : Hp} (e : ExtN H H') {a : Addr} {xs : List V} (h : SqT K H a xs) : SqT K H' a xs := by
  rcases h with (h | ⟨o, h⟩) | h
  · exact .inl (.inl (e _ _ h (fun _ z => by cases z)))
  · exact .inl (.inr ⟨o, e _ _ h (fun _ z => by cases z)⟩)
  · exact .inr h
theorem dp_ext {K : PySem.W.Frag} {H H' : Hp} (s : ExtN H H') : ∀ {d : PyData} {x : V}, Dp K H x d → Dp K H' x d := by
  intro d x h
  exact Dp.rec (motive_1 := fun x d _ => Dp K H' x d) (motive_2 := fun xs ds _ => DpAll K H' xs ds) .non .bl .int .str (fun h1 _ ih => .lst (ext_seqL s h1) ih) (fun h1 _ ih => .tup (ext_seqT s h1) ih) .nil (fun _ _ i1 i2 => .cons i1 i2) h
theorem tabs_lst {T : List (Addr × Str)} {H : Hp} {a : Addr} {xs : List V} {o : HO} (h : H a = some (.lst xs)) (t : Tabs T H) : Tabs T (upd H a o) := by
  intro p hp
  obtain ⟨ps, h1, h2, h3⟩ := t p hp
  have n1 : p.1 ≠ a := ne_of h1 h (by intro z; cases z)
  refine ⟨ps, by rw [upd_ne n1]; exact h1, h2, fun pos cv hc => ?_⟩
  obtain ⟨c, e1, e2⟩ := h3 pos cv hc
  have n2 : c ≠ a := ne_of e2 h (by unfold CodeO; intro z; cases z)
  exact ⟨c, e1, by rw [upd_ne n2]; exact e2⟩
theorem ext_draw {H H' : Hp} {p c : Addr} {n : Nat} (e : ExtN H H') (d : DrawAt H p c n) : DrawAt H' p c n := by
  obtain ⟨a, l, u, ns, h1, h2, h3⟩ := d
  exact ⟨a, l, u, ns, e _ _ h1 (fun _ z => by cases z), e _ _ h2 (fun _ z => by cases z), h3⟩
/-- data of new objects alone -/
def NewDp (K : PySem.W.Frag) (H H2 : Hp) (x : V) (d : PyData) : Prop := ∀ H3 : Hp, (∀ b o, H b = none → (∀ ps, o ≠ .tbl ps) → H2 b = some o → H3 b = some o) → Dp K H3 x d
/-- what the law is told of a parse -/
theorem told_par {K : PySem.W.Frag} {CT : Addr} {x : V} {d : PyData} {H : Hp} {Q : VK} (hd : Dp K H x d) (ft : Fit d) (hl : ∀ t, d = .str t → t.length ≤ 10000) (fin : ∀ r H2, Same H H2 → NewDp K H H2 (.ref r) (toldD d) → Q (.ref r) H2) :
    TTold CT (fun E H' Q' => spPar K CT [x] H' Q' E) H Q := by
  intro HB sB
  refine ⟨x, d, rfl, dp_same sB hd, ft, hl, fun a b e p H' s' np h' r H2 s2 nr h2 => ?_, fun e H' s' dx hdx => ⟨rfl, dx, .int 0, rfl, upd_same, fun t H2 s2 nt h2 => ?_⟩⟩
  · refine fin r H2 (same_tr sB (same_tr s' s2)) fun H3 k => ?_
    unfold toldD
    rw [e]
    exact .lst (.of (k _ _ (fresh_same sB (fresh_same s' nr)) (fun _ z => by cases z) h2)) (.cons (dp_mk (.of (k _ _ (fresh_same sB np) (fun _ z => by cases z) (s2 _ _ h')))) .nil)
  · refine fin t H2 (same_tr sB (same_tr s' (same_tr (same_new hdx) s2))) fun H3 k => ?_
    unfold toldD
    rw [e]
    exact .tup (.of (k _ _ (fresh_same sB (fresh_same s' (fresh_same (same_new hdx) nt))) (fun _ z => by cases z) h2)) (.cons (.str _) (.cons (.int 0) .nil))
theorem law_small {l : List Nat} {a b : Int} (h : lawOf l = some (a, b)) : a.natAbs < 2 ^ 1400 ∧ b.natAbs < 2 ^ 1400 := by
  rw [← reads] at h
  unfold numIn at h
  split at h
  · rename_i c
    split at h
    · injection h with h
      have h0 : ((dv (cut (bodyL l)).2 : Nat) : Int) ≠ 0 := by have := c.2.2; omega
      have NS := nrm_spec (a := sgn l (dv (cut (bodyL l)).1)) h0
      rw [h] at NS
      have la := NS.la
      have lb := NS.lb
      rw [sgn_abs] at la
      have b1 := dg_lt c.1
      have b2 := dg_lt c.2.1
      exact ⟨by omega, by omega⟩
    · cases h
  · cases h
theorem fit_due2 (l : List Nat) : Fit (.list [dueD l, dueD l]) := by
  unfold dueD
  cases h : lawOf l with
  | none => exact fit_of (by decide +kernel) (by decide +kernel) (by decide +kernel) (by decide +kernel)
  | some r =>
    obtain ⟨a, b⟩ := r
    obtain ⟨ha, hb⟩ := law_small h
    have up : ∀ {k : Nat}, k < 2 ^ 1400 → k < 2 ^ 1900 := fun h => Nat.lt_trans h (Nat.pow_lt_pow_right (by decide) (by decide))
    have h1 := sh_int (up ha)
    have h2 := sh_int (up hb)
    refine fit_of ?_ ?_ ?_ ?_
    · simp only [PyData.showable, PyData.showableAll] at h1 h2 ⊢
      simp [h1, h2]
    · simp [PyData.hasDict, PyData.hasDictAll]
    · simp [PyData.depth, PyData.depthAll]
    · simp only [cst, cstAll]; omega
theorem shp_nofD (l : List Nat) : SeqAt.shaped (nofD l) = true := by
  unfold nofD
  cases lawOf l with
  | none => exact shp_nil
  | some r => rfl
theorem nof_nil (l : List Nat) : PyData.eqv (nofD l) (.list []) = (lawOf l).isNone := by
  unfold nofD
  cases lawOf l with
  | none => rfl
  | some r => rfl
def spJud (T : List (Addr × Str)) : Sp := fun vs H Q _ => ∃ l : List Nat, vs = [.str (S l)] ∧ As l ∧ l.length ≤ 9000 ∧ Tabs T H ∧ ∀ H', ExtN H H' → Tabs T H' → Q (.bl true) H'
theorem jud_ok {T : List (Addr × Str)} {l : List Nat} {H : Hp} {Q : VK} {E : XK} (h1 : As l) (h2 : l.length ≤ 9000) (h3 : Tabs T H) (h : ∀ H', ExtN H H' → Tabs T H' → Q (.bl true) H') : Bx (spJud T [.str (S l)] H Q E) := ⟨⟨l, rfl, h1, h2, h3, h⟩⟩
/-- what a lambda of the law needs of its maker -/
structure LamT (T : List (Addr × Str)) (base : Heap) (mg : Str → Option Value) (c Pt : Addr) (q : Str) : Prop where
  tb : TabB base mg c Pt
  mem : (Pt, q) ∈ T
  uni : ∀ p ∈ T, p.1 = Pt → p.2 = q
/-- the def that takes the lambda -/
structure ToldF (K : PySem.W.Frag) (mg : Str → Option Value) (g : Addr) : Prop where
  ex : ∃ (oc : Value) (od : Option Addr) (kV doc pm : Value) (an : Option Addr) (cdv ct : Value) (osl : Array (Option Value)), K.lookup g = some ⟨oc, od, .func (PySem.W.fnOf "_law_told" "_law_told" (defArgs sTol) (defBody sTol) (defScope sTol) .none kV doc pm an cdv ct), osl⟩ ∧ PySem.W.codeIn K cdv "_law_told" = true
  gg : mg "_law_told" = some (.ref g)
  kk : PySem.W.keepIn K (.ref g) = true
end K5
set_option Elab.async false
set_option linter.all false
set_option maxRecDepth 100000
set_option maxHeartbeats 4000000
set_option exponentiation.threshold 100000
namespace K5
open PySem PySem.Spec PyProof.Rows L2 RmX Rm Mth SX LamX
def onG : List Value → List Value → List Value
  | [], [u] => [u]
  | _, _ => []
def onV : List V → List V → List V
  | [], [u] => [u]
  | _, _ => []
theorem kb_one {K : PySem.W.Frag} {fd : FuncData} {x : Str} (h : ∀ u : Value, bindArgs fd ⟨[], [(x, u)]⟩ = pure [(x, u)]) : KBinds K fd [x] [x] onG onV := by
  refine ⟨fun s us ws _ hl => ?_, fun {vs us zs ws} r r2 => ?_⟩
  · match us, ws, hl with
    | [], [], hl => cases hl
    | [], [u], _ => exact BindsTo.of_eq (h u)
    | [], _ :: _ :: _, hl => cases hl
    | _ :: _, [], hl => cases hl
    | _ :: _, [_], hl => cases hl
    | _ :: _, _ :: _ :: _, hl => cases hl
  · cases r with
    | nil => cases r2 with
      | nil => exact .nil
      | cons a r2 => cases r2 with
        | nil => exact .cons a .nil
        | cons b r2 => exact .nil
    | cons a r => cases r2 with
      | nil => exact .nil
      | cons a r2 => cases r2 with
        | nil => exact .nil
        | cons b r2 => exact .nil
theorem told_parP {K : PySem.W.Frag} {CT : Addr} {x : V} {d : PyData} {σ : L2.St} {i : Nat} {H : Hp} {Q : VK} (h0 : σ[i]? = some (some x)) (hd : Dp K H x d) (ft : Fit d) (hl : ∀ t, d = .str t → t.length ≤ 10000) (fin : ∀ r H2, Same H H2 → NewDp K H H2 (.ref r) (toldD d) → Q (.ref r) H2) :
    TTold CT (fun E H' Q' => tCallSD (spPar K CT) [] (fun _ => E) (tCons (tVar i) tNil) σ H' Q') H Q := fun HB sB => ⟨x, h0, told_par (Q := Q) hd ft hl fin HB sB⟩
theorem told_parK {K : PySem.W.Frag} {CT : Addr} {x : V} {d : PyData} {σ : L2.St} {i : Nat} {H : Hp} {Q : VK} (h0 : σ[i]? = some (some x)) (hd : Dp K H x d) (ft : Fit d) (hl : ∀ t, d = .str t → t.length ≤ 10000) (fin : ∀ r H2, Same H H2 → NewDp K H H2 (.ref r) (toldD d) → Q (.ref r) H2) :
    TTold CT (fun E H' Q' => tCallKG (spPar K CT) onV (fun _ => E) (tCons (tVar i) tNil) σ H' Q') H Q := fun HB sB => ⟨x, h0, told_par (Q := Q) hd ft hl fin HB sB⟩
abbrev qJ : Str := ((envOfC "_law_judged" (defScope sJud) 0 0 (.ref 0)).qual ++ "<lambda>")
section
variable {P : Program} {w : World} {K : PySem.W.Frag} {mg : Str → Option Value} {base : Heap} {CT cP cS cM aTo aPa aNo aMk cJ PJ : Addr} {dPa dNo dMk : FuncData} {T : List (Addr × Str)}
abbrev nJu : List Str := ["page", "due", "told"]
theorem scJu : FnScope nJu ["page"] (defScope sJud) := ⟨rfl, rfl, rfl, by decide +kernel, rfl, by decide +kernel, by decide +kernel⟩
def lamOf : Expr → Expr
  | .Call _ [.Lambda a b c d] _ _ => .Lambda a b c d
  | e => e
theorem ok_jud {f : Addr} {fd : FuncData} (F : FunAt K "_law_judged" sJud f fd cJ) (TA : TxtA mg) (W : TxtW K mg CT cP cS cM) (LT : LamT T base mg cJ PJ qJ) (TF : ToldF K mg aTo) (cP' : Cal P w K mg base "parse_number" aPa dPa 6 ["text"] (spPar K CT)) (kP : KBinds K dPa ["text"] ["text"] onG onV)
    (cN : Cal P w K mg base "_law_number_of" aNo dNo 2 ["page"] (bx (spNof K))) (cM' : Cal P w K mg base "_law_marks" aMk dMk 1 ["error"] (bx (spMrk CT))) : FnG P w K mg base 9 f fd ["page"] (spJud T) := by
  obtain ⟨oc, od, kV, doc, pm, an, cdv, ct, osl, lk, hcd⟩ := TF.ex
  refine okGC F scJu (fun vs H Q E h => ?_) (fun A outer s H vs Q E hr hgd h => ?_)
  · obtain ⟨l, rfl, _⟩ := h
    rfl
  · obtain ⟨l, rfl, as, hl, hT, fin⟩ := h
    have hbT : L2.Binds K (PySem.W.fnOf "_law_told" "_law_told" (defArgs sTol) (defBody sTol) (defScope sTol) .none kV doc pm an cdv ct) ["action"] [] := .all fun us hu => by
      match us, hu with
      | [u], _ => rfl
    have gives := told_gives (k := 6) (g := aTo) (cdv := cdv) (q := qJ) (X := cxOf (L2.CX P w) P w K mg base nJu "_law_judged" (defScope sJud) f (.ref cJ) A outer s H E) hgd TA W cM'
    refine ⟨_, pss_cons (ps_set (i := 1) scJu.nd rfl (Or.inl rfl) (pe_cal cN (hr.mono (by decide)) hgd (pa_cons (pv 0) pa_nil)))
      (C8.pss_cut (ps_set (i := 1) scJu.nd rfl (Or.inl rfl) (pe_ifExp (pt_cmpR (op_neD hr.units) (pv 1) (pe_lst pa_nil) (nomark _)) (pv 1) (pe_tup (pa_cons pe_str (pa_cons pe_int pa_nil)))))
      (pss_cons (ps_set (i := 2) scJu.nd rfl (Or.inl rfl) (pe_lst (pa_cons (pe_lamcallG (T := T) (TT := TTold CT) (a := "action") (k := 6) rfl TF.gg TF.kk lk hcd hbT scTo rfl (.inl rfl) gives LT.tb rfl LT.mem LT.uni hr hgd (by exact lamS_by (sc := defScope sJud) (by decide +kernel)) rfl (fun _ _ _ _ _ => rfl)
          (fun E' A' outer' s' H' f' c' hA hR => pe_callG (E := fun _ => E') cP'.fn hR hA rfl cP'.g cP'.k cP'.b .nil (fun σ => passAt (takes_of (X := lamCx (cxOf (L2.CX P w) P w K mg base nJu "_law_judged" (defScope sJud) f (.ref cJ) A outer s H E) A' outer' s' H' E' _ f' c') rfl rfl rfl rfl) σ) (pa_cons (pv 0) pa_nil))) pa_nil)))
      (pss_cons (ps_expr (pe_bm PySem.F.plainAttrs_list PySem.F.slot_list_append PySem.F.type_list_append mt_append (pv 2) (pa_cons (pe_lamcallG (T := T) (TT := TTold CT) (a := "action") (k := 6) rfl TF.gg TF.kk lk hcd hbT scTo rfl (.inl rfl) gives LT.tb rfl LT.mem LT.uni hr hgd (by exact lamS_by (sc := defScope sJud) (by decide +kernel)) rfl (fun _ _ _ _ _ => rfl)
          (fun E' A' outer' s' H' f' c' hA hR => pe_callKG (E := fun _ => E') cP'.fn hR hA rfl cP'.g cP'.k kP (fun σ => passAt (takes_of (X := lamCx (cxOf (L2.CX P w) P w K mg base nJu "_law_judged" (defScope sJud) f (.ref cJ) A outer s H E) A' outer' s' H' E' _ f' c') rfl rfl rfl rfl) σ) (pk_cons (pv 0) pk_nil))) pa_nil)))
      (pss_one (ps_ret (pe_cmpR op_eq (pe_callB (call_rep hr hgd) (by rfl) TA.rep (by decide +kernel) (pa_cons (pv 2) pa_nil)) (pe_callB (call_rep hr hgd) (by rfl) TA.rep (by decide +kernel) (pa_cons (pe_lst (pa_cons (pv 1) (pa_cons (pv 1) pa_nil))) pa_nil)) (nomark _))))))), ?_⟩
    have ft := as.fit (show l.length ≤ 10000 by omega)
    have lt : ∀ t, PyData.str (S l) = .str t → t.length ≤ 10000 := fun t e => by
      injection e with e
      rw [← e, S_len]
      omega
    refine ⟨_, rfl, nof_ok as (by omega) fun r H1 s1 d1 => ?_⟩
    refine ⟨fun σ' H' => ∃ x : V, σ' = [some (.str (S l)), some x, none] ∧ Dp K H' x (dueD l) ∧ Same H H', ?_, ?_⟩
    · refine ⟨_, rfl, by rw [sizeLine_eq]; show 0 ≤ 16777216; decide, fun e ne => ?_⟩
      generalize hG : upd H1 e _ = H2
      obtain ⟨s2, g2⟩ := same_of ne hG
      clear hG ne
      refine ⟨_, _, dp_same s2 d1, .lst (.of g2) .nil, shp_nofD l, shp_nil, ?_⟩
      rw [nof_nil]
      refine ⟨_, rfl, ?_⟩
      cases hl' : lawOf l with
      | none =>
        refine iteF ⟨by rw [sizeLine_eq]; show 2 ≤ 16777216; decide, fun t nt => ?_⟩
        generalize hG : upd H2 t _ = H3
        obtain ⟨s3, g3⟩ := same_of nt hG
        clear hG nt
        refine ⟨_, rfl, ?_, same_tr s1 (same_tr s2 s3)⟩
        unfold dueD
        rw [hl']
        exact .tup (.of g3) (.cons (.str _) (.cons (.int 0) .nil))
      | some ab =>
        refine iteT ⟨_, rfl, _, rfl, ?_, same_tr s1 s2⟩
        have e : nofD l = dueD l := by
          unfold nofD dueD
          rw [hl']
        rw [← e]
        exact dp_same s2 d1
    · rintro σ' H' ⟨x, rfl, dx, sm⟩
      have T1 := hT.ext sm
      refine ⟨T1, fun H2 e2 T2 => told_parP (i := 0) rfl (d := .str (S l)) (.str _) ft lt (fun r1 H3 s3 d3 => ?_)⟩
      have T3 := T2.ext s3
      have E3 : ExtN H' H3 := e2.trans (extN_same s3)
      rw [told_due] at d3
      refine ⟨by rw [sizeLine_eq]; show 1 ≤ 16777216; decide, fun lt1 nl => ?_⟩
      generalize hG : upd H3 lt1 _ = H4
      obtain ⟨s4, g4⟩ := same_of nl hG
      clear hG
      have T4 := T3.ext s4
      refine ⟨_, rfl, .inl ⟨rfl, _, .of g4⟩, T4, fun H5 e5 T5 => told_parK (i := 0) rfl (d := .str (S l)) (.str _) ft lt (fun r2 H6 s6 d6 => ?_)⟩
      have g5 : H5 lt1 = some (.lst [.ref r1]) := e5 _ _ g4 (fun _ z => by cases z)
      have T6 := T5.ext s6
      rw [told_due] at d6
      have h6 := s6 _ _ g5
      refine ⟨lt1, _, _, rfl, rfl, h6, by rw [sizeLine_eq]; show 1 < 16777216; decide, ?_⟩
      have TF' : Tabs T (upd H6 lt1 (.lst ([V.ref r1] ++ [V.ref r2]))) := tabs_lst h6 T6
      have gf : (upd H6 lt1 (.lst ([V.ref r1] ++ [V.ref r2]))) lt1 = some (.lst [V.ref r1, V.ref r2]) := upd_same
      have kf : ∀ b o, (∀ ps, o ≠ .tbl ps) → H3 b = some o → (upd H6 lt1 (.lst ([V.ref r1] ++ [V.ref r2]))) b = some o := fun b o n hb => by
        rw [upd_ne (ne_of_none hb nl)]
        exact s6 _ _ (e5 _ _ (s4 _ _ hb) n)
      have EF : ExtN H (upd H6 lt1 (.lst ([V.ref r1] ++ [V.ref r2]))) := fun b o hb n => kf b o n (E3 b o (sm b o hb) n)
      have D1 := d3 _ (fun b o _ n hb => kf b o n hb)
      have D2 := d6 (upd H6 lt1 (.lst ([V.ref r1] ++ [V.ref r2]))) (fun b o nb _ hb => by
        rw [upd_ne (fun z => by rw [z, g5] at nb; cases nb)]
        exact hb)
      have DX := dp_ext (fun b o hb n => kf b o n (E3 b o hb n) : ExtN H' _) dx
      generalize upd H6 lt1 (.lst ([V.ref r1] ++ [V.ref r2])) = HF at *
      refine ⟨_, rfl, rep_ok (.lst (.of gf) (.cons D1 (.cons D2 .nil))) (fit_due2 l) ?_⟩
      refine ⟨_, rfl, _, rfl, by rw [sizeLine_eq]; show 2 ≤ 16777216; decide, fun l9 n9 => ?_⟩
      generalize hG : upd HF l9 _ = HG
      obtain ⟨s9, g9⟩ := same_of n9 hG
      clear hG n9
      have DX9 := dp_same s9 DX
      refine rep_ok (.lst (.of g9) (.cons DX9 (.cons DX9 .nil))) (fit_due2 l) ?_
      refine ⟨rfl, ?_⟩
      rw [decide_eq_true rfl]
      exact fin HG (EF.trans (extN_same s9)) (TF'.ext s9)
end
end K5
set_option Elab.async false
set_option linter.all false
set_option maxRecDepth 100000
set_option maxHeartbeats 4000000
/-! # f(): a def without parameters -/
namespace Rm
open PySem PySem.Spec PyProof.Rows L2 RmX
section
variable {X : Cx} {k : Nat} {f : Addr} {fd : FuncData} {ps : List Str} {sp : Sp} {x : Str} {p pos : Pos}
theorem pe_callG0 (F : FnG X.prog X.w X.K X.mg X.base k f fd ps sp) (hr : Room k X.A) (hgd : X.A.guards = some []) (hg : Gl X x) (hm : X.mg x = some (.ref f)) (hk : PySem.W.keepIn X.K (.ref f) = true) (hb : Binds X.K fd ps [])
    (hdb : (x == ("__debug__" : Str)) = false := by decide) : PE X (.Call (.Name x p) [] [] pos) (fun σ H Q => sp [] H Q L2.E0) := by
  refine ⟨fun pins s σ H Q I h => wpAny_Call_Name_kw (ld_glob I hg hm ?_ hdb)⟩
  exact PySem.W.callWith_K0 I.kIn hk (run_fnG (us := []) (E := fun _ => L2.E0) F hr hgd hb .nil (pass0G σ) I .nil h)
end
end Rm
set_option Elab.async false
set_option linter.all false
set_option maxRecDepth 100000
set_option maxHeartbeats 4000000
set_option exponentiation.threshold 100000
namespace K5
open PySem PySem.Spec PyProof.Rows L2 RmX Rm Mth SX LamX
abbrev sChR : Stmt := top 33
theorem good_str {n : Nat} {z : Str} (h1 : z.cps.toList.all (· < 128) = true) (h2 : z.length ≤ n) : Good n (.str z) :=
  ⟨z.cps.toList, congrArg V.str (S_tl z).symm, as_of h1, by rw [Array.length_toList]; exact h2⟩
theorem good_rep {n m c : Nat} (h1 : c < 128) (h2 : m ≤ n) : Good n (.str (S (List.replicate m c))) :=
  ⟨_, rfl, fun d hd => by rw [List.eq_of_mem_replicate hd]; exact h1, by rw [List.length_replicate]; exact h2⟩
theorem good_app {n : Nat} {a b : Str} (ha : Good 6000 (.str a)) (hb : Good 6000 (.str b)) (h : a.length + b.length ≤ n) : Good n (.str (a ++ b)) := by
  obtain ⟨l, e1, a1, _⟩ := ha
  obtain ⟨m, e2, a2, _⟩ := hb
  injection e1 with e1
  injection e2 with e2
  subst e1 e2
  refine ⟨l ++ m, congrArg V.str (S_cat l m), a1.app a2, ?_⟩
  have z1 := S_len l
  have z2 := S_len m
  rw [List.length_append]
  omega
theorem len_app (a b : Str) : (a ++ b).length = a.length + b.length := strLen_append a b
def spChR (T : List (Addr × Str)) : Sp := fun vs H Q _ => vs = [] ∧ Tabs T H ∧ ∀ H', ExtN H H' → Tabs T H' → Q (.bl true) H'
abbrev qC : Str := ((envOfC "_law_chosen_right" (defScope sChR) 0 0 (.ref 0)).qual ++ "<lambda>")
abbrev nines : Str := S (List.replicate 420 57)
theorem s57 : (Str.ofString "9") = S [57] := by decide +kernel
theorem s56 : (Str.ofString "8") = S [56] := by decide +kernel
def text3 : PyData := .tuple [.str (Str.ofString "text"), .int 0]
theorem fit_text3 : Fit text3 := fit_of (by decide +kernel) (by decide +kernel) (by decide +kernel) (by decide +kernel)
theorem told_no {d : PyData} (h : inD d = none) : toldD d = text3 := by
  unfold toldD
  rw [h]
  rfl
theorem ln37 : nines.length = 420 := by have := S_len (List.replicate 420 57); rw [List.length_replicate] at this; exact this
theorem goods : ∀ x ∈ ([V.str (Str.ofString ""), V.str (Str.ofString "-"), V.str (Str.ofString "/"), V.str (Str.ofString "0"), V.str (Str.ofString "-0"), V.str (Str.ofString "00"), V.str (Str.ofString "01"), V.str (Str.ofString "1/0"), V.str (Str.ofString "0/1"), V.str (Str.ofString "0/2"), V.str (Str.ofString "1/1"), V.str (Str.ofString "2/4"), V.str (Str.ofString "4/2"), V.str (Str.ofString "-1/2"), V.str (Str.ofString "1/-2"), V.str (Str.ofString "--1"), V.str (Str.ofString "+1")] ++ [V.str (Str.ofString " 1"), V.str (Str.ofString "1 "), V.str (Str.ofString "1/ 2"), V.str (Str.ofString "1/2/3"), V.str (Str.ofString "1//2"), V.str (Str.ofString "1.0"), V.str (Str.ofString "1e3"), V.str (Str.ofString "1_0"), V.str (Str.ofString "0x1"), V.str (Str.ofString "one"), V.str (Str.ofString "1\n"), V.str nines, V.str (Str.ofString "-" ++ nines)]) ++ [V.str (nines ++ Str.ofString "9"), V.str (Str.ofString "1/" ++ nines), V.str (Str.ofString "1/" ++ nines ++ Str.ofString "9"), V.str (Str.ofString "-1/" ++ nines), V.str (S (List.replicate 419 57)), V.str (S (List.replicate 5000 56)), V.str (S (List.replicate 421 48))], Good 6000 x := by
  have c : ∀ {z : Str}, (z.cps.toList.all (· < 128) && decide (z.length ≤ 6000)) = true → Good 6000 (.str z) := fun {z} h => by
    rw [Bool.and_eq_true, decide_eq_true_eq] at h
    exact good_str h.1 h.2
  have gn : Good 6000 (.str nines) := good_rep (by decide) (by decide)
  intro x hx
  simp only [List.cons_append, List.nil_append, List.mem_cons, List.not_mem_nil, or_false] at hx
  rcases hx with rfl | rfl | rfl | rfl | rfl | rfl | rfl | rfl | rfl | rfl | rfl | rfl | rfl | rfl | rfl | rfl | rfl | rfl | rfl | rfl | rfl | rfl | rfl | rfl | rfl | rfl | rfl | rfl | rfl | rfl | rfl | rfl | rfl | rfl | rfl | rfl | rfl
  · exact c (by decide +kernel)
  · exact c (by decide +kernel)
  · exact c (by decide +kernel)
  · exact c (by decide +kernel)
  · exact c (by decide +kernel)
  · exact c (by decide +kernel)
  · exact c (by decide +kernel)
  · exact c (by decide +kernel)
  · exact c (by decide +kernel)
  · exact c (by decide +kernel)
  · exact c (by decide +kernel)
  · exact c (by decide +kernel)
  · exact c (by decide +kernel)
  · exact c (by decide +kernel)
  · exact c (by decide +kernel)
  · exact c (by decide +kernel)
  · exact c (by decide +kernel)
  · exact c (by decide +kernel)
  · exact c (by decide +kernel)
  · exact c (by decide +kernel)
  · exact c (by decide +kernel)
  · exact c (by decide +kernel)
  · exact c (by decide +kernel)
  · exact c (by decide +kernel)
  · exact c (by decide +kernel)
  · exact c (by decide +kernel)
  · exact c (by decide +kernel)
  · exact c (by decide +kernel)
  · exact gn
  · exact good_app (c (by decide +kernel)) gn (by rw [ln37]; decide +kernel)
  · exact good_app gn (c (by decide +kernel)) (by rw [ln37]; decide +kernel)
  · exact good_app (c (by decide +kernel)) gn (by rw [ln37]; decide +kernel)
  · exact good_app (good_app (c (by decide +kernel)) gn (by rw [ln37]; decide +kernel)) (c (by decide +kernel)) (by rw [len_app, ln37]; decide +kernel)
  · exact good_app (c (by decide +kernel)) gn (by rw [ln37]; decide +kernel)
  · exact good_rep (by decide) (by decide)
  · exact good_rep (by decide) (by decide)
  · exact good_rep (by decide) (by decide)
section
variable {P : Program} {w : World} {K : PySem.W.Frag} {mg : Str → Option Value} {base : Heap} {CT cP cS cM aTo aPa aJu aMk cC PC : Addr} {dPa dJu dMk : FuncData} {T : List (Addr × Str)}
abbrev nCh : List Str := ["nines", "some", "page", "odd"]
theorem scCR : FnScope nCh [] (defScope sChR) := ⟨rfl, rfl, rfl, by decide +kernel, rfl, by decide +kernel, by decide +kernel⟩
theorem ok_chr {f : Addr} {fd : FuncData} (F : FunAt K "_law_chosen_right" sChR f fd cC) (TA : TxtA mg) (W : TxtW K mg CT cP cS cM) (LT : LamT T base mg cC PC qC) (TF : ToldF K mg aTo) (cP' : Cal P w K mg base "parse_number" aPa dPa 6 ["text"] (spPar K CT))
    (cJ : Cal P w K mg base "_law_judged" aJu dJu 9 ["page"] (bx (spJud T))) (cM' : Cal P w K mg base "_law_marks" aMk dMk 1 ["error"] (bx (spMrk CT))) : FnG P w K mg base 10 f fd [] (spChR T) := by
  obtain ⟨oc, od, kV, doc, pm, an, cdv, ct, osl, lk, hcd⟩ := TF.ex
  refine okGC F scCR (fun vs H Q E h => ?_) (fun A outer s H vs Q E hr hgd h => ?_)
  · obtain ⟨rfl, _⟩ := h
    rfl
  · obtain ⟨rfl, hT, fin⟩ := h
    have hbT : L2.Binds K (PySem.W.fnOf "_law_told" "_law_told" (defArgs sTol) (defBody sTol) (defScope sTol) .none kV doc pm an cdv ct) ["action"] [] := .all fun us hu => by
      match us, hu with
      | [u], _ => rfl
    have hr8 : Room 8 (A.deeper (envOfC "_law_chosen_right" (defScope sChR) s.heap.objs.size f (.ref cC))) := hr.mono (by decide)
    have gives := told_gives (k := 6) (g := aTo) (cdv := cdv) (q := qC) (X := cxOf (L2.CX P w) P w K mg base nCh "_law_chosen_right" (defScope sChR) f (.ref cC) A outer s H E) hgd TA W cM'
    refine ⟨_, pss_cons (ps_set (i := 0) scCR.nd rfl (Or.inl rfl) (pe_op op_mulS pe_str pe_int))
      (pss_cons (ps_set (i := 1) scCR.nd rfl (Or.inl rfl) (pe_lst (pa_cons pe_str (pa_cons pe_str (pa_cons pe_str (pa_cons pe_str (pa_cons pe_str (pa_cons pe_str (pa_cons pe_str (pa_cons pe_str (pa_cons pe_str (pa_cons pe_str (pa_cons pe_str (pa_cons pe_str (pa_cons pe_str (pa_cons pe_str (pa_cons pe_str (pa_cons pe_str (pa_cons pe_str pa_nil)))))))))))))))))))
      (pss_cons (ps_set (i := 1) scCR.nd rfl (Or.inl rfl) (pe_op op_cat (pv 1) (pe_lst (pa_cons pe_str (pa_cons pe_str (pa_cons pe_str (pa_cons pe_str (pa_cons pe_str (pa_cons pe_str (pa_cons pe_str (pa_cons pe_str (pa_cons pe_str (pa_cons pe_str (pa_cons pe_str (pa_cons (pv 0) (pa_cons (pe_op op_add_str pe_str (pv 0)) pa_nil))))))))))))))))
      (pss_cons (ps_set (i := 1) scCR.nd rfl (Or.inl rfl) (pe_op op_cat (pv 1) (pe_lst (pa_cons (pe_op op_add_str (pv 0) pe_str) (pa_cons (pe_op op_add_str pe_str (pv 0)) (pa_cons (pe_op op_add_str (pe_op op_add_str pe_str (pv 0)) pe_str) (pa_cons (pe_op op_add_str pe_str (pv 0)) (pa_cons (pe_op op_mulS pe_str pe_int) (pa_cons (pe_op op_mulS pe_str pe_int) (pa_cons (pe_op op_mulS pe_str pe_int) pa_nil))))))))))
      (pss_cons (ps_if (pt_cmpR (op_neD hr.units) (pe_lc (own := [("page", 2)]) (g := gName 2) rfl scCR.nd (pi_list (pv 1)) (blkOk_by (N := nCh) (sc := defScope sChR) (by decide +kernel)) (fun _ _ _ _ _ => pg_name (i := 2) scCR.nd rfl (Or.inl rfl)) (fun _ _ _ _ _ => pts_one (pt_not (pt_val (pe_cal cJ hr hgd (pa_cons (pv 2) pa_nil))))) (fun _ _ _ _ _ => pv 2)) (pe_lst pa_nil) (nomark _)) (pss_one (ps_ret pe_bl)) pss_nil)
      (pss_cons (ps_for PassesOwn.leaving rfl (pi_tup (pe_tup (pa_cons pe_non (pa_cons pe_bl (pa_cons pe_int (pa_cons pe_int (pa_cons (pe_tup (pa_cons pe_int (pa_cons pe_int pa_nil))) (pa_cons (pe_lst (pa_cons pe_int (pa_cons pe_int pa_nil))) (pa_cons (pe_tup pa_nil) (pa_cons (pe_lst (pa_cons pe_str pa_nil)) (pa_cons (pe_tup (pa_cons pe_str pa_nil)) pa_nil))))))))))) (pg_name (i := 3) scCR.nd rfl (Or.inr rfl))
        (pss_one (ps_if (pt_cmpR op_ne (pe_callB (call_rep hr hgd) (by rfl) TA.rep (by decide +kernel) (pa_cons (pe_lamcallG (T := T) (TT := TTold CT) (a := "action") (k := 6) rfl TF.gg TF.kk lk hcd hbT scTo rfl (.inl rfl) gives LT.tb rfl LT.mem LT.uni hr8 hgd (by exact lamS_by (sc := defScope sChR) (by decide +kernel)) rfl (fun _ _ _ _ _ => rfl)
          (fun E' A' outer' s' H' f' c' hA hR => pe_callG (E := fun _ => E') cP'.fn hR hA rfl cP'.g cP'.k cP'.b .nil (fun σ => passAt (takes_of (X := lamCx (cxOf (L2.CX P w) P w K mg base nCh "_law_chosen_right" (defScope sChR) f (.ref cC) A outer s H E) A' outer' s' H' E' _ f' c') rfl rfl rfl rfl) σ) (pa_cons (pv 3) pa_nil))) pa_nil)) (pe_callB (call_rep hr hgd) (by rfl) TA.rep (by decide +kernel) (pa_cons (pe_tup (pa_cons pe_str (pa_cons pe_int pa_nil))) pa_nil)) (nomark _)) (pss_one (ps_ret pe_bl)) pss_nil)))
      (pss_one (ps_ret pe_bl))))))), ?_⟩
    have sm : ∀ {a b : Str}, a.length ≤ 1000 → b.length ≤ 1000 → a.length + b.length ≤ sizeLine := fun {a b} h1 h2 => by rw [sizeLine_eq]; omega
    have ln : nines.length = 420 := by have := S_len (List.replicate 420 57); rw [List.length_replicate] at this; exact this
    have l4 : nines.length ≤ 1000 := by rw [ln]; decide
    refine ⟨57, 420, by rw [s57], rfl, by decide, by decide, ?_⟩
    refine ⟨by rw [sizeLine_eq]; show 17 ≤ 16777216; decide, fun q1 n1 => ?_⟩
    generalize hG : upd H q1 _ = H1
    obtain ⟨s1, h1⟩ := same_of n1 hG
    clear hG n1
    refine ⟨_, rfl, _, rfl, _, rfl, _, _, rfl, rfl, sm (by decide +kernel) l4, by rw [sizeLine_eq]; show 13 ≤ 16777216; decide, fun q2 n2 => ?_⟩
    generalize hG : upd H1 q2 _ = H2
    obtain ⟨s2, h2⟩ := same_of n2 hG
    clear hG n2
    refine ⟨q1, q2, _, _, rfl, rfl, s2 _ _ h1, h2, by rw [sizeLine_eq]; show 30 ≤ 16777216; decide, fun q3 n3 => ?_⟩
    generalize hG : upd H2 q3 _ = H3
    obtain ⟨s3, h3⟩ := same_of n3 hG
    clear hG n3
    have lc : (Str.ofString "1/" ++ nines).length ≤ 1000 := by rw [len_app, ln]; decide +kernel
    refine ⟨_, rfl, _, rfl, _, _, rfl, rfl, sm l4 (by decide +kernel), _, rfl, _, _, rfl, rfl, sm (by decide +kernel) l4, _, rfl, _, _, rfl, rfl, sm (by decide +kernel) l4, _, _, rfl, rfl, sm lc (by decide +kernel), _, rfl, _, _, rfl, rfl, sm (by decide +kernel) l4, 57, 419, by rw [s57], rfl, by decide, by decide, 56, 5000, by rw [s56], rfl, by decide, by decide, 48, 421, by rw [s48], rfl, by decide, by decide, by rw [sizeLine_eq]; show 7 ≤ 16777216; decide, fun q4 n4 => ?_⟩
    generalize hG : upd H3 q4 _ = H4
    obtain ⟨s4, h4⟩ := same_of n4 hG
    clear hG n4
    refine ⟨q3, q4, _, _, rfl, rfl, s4 _ _ h3, h4, by rw [sizeLine_eq]; show 37 ≤ 16777216; decide, fun q5 n5 => ?_⟩
    generalize hG : upd H4 q5 _ = H5
    obtain ⟨s5, h5⟩ := same_of n5 hG
    clear hG n5
    have S5 := same_tr s1 (same_tr s2 (same_tr s3 (same_tr s4 s5)))
    have T5 := hT.ext S5
    obtain ⟨xs, h5, gd, lx⟩ : ∃ xs : List V, H5 q5 = some (.lst xs) ∧ (∀ x ∈ xs, Good 6000 x) ∧ xs.length = 37 := by
      exact ⟨_, h5, goods, rfl⟩
    clear h1 h2 h3 h4 s1 s2 s3 s4 s5
    refine ⟨_, rfl, q5, rfl, ⟨_, .of h5⟩, fun Dd nD => lc_list (K := K) (a := q5) (xs := xs) (fun i H' => H' Dd = some (.lst []) ∧ ExtN H5 H' ∧ Tabs T H') ⟨upd_same, extN_same (same_new nD), T5.ext (same_new nD)⟩ (fun i H' hi hP => ext_seqL hP.2.1 (.of h5)) (fun i x H' hi hP => ?_) (fun H' hP => ?_)⟩
    · obtain ⟨hD, e', T'⟩ := hP
      obtain ⟨l, rfl, al, ll⟩ := gd x (List.mem_of_getElem? hi)
      refine ⟨rfl, _, rfl, jud_ok al (by omega) T' fun H2 e2 T2 => ⟨_, rfl, iteF ⟨?_, e'.trans e2, T2⟩⟩⟩
      exact e2 _ _ hD (fun _ z => by cases z)
    · obtain ⟨hD, e', T'⟩ := hP
      refine ⟨by rw [sizeLine_eq]; show 0 ≤ 16777216; decide, fun e ne => ?_⟩
      generalize hG : upd H' e _ = H6
      obtain ⟨s6, g6⟩ := same_of ne hG
      clear hG ne
      refine ⟨_, _, .lst (.of (s6 _ _ hD)) .nil, .lst (.of g6) .nil, shp_nil, shp_nil, ?_⟩
      refine ⟨_, rfl, iteF ?_⟩
      have E6 : ExtN H H6 := ((extN_same S5).trans e').trans (extN_same s6)
      have T6 := T'.ext s6
      clear g6 hD e' T' s6 h5 gd T5 S5
      refine ⟨by rw [sizeLine_eq]; show 2 ≤ 16777216; decide, fun ta nn => ?_⟩
      generalize hG : upd H6 ta _ = G0
      obtain ⟨sta, gta⟩ := same_of nn hG
      clear hG nn
      refine ⟨by rw [sizeLine_eq]; show 2 ≤ 16777216; decide, fun lb nn => ?_⟩
      generalize hG : upd G0 lb _ = G1
      obtain ⟨slb, glb⟩ := same_of nn hG
      clear hG nn
      refine ⟨by rw [sizeLine_eq]; show 0 ≤ 16777216; decide, fun tc nn => ?_⟩
      generalize hG : upd G1 tc _ = G2
      obtain ⟨stc, gtc⟩ := same_of nn hG
      clear hG nn
      refine ⟨by rw [sizeLine_eq]; show 1 ≤ 16777216; decide, fun ld nn => ?_⟩
      generalize hG : upd G2 ld _ = G3
      obtain ⟨sld, gld⟩ := same_of nn hG
      clear hG nn
      refine ⟨by rw [sizeLine_eq]; show 1 ≤ 16777216; decide, fun te nn => ?_⟩
      generalize hG : upd G3 te _ = G4
      obtain ⟨ste, gte⟩ := same_of nn hG
      clear hG nn
      refine ⟨by rw [sizeLine_eq]; show 9 ≤ 16777216; decide, fun tf nn => ?_⟩
      generalize hG : upd G4 tf _ = G5
      obtain ⟨stf, gtf⟩ := same_of nn hG
      clear hG nn
      have Sf : ∀ {b : Addr} {o : HO}, G4 b = some o → G5 b = some o := fun h => stf _ _ h
      have Se : ∀ {b : Addr} {o : HO}, G3 b = some o → G5 b = some o := fun h => Sf (ste _ _ h)
      have Sd : ∀ {b : Addr} {o : HO}, G2 b = some o → G5 b = some o := fun h => Se (sld _ _ h)
      have Sc : ∀ {b : Addr} {o : HO}, G1 b = some o → G5 b = some o := fun h => Sd (stc _ _ h)
      have Sb : ∀ {b : Addr} {o : HO}, G0 b = some o → G5 b = some o := fun h => Sc (slb _ _ h)
      have S65 : Same H6 G5 := fun b o h => Sb (sta _ _ h)
      have allp : ∀ (k : Nat) (z : V), [V.non, V.bl true, V.int 0, V.int 5, V.ref ta, V.ref lb, V.ref tc, V.ref ld, V.ref te][k]? = some z → ∃ d, Dp K G5 z d ∧ inD d = none ∧ Fit d ∧ (∀ t, d = .str t → t.length ≤ 10000) := by
        intro k z hk
        match k, hk with
        | 0, hk => cases hk; exact ⟨.none, .non, rfl, fit_of (by decide) (by decide) (by decide) (by decide), fun t e => by cases e⟩
        | 1, hk => cases hk; exact ⟨.bool true, .bl true, rfl, fit_of (by decide) (by decide) (by decide) (by decide), fun t e => by cases e⟩
        | 2, hk => cases hk; exact ⟨.int 0, .int 0, rfl, fit_of (by decide) (by decide) (by decide) (by decide), fun t e => by cases e⟩
        | 3, hk => cases hk; exact ⟨.int 5, .int 5, rfl, fit_of (by decide) (by decide) (by decide) (by decide), fun t e => by cases e⟩
        | 4, hk => cases hk; exact ⟨.tuple [.int 1, .int 2], dp_mk (.of (Sb gta)), rfl, fit_of (by decide) (by decide) (by decide) (by decide), fun t e => by cases e⟩
        | 5, hk => cases hk; exact ⟨.list [.int 1, .int 2], .lst (.of (Sc glb)) (.cons (.int 1) (.cons (.int 2) .nil)), rfl, fit_of (by decide) (by decide) (by decide) (by decide), fun t e => by cases e⟩
        | 6, hk => cases hk; exact ⟨.tuple [], .tup (.of (Sd gtc)) .nil, rfl, fit_of (by decide) (by decide) (by decide) (by decide), fun t e => by cases e⟩
        | 7, hk => cases hk; exact ⟨.list [.str (Str.ofString "1")], .lst (.of (Se gld)) (.cons (.str _) .nil), rfl, fit_of (by decide +kernel) (by decide +kernel) (by decide +kernel) (by decide +kernel), fun t e => by cases e⟩
        | 8, hk => cases hk; exact ⟨.tuple [.str (Str.ofString "1")], .tup (.of (Sf gte)) (.cons (.str _) .nil), rfl, fit_of (by decide +kernel) (by decide +kernel) (by decide +kernel) (by decide +kernel), fun t e => by cases e⟩
        | k + 9, hk => exact absurd hk (by simp)
      have E5 : ExtN H G5 := E6.trans (extN_same S65)
      have T5 := T6.ext S65
      refine ⟨tf, rfl, ⟨_, .of gtf⟩, for_tup (K := K) (a := tf) (xs := [V.non, V.bl true, V.int 0, V.int 5, V.ref ta, V.ref lb, V.ref tc, V.ref ld, V.ref te]) (fun k σ H' => ∃ x3 : Option V, σ = [some (.str nines), some (.ref q5), none, x3] ∧ ExtN G5 H' ∧ Tabs T H') ⟨_, rfl, ExtN.refl _, T5⟩ (fun k σ H' _ hP => by obtain ⟨_, _, e', _⟩ := hP; exact ext_seqT e' (.of gtf)) ?_ ?_⟩
      · rintro k z σ H' hk ⟨x3, rfl, e', T'⟩
        obtain ⟨d, hd, hn, ft, hl⟩ := allp k z hk
        have hd := dp_ext e' hd
        refine ⟨T', fun H7 e7 T7 => told_parP (i := 3) rfl (dp_ext e7 hd) ft hl (fun r H8 s8 d8 => ?_)⟩
        rw [told_no hn] at d8
        have d8' := d8 H8 (fun b o _ _ h => h)
        refine rep_ok d8' fit_text3 ?_
        refine ⟨by rw [sizeLine_eq]; show 2 ≤ 16777216; decide, fun t9 nn => ?_⟩
        generalize hG : upd H8 t9 _ = H9
        obtain ⟨s9, g9⟩ := same_of nn hG
        clear hG nn
        refine rep_ok (d := text3) (.tup (.of g9) (.cons (.str _) (.cons (.int 0) .nil))) fit_text3 ?_
        exact ⟨rfl, _, rfl, iteNS rfl ⟨_, rfl, (e'.trans e7).trans (extN_same (same_tr s8 s9)), T7.ext (same_tr s8 s9)⟩⟩
      · rintro σ H' ⟨x3, rfl, e', T'⟩
        exact fin H' (E5.trans e') T'
end
end K5
set_option Elab.async false
set_option linter.all false
set_option maxRecDepth 100000
set_option maxHeartbeats 4000000
set_option exponentiation.threshold 100000
namespace K5
open PySem PySem.Spec PyProof.Rows L2 RmX Rm Mth SX
theorem numD (n : Nat) : D (TL.numL n) = true := D_of (TL.numL_digits n)
theorem num_dg {n : Nat} (h : n < 10 ^ 400) : dg 420 (TL.numL n) = true := by
  have h1 := TL.numL_len (show 0 < 400 by decide) h
  have h2 := TL.numL_ne n
  have h3 : 1 ≤ (TL.numL n).length := by
    cases e : TL.numL n with
    | nil => exact absurd e h2
    | cons _ _ => simp
  exact dg_iff.mpr ⟨h3, by omega, numD n⟩
theorem num_sg (n : Nat) (r : List Nat) : sg (TL.numL n ++ r) = false := by
  unfold sg
  refine decide_eq_false fun z => ?_
  cases e : TL.numL n with
  | nil => exact TL.numL_ne n e
  | cons c t =>
    rw [e] at z
    have : c = 45 := Option.some.inj z
    have m : c ∈ TL.numL n := by rw [e]; exact List.mem_cons_self ..
    have := D_all (numD n) c m
    omega
theorem sg45 (r : List Nat) : sg (45 :: r) = true := by
  unfold sg
  exact decide_eq_true rfl
theorem body_num (n : Nat) (r : List Nat) : bodyL (TL.numL n ++ r) = TL.numL n ++ r := by
  unfold bodyL
  rw [num_sg]
  rfl
theorem body45 (r : List Nat) : bodyL (45 :: r) = r := by
  unfold bodyL
  rw [sg45]
  rfl
theorem num_free (n : Nat) : 47 ∉ TL.numL n := TL.numL_free (.inl (by decide))
theorem cut_one (n : Nat) : cut (TL.numL n) = (TL.numL n, [49]) := by
  unfold cut
  have : TL.par [47] [] (TL.numL n) = none := TL.par_none1 (num_free n)
  rw [this]
theorem cut_two (n m : Nat) : cut (TL.numL n ++ 47 :: TL.numL m) = (TL.numL n, TL.numL m) := by
  unfold cut
  rw [par_at (num_free n)]
/-- a number's text is read as the number -/
theorem num_txt {a b : Int} (h : isNum a b) (ha : a.natAbs < 10 ^ 400) (hb : b.natAbs < 10 ^ 400) : numIn (txtL a b) = some (a, b) := by
  obtain ⟨m, rfl⟩ := Int.eq_ofNat_of_zero_le (show 0 ≤ b by have := h.1; omega)
  have m0 : m ≠ 0 := by have := h.1; omega
  have hm : m < 10 ^ 400 := by simpa using hb
  have key : ∀ (t : List Nat) (n : Nat), a.natAbs = n → txtL a (m : Int) = t → (sgn t n = a) → cut (bodyL t) = (TL.numL n, if m = 1 then [49] else TL.numL m) → numIn t = some (a, (m : Int)) := by
    intro t n hn ht hs hc
    subst hn
    unfold numIn
    rw [hc]
    dsimp only
    have v1 : dv (TL.numL a.natAbs) = a.natAbs := TL.numL_val _
    have v2 : dv (if m = 1 then [49] else TL.numL m) = m := by
      split
      · rename_i e
        rw [e]
        decide
      · exact TL.numL_val _
    have g2 : dg 420 (if m = 1 then [49] else TL.numL m) = true := by
      split
      · decide
      · exact num_dg hm
    rw [v1, v2, hs, if_pos ⟨num_dg ha, g2, m0⟩]
    have en : nrm a (m : Int) = (a, (m : Int)) := nrm_is (by omega) h rfl
    rw [en, if_pos ht]
  by_cases h1 : m = 1
  · subst h1
    have et : txtL a ((1 : Nat) : Int) = intL a := if_pos rfl
    by_cases hs : 0 ≤ a
    · obtain ⟨n, rfl⟩ := Int.eq_ofNat_of_zero_le hs
      have e : intL (n : Int) = TL.numL n := intL_nat n
      have e0 := num_sg n []
      have e1 := body_num n []
      rw [List.append_nil] at e0 e1
      rw [et, e]
      exact key _ n rfl (et.trans e) (by rw [sgn_t, e0]; rfl) (by rw [e1, cut_one]; rfl)
    · have e : intL a = 45 :: TL.numL a.natAbs := by
        have e : a = -((a.natAbs : Nat) : Int) := by omega
        rw [e, intL_neg (by omega), Int.natAbs_neg, Int.natAbs_natCast]
      rw [et, e]
      exact key _ a.natAbs rfl (et.trans e) (by rw [sgn_t, sg45, if_pos rfl]; omega) (by rw [body45, cut_one]; rfl)
  · have et : txtL a (m : Int) = intL a ++ 47 :: TL.numL m := by
      unfold txtL
      rw [if_neg (by omega), intL_nat]
    by_cases hs : 0 ≤ a
    · obtain ⟨n, rfl⟩ := Int.eq_ofNat_of_zero_le hs
      have e : intL (n : Int) = TL.numL n := intL_nat n
      rw [e] at et
      rw [et]
      exact key _ n rfl et (by rw [sgn_t, num_sg]; rfl) (by rw [body_num, cut_two, if_neg h1])
    · have e : intL a = 45 :: TL.numL a.natAbs := by
        have e : a = -((a.natAbs : Nat) : Int) := by omega
        rw [e, intL_neg (by omega), Int.natAbs_neg, Int.natAbs_natCast]
      rw [e, List.cons_append] at et
      rw [et]
      exact key _ a.natAbs rfl et (by rw [sgn_t, sg45, if_pos rfl]; omega) (by rw [body45, cut_two, if_neg h1])
theorem intL_as {a : Int} (h : a.natAbs < 10 ^ 400) : As (intL a) ∧ (intL a).length ≤ 401 := by
  have dl : ∀ n : Nat, n < 10 ^ 400 → As (TL.numL n) ∧ (TL.numL n).length ≤ 400 := fun n hn => ⟨fun c hc => by have := TL.numL_digits n c hc; omega, TL.numL_len (by decide) hn⟩
  by_cases hs : 0 ≤ a
  · obtain ⟨n, rfl⟩ := Int.eq_ofNat_of_zero_le hs
    rw [intL_nat]
    obtain ⟨h1, h2⟩ := dl n (by simpa using h)
    exact ⟨h1, by omega⟩
  · have e : intL a = 45 :: TL.numL a.natAbs := by
      have e : a = -((a.natAbs : Nat) : Int) := by omega
      rw [e, intL_neg (by omega), Int.natAbs_neg, Int.natAbs_natCast]
    rw [e]
    obtain ⟨h1, h2⟩ := dl a.natAbs h
    exact ⟨(as_of (l := [45]) (by decide)).app h1, by rw [List.length_cons]; omega⟩
theorem txt_as {a b : Int} (ha : a.natAbs < 10 ^ 400) (hb : b.natAbs < 10 ^ 400) : As (txtL a b) ∧ (txtL a b).length ≤ 803 := by
  obtain ⟨a1, a2⟩ := intL_as ha
  obtain ⟨b1, b2⟩ := intL_as hb
  unfold txtL
  split
  · exact ⟨a1, by omega⟩
  · exact ⟨a1.app ((as_of (l := [47]) (by decide)).app b1), by rw [List.length_append, List.length_cons]; omega⟩
end K5
set_option Elab.async false
set_option linter.all false
set_option maxRecDepth 100000
set_option maxHeartbeats 4000000
set_option exponentiation.threshold 100000
namespace K5
open PySem PySem.Spec PyProof.Rows L2 RmX Rm Mth SX LamX
abbrev sLaw : Stmt := top 34
theorem begin_ok {K : PySem.W.Frag} {H : Hp} {a : Addr} {ns : List Int} {Q : VK} {E : XK} (hS : SqL K H a (ns.map V.int)) (hl : ns.length ≤ 63) (h : ∀ p c H', DrawAt H' p c 0 → Same H H' → Q (.ref p) H') : Bx (spBegin K [.ref a] H Q E) := ⟨⟨a, ns, rfl, hS, hl, h⟩⟩
theorem par_ok {K : PySem.W.Frag} {CT : Addr} {H : Hp} {l : List Nat} {a b : Int} {Q : VK} {E : XK} (hn : numIn l = some (a, b)) (as : As l) (hl : l.length ≤ 5000) (h : ∀ p H', Same H H' → H' p = some (.tup [.int a, .int b]) → Q (.ref p) H') : Bx (spPar K CT [.str (S l)] H Q E) :=
  ⟨⟨.str (S l), .str (S l), rfl, .str _, as.fit (by omega), fun t e => by injection e with e; rw [← e, S_len]; omega, fun a' b' e p H' s' np h' => by
    have e : numIn l = some (a', b') := e
    rw [hn] at e
    cases e
    exact h p H' s' h', fun e => by
    have e : numIn l = none := e
    rw [hn] at e
    cases e⟩⟩
theorem txt_ok {K : PySem.W.Frag} {C : Addr} {H : Hp} {q : Addr} {a b : Int} {Q : VK} {E : XK} (hq : SqT K H q [.int a, .int b]) (h : isNum a b) (za : a.natAbs < 2 ^ 1500) (zb : b.natAbs < 2 ^ 1500) (k : Q (.str (S (txtL a b))) H) : Bx (spTxt K C [.ref q] H Q E) :=
  ⟨⟨.ref q, .tuple [.int a, .int b], rfl, dp_mk hq, fun e => (by rw [isN_of h] at e; cases e), fun a' b' e _ => (by cases e; exact ⟨za, zb, by rw [txt_tl]; exact k⟩)⟩⟩
theorem wri_ok {K : PySem.W.Frag} {H : Hp} {q : Addr} {a b : Int} {Q : VK} {E : XK} (hq : SqT K H q [.int a, .int b]) (za : a.natAbs < 2 ^ 1500) (zb : b.natAbs < 2 ^ 1500) (k : Q (.str (S (txtL a b))) H) : Bx (spWri K [.ref q] H Q E) := ⟨⟨q, a, b, rfl, hq, za, zb, k⟩⟩
theorem chr_ok {T : List (Addr × Str)} {H : Hp} {Q : VK} {E : XK} (hT : Tabs T H) (h : ∀ H', ExtN H H' → Tabs T H' → Q (.bl true) H') : Bx (spChR T [] H Q E) := ⟨⟨rfl, hT, h⟩⟩
theorem tabs_kp {T : List (Addr × Str)} {H H' : Hp} {p c : Addr} {n : Nat} (D : DrawAt H p c n) (kp : Kp p H H') (t : Tabs T H) : Tabs T H' := by
  obtain ⟨_, _, _, _, hp, _⟩ := D
  intro q hq
  obtain ⟨ps, h1, h2, h3⟩ := t q hq
  refine ⟨ps, kp _ _ h1 (ne_of h1 hp (by intro z; cases z)), h2, fun pos cv hc => ?_⟩
  obtain ⟨cc, e1, e2⟩ := h3 pos cv hc
  exact ⟨cc, e1, kp _ _ e2 (ne_of e2 hp (by unfold CodeO; intro z; cases z))⟩
theorem fit_four {a b : Int} {l : List Nat} (ha : a.natAbs < 2 ^ 1500) (hb : b.natAbs < 2 ^ 1500) (as : As l) (hl : l.length ≤ 803) : Fit (.list [.tuple [.int a, .int b], .tuple [.int a, .int b], .str (S l), .str (S l)]) := by
  have up : ∀ {k : Nat}, k < 2 ^ 1500 → k < 2 ^ 1900 := fun h => Nat.lt_trans h (Nat.pow_lt_pow_right (by decide) (by decide))
  have h1 := sh_int (up ha)
  have h2 := sh_int (up hb)
  have e := PySem.StrLaws.reprText_len (S l) (fun c hc => by have := as c hc; omega)
  have e2 := S_len l
  refine fit_of ?_ ?_ ?_ ?_
  · simp only [PyData.showable, PyData.showableAll] at h1 h2 ⊢
    simp [h1, h2]
  · simp [PyData.hasDict, PyData.hasDictAll]
  · simp [PyData.depth, PyData.depthAll]
  · simp only [cst, cstAll]; omega
def spLaw (K : PySem.W.Frag) (T : List (Addr × Str)) : Sp := fun vs H Q _ => ∃ (a : Addr) (ns : List Int), vs = [.ref a] ∧ SqL K H a (ns.map V.int) ∧ ns.length ≤ 63 ∧ Tabs T H ∧ ∀ H', Q (.bl true) H'
section
variable {P : Program} {w : World} {K : PySem.W.Frag} {mg : Str → Option Value} {base : Heap} {C CT aB aV aW aPa aTx aBe aJu aCR : Addr} {dB dV dW dPa dTx dBe dJu dCR : FuncData} {T : List (Addr × Str)}
abbrev nL : List Str := ["script", "draw", "turn", "one", "page", "told", "k", "bent"]
theorem scLw : FnScope nL ["script"] (defScope sLaw) := ⟨rfl, rfl, rfl, by decide +kernel, rfl, by decide +kernel, by decide +kernel⟩
theorem ok_law {f : Addr} {fd : FuncData} (F : Fun K "law" "law" sLaw f fd) (TA : TxtA mg) (cB : Cal P w K mg base "_law_begin" aB dB 1 ["script"] (bx (spBegin K))) (cV : Cal P w K mg base "_law_value" aV dV 4 ["draw"] (bx spVal)) (cW : Cal P w K mg base "_law_written" aW dW 1 ["one"] (bx (spWri K)))
    (cP : Cal P w K mg base "parse_number" aPa dPa 6 ["text"] (bx (spPar K CT))) (kP : KBinds K dPa ["text"] ["text"] onG onV) (cT : Cal P w K mg base "number_text" aTx dTx 4 ["value"] (bx (spTxt K C))) (kT : KBinds K dTx ["value"] ["value"] onG onV)
    (cE : Cal P w K mg base "_law_bent" aBe dBe 4 ["draw", "page"] (bx spBen)) (cJ : Cal P w K mg base "_law_judged" aJu dJu 9 ["page"] (bx (spJud T))) (cR : Cal P w K mg base "_law_chosen_right" aCR dCR 10 [] (bx (spChR T))) : FnG P w K mg base 11 f fd ["script"] (spLaw K T) := by
  refine okG F scLw (fun vs H Q E h => ?_) (fun cdv A outer s H vs Q E hr hgd h => ?_)
  · obtain ⟨a, ns, rfl, _⟩ := h
    rfl
  · obtain ⟨a, ns, rfl, hS, hl, hT, fin⟩ := h
    refine ⟨_, pss_cons (ps_set (i := 1) scLw.nd rfl (Or.inl rfl) (pe_cal cB (hr.mono (by decide)) hgd (pa_cons (pv 0) pa_nil)))
      (pss_cons (ps_for PassesOwn.leaving rfl (pi_range1 rfl TA.range (pa_cons (pe_op op_add pe_int (pe_callB (call_min2 rfl) (by rfl) TA.min (by decide +kernel) (pa_cons pe_int (pa_cons (pe_op op_mul pe_int (pe_callB call_len_seq (by rfl) TA.len PySem.boot_len (pa_cons (pv 0) pa_nil))) pa_nil)))) pa_nil)) (pg_name (i := 2) scLw.nd rfl (Or.inl rfl))
        (pss_cons (ps_set (i := 3) scLw.nd rfl (Or.inl rfl) (pe_cal cV (hr.mono (by decide)) hgd (pa_cons (pv 1) pa_nil)))
        (pss_cons (ps_set (i := 4) scLw.nd rfl (Or.inl rfl) (pe_cal cW (hr.mono (by decide)) hgd (pa_cons (pv 3) pa_nil)))
        (pss_cons (ps_set (i := 5) scLw.nd rfl (Or.inl rfl) (pe_lst (pa_cons (pe_cal cP (hr.mono (by decide)) hgd (pa_cons (pv 4) pa_nil)) (pa_cons (pe_calK cP kP (hr.mono (by decide)) hgd (pk_cons (pv 4) pk_nil)) (pa_cons (pe_cal cT (hr.mono (by decide)) hgd (pa_cons (pv 3) pa_nil)) (pa_cons (pe_calK cT kT (hr.mono (by decide)) hgd (pk_cons (pv 3) pk_nil)) pa_nil))))))
        (pss_cons (ps_if (pt_cmpR op_ne (pe_callB (call_rep hr hgd) (by rfl) TA.rep (by decide +kernel) (pa_cons (pv 5) pa_nil)) (pe_callB (call_rep hr hgd) (by rfl) TA.rep (by decide +kernel) (pa_cons (pe_lst (pa_cons (pv 3) (pa_cons (pv 3) (pa_cons (pv 4) (pa_cons (pv 4) pa_nil))))) pa_nil)) (nomark _)) (pss_one (ps_ret pe_bl)) pss_nil)
        (pss_one (ps_for PassesOwn.leaving rfl (pi_range1 rfl TA.range (pa_cons pe_int pa_nil)) (pg_name (i := 6) scLw.nd rfl (Or.inl rfl))
          (pss_cons (ps_set (i := 7) scLw.nd rfl (Or.inl rfl) (pe_cal cE (hr.mono (by decide)) hgd (pa_cons (pv 1) (pa_cons (pv 4) pa_nil))))
          (pss_one (ps_if (PW.pt (pw_or (pt_not (pt_val (pe_cal cJ (hr.mono (by decide)) hgd (pa_cons (pv 7) pa_nil)))) (pw_or1 (pt_not (pt_val (pe_cal cJ (hr.mono (by decide)) hgd (pa_cons (pe_cal cE (hr.mono (by decide)) hgd (pa_cons (pv 1) (pa_cons (pv 7) pa_nil))) pa_nil))))))) (pss_one (ps_ret pe_bl)) pss_nil))))))))))
      (pss_one (ps_ret (pe_callG0 cR.fn hr hgd rfl cR.g cR.k cR.b)))), ?_⟩
    refine ⟨_, rfl, begin_ok hS hl fun p c H1 D1 s1 => ?_⟩
    refine ⟨_, rfl, a, _, rfl, .inl (s1.seq hS), _, _, rfl, rfl, .inl ⟨by decide, by decide⟩, _, _, rfl, ?_⟩
    generalize hj : (if (2 * (((ns.map V.int).length : Nat) : Int)) < 8 then (2 * (((ns.map V.int).length : Nat) : Int)) else 8) = m
    have m0 : 0 ≤ m ∧ m ≤ 8 := by
      rw [← hj]
      split <;> omega
    refine ⟨_, _, rfl, rfl, ?_⟩
    have T1 := hT.ext s1
    refine ⟨8 + m, rfl, by omega, by omega, for_range (lo := 0) (n := (8 + m).toNat) (fun i σ H' => ∃ k2 k3 k4 k5 k6 k7 : Option V, σ = [some (.ref a), some (.ref p), k2, k3, k4, k5, k6, k7] ∧ DrawAt H' p c (100 * i) ∧ Tabs T H') ⟨_, _, _, _, _, _, rfl, D1, T1⟩ (fun t σ H' ht hP => ?_) (fun σ H' hP => ?_)⟩
    · obtain ⟨k2, k3, k4', k5, k6, k7, rfl, D', T'⟩ := hP
      refine ⟨_, rfl, val_ok D' (by omega) fun q x y H2 D2 K2 h2 num zx zy => ?_⟩
      have T2 := tabs_kp D' K2 T'
      have lt2 : (10 : Nat) ^ 400 < 2 ^ 1500 := by decide +kernel
      have zx' : x.natAbs < 2 ^ 1500 := by omega
      have zy' : y.natAbs < 2 ^ 1500 := by omega
      obtain ⟨asT, lenT⟩ := txt_as zx zy
      have rd := num_txt num zx zy
      refine ⟨_, rfl, wri_ok (.of h2) zx' zy' ?_⟩
      generalize hl' : txtL x y = l at *
      refine ⟨_, rfl, par_ok rd asT (by omega) fun q1 H3 s3 h3 => ?_⟩
      refine ⟨_, rfl, par_ok rd asT (by omega) fun q2 H4 s4 h4 => ?_⟩
      have h2b : SqT K H4 q [.int x, .int y] := .of (s4 _ _ (s3 _ _ h2))
      refine ⟨_, rfl, txt_ok h2b num zx' zy' ?_⟩
      rw [hl']
      refine ⟨_, rfl, txt_ok h2b num zx' zy' ?_⟩
      rw [hl']
      refine ⟨by rw [sizeLine_eq]; show 4 ≤ 16777216; decide, fun v1 n1 => ?_⟩
      generalize hG : upd H4 v1 _ = H5
      obtain ⟨s5, h5⟩ := same_of n1 hG
      clear hG n1
      refine ⟨_, rfl, rep_ok (d := .list [.tuple [.int x, .int y], .tuple [.int x, .int y], .str (S l), .str (S l)]) (.lst (.of h5) (.cons (dp_mk (.of (s5 _ _ (s4 _ _ h3)))) (.cons (dp_mk (.of (s5 _ _ h4))) (.cons (.str _) (.cons (.str _) .nil))))) (fit_four zx' zy' asT lenT) ?_⟩
      refine ⟨_, rfl, _, rfl, _, rfl, _, rfl, by rw [sizeLine_eq]; show 4 ≤ 16777216; decide, fun v2 n2 => ?_⟩
      generalize hG : upd H5 v2 _ = H6
      obtain ⟨s6, h6⟩ := same_of n2 hG
      clear hG n2
      have h26 : SqT K H6 q [.int x, .int y] := sqT_same (same_tr s5 s6) h2b
      refine rep_ok (d := .list [.tuple [.int x, .int y], .tuple [.int x, .int y], .str (S l), .str (S l)]) (.lst (.of h6) (.cons (dp_mk h26) (.cons (dp_mk h26) (.cons (.str _) (.cons (.str _) .nil))))) (fit_four zx' zy' asT lenT) ?_
      refine ⟨rfl, _, rfl, iteNS rfl ?_⟩
      have S6 : Same H2 H6 := same_tr s3 (same_tr s4 (same_tr s5 s6))
      have D6 := D2.same S6
      have T6 := T2.ext S6
      refine ⟨5, rfl, by omega, by omega, for_range (lo := 0) (n := 5) (fun j σ H' => ∃ k6 k7 : Option V, σ = [some (.ref a), some (.ref p), some (.int (0 + t)), some (.ref q), some (.str (S l)), some (.ref v1), k6, k7] ∧ DrawAt H' p c (100 * t + 20 + 10 * j) ∧ Tabs T H') ⟨_, _, rfl, D6.mono (by omega), T6⟩ (fun j σ H7 hj' hP => ?_) (fun σ H7 hP => ?_)⟩
      · obtain ⟨k6, k7, rfl, D7, T7⟩ := hP
        refine ⟨_, rfl, _, rfl, ben_ok D7 (by omega) asT (by omega) fun m1 H8 D8 K8 a8 l8 => ?_⟩
        have T8 := tabs_kp D7 K8 T7
        refine ⟨_, rfl, jud_ok a8 (by omega) T8 fun H9 e9 T9 => ⟨_, rfl, iteF ?_⟩⟩
        have D9 := ext_draw e9 D8
        refine ⟨_, rfl, _, rfl, ben_ok D9 (by omega) a8 (by omega) fun m2 H10 D10 K10 a10 l10 => ?_⟩
        have T10 := tabs_kp D9 K10 T9
        refine jud_ok a10 (by omega) T10 fun H11 e11 T11 => ⟨_, rfl, iteF ?_⟩
        exact ⟨_, _, rfl, (ext_draw e11 D10).mono (by omega), T11⟩
      · obtain ⟨k6, k7, rfl, D7, T7⟩ := hP
        exact ⟨_, _, _, _, _, _, rfl, D7.mono (by omega), T7⟩
    · obtain ⟨k2, k3, k4', k5, k6, k7, rfl, D', T'⟩ := hP
      exact chr_ok T' fun H2 _ _ => fin H2
end
end K5
set_option Elab.async false
set_option linter.all false
set_option maxRecDepth 100000
set_option maxHeartbeats 4000000
/-! # The law is called where nothing is being shown; tables of code objects are tracked -/
namespace Rm
open PySem PySem.Spec PyProof.Rows L2 RmX LamX
section
variable {P : Program} {w : World} {K : PySem.W.Frag} {mg mb : Str → Option Value} {k : Nat} {fa a : Addr} {fd : FuncData} {x : Str} {sp : Sp} {t : Shared} {cells : List Value} {ns : List Int} {cs : List (Addr × Addr)}
/-- the tables at the start: they stand, empty, out of the written part -/
structure TabsAt (K : PySem.W.Frag) (h : Heap) (cs : List (Addr × Addr)) : Prop where
  there : ∀ p ∈ cs, h.get? p.2 = some { cls := .none, data := .fields #[] }
  out : ∀ p ∈ cs, K.lookup p.2 = none
  code : ∀ p ∈ cs, PySem.W.CodeHd h p.1 p.2
/-- a view of the heap: the script and the tables alone may be tracked -/
structure ViewT (P : Program) (w : World) (K : PySem.W.Frag) (t : Shared) (a : Addr) (cs : List (Addr × Addr)) (xs : List V) (T : Hp) : Prop where
  tabs : ∀ p ∈ cs, T p.2 = some (.tbl #[])
  list : SqL K T a xs
  holds : HOk P w T t.heap
  only : ∀ b, T b = none ∨ (∃ p ∈ cs, b = p.2) ∨ (b = a ∧ ∃ o ys, T b = some (.frz o (.lst ys)))
  out : T a ≠ none → K.lookup a = none
theorem lawT_view {T : Hp} (kin : K.In t.heap) (gl : t.heap.Ns mainGlobals mg) (bl : t.heap.Ns builtinsNs mb) (bb : ∀ y : Str, y ≠ "__name__" → mb y = bootBuiltins y) (nol : t.heap.NoLimit) (gens : t.gens = #[]) (A : TabsAt K t.heap cs)
    (hbm : ∃ (bm : Addr) (ob : Obj), mg "__builtins__" = some (.ref bm) ∧ bm ≠ builtinsNs ∧ t.heap.get? bm = some ob ∧ ob.cls = .type "module" ∧ ob.dict = some builtinsNs ∧ ob.data = .plain)
    (obj : t.heap.get? a = some { cls := .type "list", data := .seq cells.toArray }) (rm : Room k callerA)
    (promise : ∀ base : Heap, K.In base → base.Ns mainGlobals mg → (∀ p ∈ cs, TabB base mg p.1 p.2) → FnG P w K mg base k fa fd [x] sp) (bnd : ∀ (s : Shared) (u : Value), BindsTo s fd ⟨[u], []⟩ [(x, u)])
    (V1 : ViewT P w K t a cs (ns.map V.int) T) (kept : sp [.ref a] T (fun v _ => v = .bl true) fun _ _ _ => False) :
    codeAny (model P w) callerA (.call (.ref fa) ⟨[.ref a], []⟩) (Fin1 t) t := by
  -- what is neither the list nor a table is not tracked
  have untr : ∀ {b : Addr} {o : Obj}, t.heap.get? b = some o → (∀ vs n, o.data ≠ .seq vs n) → o.data ≠ .fields #[] → T b = none := by
    intro b o e h1 h2
    rcases V1.only b with z | ⟨p, hp, rfl⟩ | ⟨rfl, _⟩
    · exact z
    · rw [A.there p hp] at e
      cases e
      exact absurd rfl h2
    · rw [obj] at e
      cases e
      exact absurd rfl (h1 _ _)
  have space : ∀ {b : Addr} {m : Str → Option Value}, t.heap.Ns b m → (hidT t.heap T).Ns b m := by
    rintro b m ⟨o, es, ep, e, d, r⟩
    exact ⟨o, es, ep, hidT_get e (untr e (fun vs n z => by rw [d] at z; cases z) (fun z => by rw [d] at z; cases z)), d, r⟩
  have kbase : K.In (hidT t.heap T) := by
    intro b o e
    refine hidT_get (kin b o e) ?_
    rcases V1.only b with z | ⟨p, hp, rfl⟩ | ⟨rfl, o', ys, z⟩
    · exact z
    · rw [A.out p hp] at e
      cases e
    · rw [V1.out (by rw [z]; exact fun q => nomatch q)] at e
      cases e
  have nolim : (hidT t.heap T).NoLimit := by
    obtain ⟨mc, l1, l2⟩ := nol
    exact ⟨mc, space l1, l2⟩
  have modu : Mod K mg (hidT t.heap T) := ⟨kbase, space gl, ⟨mb, space bl, bb⟩, nolim⟩
  have tb : ∀ p ∈ cs, TabB (hidT t.heap T) mg p.1 p.2 := by
    intro p hp
    have ep := A.there p hp
    refine ⟨?_, ?_, fun z => ?_⟩
    · obtain ⟨o, us, file, tf, flags, tg, inF, text, tt, e1, r1, r2, r3, r4, r5, r6, r7, r8, hne⟩ := A.code p hp
      refine ⟨o, us, file, tf, flags, tg, inF, text, tt, hidT_get e1 (untr e1 (fun vs n z => ?_) fun z => ?_), r1, r2, r3, r4, r5, r6, r7, r8, hne⟩
      · rw [r2] at z; cases z
      · rw [r2] at z; cases z; simp at r3
    · obtain ⟨bm, ob, b1, b2, b3, b4, b5, b6⟩ := hbm
      have nG : bm ≠ mainGlobals := fun q => by
        obtain ⟨o, es, en, e, hd, _⟩ := gl
        rw [q, e] at b3
        cases b3
        rw [hd] at b6; cases b6
      have nP : bm ≠ p.2 := fun q => by
        rw [q, ep] at b3
        cases b3; cases b6
      refine ⟨bm, ob, b1, b2, nG, nP, hidT_get b3 (untr b3 (fun vs n z => ?_) fun z => ?_), b4, b5, b6⟩
      · rw [b6] at z; cases z
      · rw [b6] at z; cases z
    · obtain ⟨o, es, en, e, hd, _⟩ := gl
      rw [z, ep] at e
      cases e; cases hd
  have enter : Env0 P w K mg (hidT t.heap T) callerA [] t T :=
    ⟨rfl, modu, fun b o => of_hidT, Nat.le_of_eq (hidT_size _ _), trivial, (fun b z => nomatch z), V1.holds, .of_eq gens⟩
  have ran := (promise _ kbase (space gl) tb).run callerA [] t T ⟨[.ref a], []⟩ [.ref a] [.ref a] _ _ rm rfl enter (bnd t (.ref a)) (.cons rfl .nil) kept
  refine codeAny_mono ran ?_
  rintro (e | fl) t' h
  · obtain ⟨_, _, _, _, _, _, _, _, _, _, _, _, z⟩ := h
    exact z.elim
  · cases fl with
    | ret u =>
      obtain ⟨v, T', hos, hb, un, ok', rv, ev⟩ := h
      have ev : v = .bl true := ev
      rw [ev] at rv
      have eu : u = Value.bool true := rv
      rw [eu]
      have grown : ∀ p ∈ cs, ∃ more : Array Value, t'.heap.get? p.2 = some { cls := .none, data := .fields more } := fun p hp => by
        obtain ⟨more, z⟩ := un.tbls p.2 #[] (V1.tabs p hp)
        exact ⟨_, ok' p.2 _ z⟩
      have plain : ∀ b o, (¬ ∃ p ∈ cs, b = p.2) → t.heap.get? b = some o → t'.heap.get? b = some o := fun b o nb e => by
        rcases V1.only b with z | z | ⟨_, ob, ys, z⟩
        · exact un.keep b o e z (fun z => nomatch z) (fun z => nomatch z)
        · exact absurd z nb
        · have e1 := (V1.holds b _ z).1
          have e2 := (ok' b _ (un.frzs b ob _ z)).1
          rw [e] at e1
          cases e1
          exact e2
      refine ⟨rfl, ⟨fun b o e => ?_, fun b o e => ?_⟩, hos, hb⟩
      · by_cases hb : ∃ p ∈ cs, b = p.2
        · obtain ⟨p, hp, rfl⟩ := hb
          obtain ⟨more, hm⟩ := grown p hp
          rw [A.there p hp] at e
          cases e
          exact .inr (.inl ⟨((A.code p hp).tab (A.there p hp)).isCodeTable, rfl, #[], more, rfl, by rw [Array.empty_append]; exact hm⟩)
        · exact .inl (plain b o hb e)
      · by_cases hb : ∃ p ∈ cs, b = p.2
        · obtain ⟨p, hp, rfl⟩ := hb
          obtain ⟨more, hm⟩ := grown p hp
          exact ⟨_, hm⟩
        · exact ⟨o, plain b o hb e⟩
    | next => exact h.elim
    | brk => exact h.elim
    | cont => exact h.elim
theorem lawT_call (kin : K.In t.heap) (gl : t.heap.Ns mainGlobals mg) (bl : t.heap.Ns builtinsNs mb) (bb : ∀ y : Str, y ≠ "__name__" → mb y = bootBuiltins y) (nol : t.heap.NoLimit) (gens : t.gens = #[]) (A : TabsAt K t.heap cs)
    (hbm : ∃ (bm : Addr) (ob : Obj), mg "__builtins__" = some (.ref bm) ∧ bm ≠ builtinsNs ∧ t.heap.get? bm = some ob ∧ ob.cls = .type "module" ∧ ob.dict = some builtinsNs ∧ ob.data = .plain)
    (obj : t.heap.get? a = some { cls := .type "list", data := .seq cells.toArray }) (whole : IntsAre cells ns) (len : ns.length ≤ sizeLine) (rm : Room k callerA)
    (promise : ∀ base : Heap, K.In base → base.Ns mainGlobals mg → (∀ p ∈ cs, TabB base mg p.1 p.2) → FnG P w K mg base k fa fd [x] sp) (bnd : ∀ (s : Shared) (u : Value), BindsTo s fd ⟨[u], []⟩ [(x, u)])
    (kept : ∀ T : Hp, (∀ p ∈ cs, T p.2 = some (.tbl #[])) → SqL K T a (ns.map V.int) → sp [.ref a] T (fun v _ => v = .bl true) fun _ _ _ => False) :
    codeAny (model P w) callerA (.call (.ref fa) ⟨[.ref a], []⟩) (Fin1 t) t := by
  classical
  have rel : Vals (ns.map V.int) cells := L2.vals_ints whole
  have cnt : cells.length = ns.length := whole.length
  have apart : ∀ p ∈ cs, p.2 ≠ a := fun p hp z => by
    have e := A.there p hp
    rw [z, obj] at e
    cases e
  let tab : Addr → Option HO := fun b => if ∃ p ∈ cs, b = p.2 then some (.tbl #[]) else none
  have tab_at : ∀ p ∈ cs, tab p.2 = some (.tbl #[]) := fun p hp => if_pos ⟨p, hp, rfl⟩
  have tab_or : ∀ b, tab b = none ∨ (∃ p ∈ cs, b = p.2) := fun b => by
    by_cases h : ∃ p ∈ cs, b = p.2
    · exact .inr h
    · exact .inl (if_neg h)
  have tab_ok : ∀ b u, tab b = some u → ObjOk P w tab t.heap b u → True := fun _ _ _ _ => trivial
  rcases hl : K.lookup a with _ | o
  · let T : Hp := fun b => if b = a then some (.frz { cls := .type "list", data := .seq cells.toArray } (.lst (ns.map V.int))) else tab b
    have Ta : T a = some (.frz { cls := .type "list", data := .seq cells.toArray } (.lst (ns.map V.int))) := if_pos rfl
    have Tn : ∀ b, b ≠ a → T b = tab b := fun b h => if_neg h
    have VW : ViewT P w K t a cs (ns.map V.int) T := by
      refine ⟨fun p hp => (Tn _ (apart p hp)).trans (tab_at p hp), .inl (.inr ⟨_, Ta⟩), fun b u e => ?_, fun b => ?_, fun _ => hl⟩
      · by_cases hb : b = a
        · subst hb
          rw [Ta] at e
          cases e
          exact ⟨obj, by rw [List.length_map]; exact len, cells, _, rel, obj⟩
        · rw [Tn b hb] at e
          rcases tab_or b with z | ⟨p, hp, rfl⟩
          · rw [z] at e; cases e
          · rw [tab_at p hp] at e
            cases e
            exact A.there p hp
      · by_cases hb : b = a
        · subst hb
          exact .inr (.inr ⟨rfl, _, _, Ta⟩)
        · rw [Tn b hb]
          rcases tab_or b with z | z
          · exact .inl z
          · exact .inr (.inl z)
    exact lawT_view kin gl bl bb nol gens A hbm obj rm promise bnd VW (kept _ VW.tabs VW.list)
  · have e := kin a o hl
    rw [obj] at e
    cases e
    have Ta : tab a = none := if_neg fun ⟨p, hp, z⟩ => apart p hp z.symm
    have VW : ViewT P w K t a cs (ns.map V.int) tab := by
      refine ⟨tab_at, .inr ⟨_, cells.toArray, _, hl, rfl, rfl, rfl, ?_, by simpa using rel⟩, fun b u e => ?_, fun b => ?_, fun z => absurd Ta z⟩
      · rw [List.size_toArray, cnt]
        exact len
      · rcases tab_or b with z | ⟨p, hp, rfl⟩
        · rw [z] at e; cases e
        · rw [tab_at p hp] at e
          cases e
          exact A.there p hp
      · rcases tab_or b with z | z
        · exact .inl z
        · exact .inr (.inl z)
    exact lawT_view kin gl bl bb nol gens A hbm obj rm promise bnd VW (kept _ VW.tabs VW.list)
end
/-- what is known of the law's promise at the head's heap -/
structure LawAtG (l : PySem.W.OpenLaw) (w : World) (k n : Nat) (x : Str) (mg : Str → Option Value) (fa : Addr) (h : Heap) : Prop where
  ex : ∃ (K : PySem.W.Frag) (fd : FuncData) (cs : List (Addr × Addr)) (sp : Sp), K.In h ∧ TabsAt K h cs ∧ (∀ (s : Shared) (u : Value), BindsTo s fd ⟨[u], []⟩ [(x, u)]) ∧
    (∀ (T : Hp) (a : Addr) (ns : List Int), ns.length ≤ n → (∀ z ∈ ns, Builtin.Int.intBits z ≤ 1048576) → (∀ p ∈ cs, T p.2 = some (.tbl #[])) → SqL K T a (ns.map V.int) → sp [.ref a] T (fun v _ => v = .bl true) fun _ _ _ => False) ∧
    ∀ base : Heap, K.In base → base.Ns mainGlobals mg → (∀ p ∈ cs, TabB base mg p.1 p.2) → FnG l.prog w K mg base k fa fd [x] sp
theorem walk_ofT {l : PySem.W.OpenLaw} {n k : Nat} {q : Program} {loose : List Str} {XP : (Str → Option Value) → Heap → Prop} {YP : World → Heap → Prop} {d : DefRec} {x : Str}
    (most : l.most = some n) (fits : n ≤ sizeLine) (nodef : d.params.defaults = []) (rm : Room k callerA)
    (F : ∀ (w : World) (mg : Str → Option Value) (fa : Addr) (h : Heap), YP w h → h.Ns mainGlobals mg → mg d.name = some (.ref fa) → LawAtG l w k n x mg fa h) :
    PySem.W.WalkO q loose XP YP l.row.toRowW d [] (fun f vs => PySem.call f vs) := by
  refine Att.attach_callB most nodef fun w s₀ t mg mb fa o pm cd doc a cells ns G Y ho hd hcd hmg hobj hints hlen hbits hg => ?_
  obtain ⟨K, fd, cs, sp, kin, A, bnd, kept, promise⟩ := (F w mg fa _ Y G.T.g hmg).ex
  exact lawT_call kin G.T.g G.T.b G.T.builtins G.T.nolimit hg A G.T.bmain hobj hints (Nat.le_trans hlen fits) rm promise bnd fun T hT hS => kept T a ns hlen hbits hT hS
end Rm
set_option Elab.async false
set_option linter.all false
set_option maxRecDepth 100000
set_option maxHeartbeats 40000000
/-! # The head of any law: lists tell what is looked at; exception classes with their own initialiser, defs, names, tables -/
namespace Hd
open PySem PySem.Spec PyProof.Rows L2 RmX Rm
/-- an exception class: its name, its field, the built-in above its family, its statement -/
structure Cd where
  nm : Str
  F : Str
  B : String
  newId : String
  initId : String
  bm : List Value
  st : Stmt
def iniS (d : Cd) : Stmt := match d.st with
  | .ClassDef _ _ _ b _ _ _ _ _ _ _ => b.getD 0 (.Pass ⟨0, 0, 0, 0⟩)
  | s => s
def cC (K : PySem.W.Frag) (d : Cd) : Addr := He.ga K d.nm
def fI (K : PySem.W.Frag) (d : Cd) : Addr := He.ma K (cC K d) "__init__"
def shapeB (K : PySem.W.Frag) (C : Addr) (bmB : List Value) (newId : String) : Bool := match K.lookup C with
  | some ⟨.type "type", _, .cls cd, sl⟩ => (match cd.mro, sl.toList with
    | .ref C' :: bm, [_, _, _, _, some (.builtin n), _] => (C' == C && n == newId) && (cd.hasDict && (!cd.hasDel && PySem.W.excTail bmB bm))
    | _, _ => false)
  | _ => false
theorem shape_ok {K : PySem.W.Frag} {C : Addr} {bmB : List Value} {newId : String} (h : shapeB K C bmB newId = true) : ∃ nm q N bs bm sn sub ab col dd k0 k1 k2 k3 k5, K.lookup C = some (excClassObj nm q C N bs bm true sn sub ab col dd k0 k1 k2 k3 k5 newId) ∧ PySem.W.excTail bmB bm = true := by
  unfold shapeB at h
  split at h
  · rename_i dd cd sl ho
    split at h
    · rename_i C' bm k0 k1 k2 k3 n k5 hm hs
      simp only [Bool.and_eq_true, beq_iff_eq, Bool.not_eq_true'] at h
      obtain ⟨⟨rfl, rfl⟩, hdc, hdel, ht⟩ := h
      obtain ⟨nm, bs, mro, ns, qn, hd, sn, sub, ab, col, del⟩ := cd
      dsimp only at hm hdel hdc
      subst hm hdel hdc
      obtain ⟨l⟩ := sl
      dsimp only at hs
      subst hs
      exact ⟨nm, qn, ns, bs, bm, sn, sub, ab, col, dd, k0, k1, k2, k3, k5, ho, ht⟩
    · cases h
  · cases h
def codeB (P : Program) (K : PySem.W.Frag) (C f : Addr) : Bool := match K.lookup f with
  | some ⟨_, _, .func fd, _⟩ => (match fd.code, fd.closure with
    | .ref cda, [(_, cc)] => PySem.W.codeIn K (.ref cda) fd.qualname && ((match K.lookup cc with
      | some ⟨_, _, .cell (some (.ref C')), _⟩ => C' == C
      | _ => false) && (match K.lookup cda with
      | some ⟨_, _, .fields vs, _⟩ => (match (vs[2]? : Option Value) with
        | some (Value.str file _) => (P.main.file : Str) == file
        | _ => false)
      | _ => false))
    | _, _ => false)
  | _ => false
abbrev IniV : Type := Option (Str × Arguments × FuncBody × Scope × Addr × List Str × Value × Value × Addr)
def iniV (K : PySem.W.Frag) (d : Cd) : IniV := match K.lookup (fI K d) with
  | some ⟨_, _, .func fd, _⟩ => some (fd.name, fd.params, fd.body, fd.scope, fd.globals, fd.closure.map (·.1), fd.defaults, fd.kwdefaults, fd.builtins)
  | _ => none
def iniE (d : Cd) : IniV := some (("__init__" : Str), defArgs (iniS d), FuncBody.stmts (defBody (iniS d)), defScope (iniS d), mainGlobals, [("__class__" : Str)], Value.none, Value.none, builtinsNs)
def clsB (P : Program) (K : PySem.W.Frag) (d : Cd) : Bool := decide (PySem.W.nsIn K mainGlobals d.nm = some (some (.ref (cC K d)))) && (shapeB K (cC K d) d.bm d.newId && (codeB P K (cC K d) (fI K d) && (decide (PySem.W.findIn K (.ref (cC K d)) "__setattr__" = some (some (.builtin "object.__setattr__"))) && (decide (PySem.W.findIn K (.ref (cC K d)) "__getattribute__" = some (some (.builtin "BaseException.__getattribute__"))) && (decide (PySem.W.findIn K (.ref (cC K d)) "__getattr__" = some none) && (decide (PySem.W.findIn K (.ref (cC K d)) d.F = some none) && (decide (PySem.W.findIn K (.ref (cC K d)) "__init__" = some (some (.ref (fI K d)))) && (decide (PySem.W.typeIn K (.ref (fI K d)) = some (.type "function")) && (decide (PySem.W.keepIn K (.ref (cC K d)) = true) && (decide (PySem.W.subIn K (.ref (cC K d)) (.type "BaseException") = some true) && (decide (PySem.W.typeIn K (.ref (cC K d)) = some (.type "type")) && (decide (PySem.W.hasDictIn K (cC K d) = true) && (decide (PySem.W.ks_superIn K (cC K d) (cC K d) "__init__" = some (some (.builtin d.initId))) && (decide (PySem.W.subIn K (.ref (cC K d)) (.type d.B) = some true) && (decide (PySem.W.mroIn K (cC K d) (.ref (cC K d)) = some true) && (decide (PySem.W.nsIn K cStatics "thirdparty.any" = some none) && (decide (PySem.W.nsIn K mainGlobals "super" = some none) && (decide (PySem.W.findIn K (.ref (cC K d)) "__class__" = some (some (.builtin "object.__class__"))) && (decide (PySem.W.specialIn K (.builtin "object.__class__") "__get__" = some (some (.builtin "getset_descriptor.__get__"))) && (decide (PySem.W.takesIn K (.builtin "object.__class__") = some true) && (decide (PySem.W.mroIn K (cC K d) (.type "object") = some true))))))))))))))))))))))
theorem ini_ok {P : Program} {K : PySem.W.Frag} {d : Cd} (c : codeB P K (cC K d) (fI K d) = true) (e : iniV K d = iniE d) :
    ∃ (oc : Value) (od : Option Addr) (doc pm : Value) (an : Option Addr) (cda cc : Addr) (ct : Value) (osl : Array (Option Value)) (qual : Str), K.lookup (fI K d) = some ⟨oc, od, .func (PySem.W.fnX "__init__" qual (defArgs (iniS d)) (defBody (iniS d)) (defScope (iniS d)) [("__class__", cc)] .none .none doc pm an (.ref cda) ct), osl⟩ ∧ PySem.W.codeIn K (.ref cda) qual = true ∧
      (∃ cl cld csl, K.lookup cc = some ⟨cl, cld, .cell (some (.ref (cC K d))), csl⟩) ∧ ∃ ccl cdd vs ccs file tf, K.lookup cda = some ⟨ccl, cdd, .fields vs, ccs⟩ ∧ vs[2]? = some (.str file tf) ∧ ((P.main.file : Str) == file) = true := by
  unfold codeB at c
  unfold iniV at e
  split at c
  · rename_i oc od fd osl hl
    rw [hl] at e
    split at c
    · rename_i cda x cc hcode hclo
      simp only [Bool.and_eq_true] at c
      obtain ⟨c1, c2, c3⟩ := c
      obtain ⟨n1, n2, n3, n4, n5, n6, n7, n8, n9, n10, n11, n12, n13, n14, n15⟩ := fd
      have e2 : (some (n1, n3, n4, n5, n6, n7.map (·.1), n8, n9, n15) : IniV) = some (("__init__" : Str), defArgs (iniS d), FuncBody.stmts (defBody (iniS d)), defScope (iniS d), mainGlobals, [("__class__" : Str)], Value.none, Value.none, builtinsNs) := e
      simp only [Option.some.injEq, Prod.mk.injEq] at e2
      obtain ⟨h1, h3, h4, h5, h6, h7, h8, h9, h15⟩ := e2
      dsimp only at hcode hclo c1
      subst h1 h3 h4 h5 h6 h8 h9 h15 hcode hclo
      have hx : x = ("__class__" : Str) := by simpa using h7
      subst hx
      split at c2
      · rename_i cl cld C' csl hcc
        have ec : C' = cC K d := beq_iff_eq.mp c2
        subst ec
        split at c3
        · rename_i ccl cdd vs ccs hcd
          split at c3
          · rename_i file tf hv
            exact ⟨oc, od, n10, n11, n12, cda, cc, n14, osl, n2, hl, c1, ⟨_, _, _, hcc⟩, ⟨_, _, _, _, file, tf, hcd, hv, c3⟩⟩
          · cases c3
        · cases c3
      · cases c2
    · cases c
  · cases c
/-- what the initialiser's text is -/
structure CdTxt (d : Cd) : Prop where
  args : ∃ p1 p2, defArgs (iniS d) = iA d.F p1 p2
  body : ∃ tx q1 q2 q3 q4 q5 q6 q7 q8 q9 r1 r2 r3 r4, tx.length ≤ 200 ∧ (q3.endLine == q8.line) = true ∧ defBody (iniS d) = iB d.F tx q1 q2 q3 q4 q5 q6 q7 q8 q9 r1 r2 r3 r4
  scope : defScope (iniS d) = iS d.F
theorem ext_mk {P : Program} {K : PySem.W.Frag} {mg : Str → Option Value} {C fI : Addr} {F : Str} {B newId initId : String} {bmB : List Value}
    (cls : ∃ nm q N bs bm sn sub ab col dd k0 k1 k2 k3 k5, K.lookup C = some (excClassObj nm q C N bs bm true sn sub ab col dd k0 k1 k2 k3 k5 newId) ∧ PySem.W.excTail bmB bm = true)
    (sa : PySem.W.findIn K (.ref C) "__setattr__" = some (some (.builtin "object.__setattr__"))) (ga : PySem.W.findIn K (.ref C) "__getattribute__" = some (some (.builtin "BaseException.__getattribute__"))) (gg : PySem.W.findIn K (.ref C) "__getattr__" = some none) (nF : PySem.W.findIn K (.ref C) F = some none)
    (iC : PySem.W.findIn K (.ref C) "__init__" = some (some (.ref fI))) (tI : PySem.W.typeIn K (.ref fI) = some (.type "function")) (kC : PySem.W.keepIn K (.ref C) = true) (ex : PySem.W.subIn K (.ref C) (.type "BaseException") = some true) (ty : PySem.W.typeIn K (.ref C) = some (.type "type")) (hd : PySem.W.hasDictIn K C = true)
    (su : PySem.W.ks_superIn K C C "__init__" = some (some (.builtin initId))) (hB : PySem.W.subIn K (.ref C) (.type B) = some true) (me : PySem.W.mroIn K C (.ref C) = some true) (op : PySem.W.nsIn K cStatics "thirdparty.any" = some none) (ns : PySem.W.nsIn K mainGlobals "super" = some none)
    (ca : PySem.W.findIn K (.ref C) "__class__" = some (some (.builtin "object.__class__"))) (cn : PySem.W.specialIn K (.builtin "object.__class__") "__get__" = some (some (.builtin "getset_descriptor.__get__"))) (ct : PySem.W.takesIn K (.builtin "object.__class__") = some true) (cm : PySem.W.mroIn K C (.type "object") = some true)
    (fn : ∃ (oc : Value) (od : Option Addr) (doc pm : Value) (an : Option Addr) (cda cc : Addr) (ct : Value) (osl : Array (Option Value)) (p1 p2 q1 q2 q3 q4 q5 q6 q7 q8 q9 r1 r2 r3 r4 : Pos) (qual tx : Str), (q3.endLine == q8.line) = true ∧
    K.lookup fI = some ⟨oc, od, .func (PySem.W.fnX "__init__" qual (iA F p1 p2) (iB F tx q1 q2 q3 q4 q5 q6 q7 q8 q9 r1 r2 r3 r4) (iS F) [("__class__", cc)] .none .none doc pm an (.ref cda) ct), osl⟩ ∧ PySem.W.codeIn K (.ref cda) qual = true ∧ tx.length ≤ 200 ∧
    (∃ cl cld csl, K.lookup cc = some ⟨cl, cld, .cell (some (.ref C)), csl⟩) ∧
    ∃ ccl cdd vs ccs file tf, K.lookup cda = some ⟨ccl, cdd, .fields vs, ccs⟩ ∧ vs[2]? = some (.str file tf) ∧ ((P.main.file : Str) == file) = true)
    (top : (P.main.scope.names.lookup ("super" : Str)).isSome = false) :
    ExT P K mg C fI F B newId initId bmB :=
  { cls := cls, sa := sa, ga := ga, gg := gg, noF := nF, iC := iC, tI := tI, kC := kC, exC := ex, tyC := ty, hdC := hd, sup := su, hB := hB, self := me, opq := op, nsup := ns, ca := ca, cn := cn, ct := ct, cm := cm, fn := fn, top := top }
theorem cls_ext {P : Program} {K : PySem.W.Frag} {mg : Str → Option Value} {d : Cd} (h : clsB P K d = true) (e : iniV K d = iniE d) (T : CdTxt d) (top : (P.main.scope.names.lookup ("super" : Str)).isSome = false) :
    PySem.W.nsIn K mainGlobals d.nm = some (some (.ref (cC K d))) ∧ ExT P K mg (cC K d) (fI K d) d.F d.B d.newId d.initId d.bm := by
  unfold clsB at h
  simp only [Bool.and_eq_true, decide_eq_true_eq] at h
  obtain ⟨g, sh, cb, sa, ga, gg, nF, iC, tI, kC, ex, ty, hd, su, hB, me, op, ns, ca, cn, ct, cm⟩ := h
  obtain ⟨nm, q, N, bs, bm, sn, sub, ab, col, dd, m0, m1, m2, m3, m5, xL, hbm⟩ := shape_ok sh
  obtain ⟨oc, od, doc, pm, an, cda, cc, ct', osl, qual, il, ic, ⟨cl, cld, csl, icc⟩, ccl, cdd, vs, ccs, file, tf, icd, if2, ife⟩ := ini_ok cb e
  obtain ⟨p1, p2, eA⟩ := T.args
  obtain ⟨tx, q1, q2, q3, q4, q5, q6, q7, q8, q9, r1, r2, r3, r4, txl, hp, eB⟩ := T.body
  rw [eA, eB, T.scope] at il
  exact ⟨g, ext_mk ⟨nm, q, N, bs, bm, sn, sub, ab, col, dd, m0, m1, m2, m3, m5, xL, hbm⟩ sa ga gg nF iC tI kC ex ty hd su hB me op ns ca cn ct cm ⟨_, _, _, _, _, _, _, _, _, _, _, _, _, _, _, _, _, _, _, _, _, _, _, _, _, _, hp, il, ic, txl, ⟨_, _, _, icc⟩, ⟨_, _, _, _, _, _, icd, if2, ife⟩⟩ top⟩
/-! ### what is looked at -/
structure Look where
  P : Program
  cds : List Cd
  fns : List He.DefD
  free : List Str
  glo : List Str
  blt : List (Str × String)
  tf : List He.Defn
  ex : PySem.W.Frag → Bool
def Look.ok (S : Look) (K : PySem.W.Frag) : Bool := (S.cds.all fun d => clsB S.P K d) && ((S.fns.all fun d => d.ok K) && ((S.free.all fun x => decide (PySem.W.nsIn K mainGlobals x = some none)) && ((S.glo.all fun x => decide (PySem.W.nsIn K mainGlobals x = some (some (.ref (He.ga K x))))) && ((S.blt.all fun q => decide (PySem.W.nsIn K mainGlobals q.1 = some (some (.builtin q.2)))) && S.ex K))))
abbrev Al : Type := Bool × List He.FnW × List IniV
def Look.obs (S : Look) (K : PySem.W.Frag) : Al := (S.ok K, S.fns.map fun d => He.fnW K d.at_, S.cds.map fun d => iniV K d)
def Look.val (S : Look) : Al := (true, S.fns.map He.DefD.val, S.cds.map iniE)
def asX (g : Addr → Option Obj) : Nat → List Addr
  | 0 => [mainGlobals, cStatics]
  | n + 1 => He.growD g (asX g n)
def Look.seen (S : Look) (n : Nat) (g : Addr → Option Obj) : Al × Bool := (S.obs (He.frT g (asX g n)), He.tabsB g S.tf (He.frT g (asX g n)))
structure Says (S : Look) (h : Heap) (K : PySem.W.Frag) : Prop where
  obs : S.obs K = S.val
  hd : ∀ p ∈ S.tf, PySem.W.codeHdIn K (He.cT K p).1 (He.cT K p).2 = true
  out : ∀ p ∈ S.tf, K.lookup (He.cT K p).2 = none
  empty : ∀ p ∈ S.tf, h.get? (He.cT K p).2 = some { cls := .none, data := .fields #[] }
theorem says_of {S : Look} {n : Nat} {h : Heap} (e : S.seen n h.get? = (S.val, true)) : Says S h (He.frT h.get? (asX h.get? n)) := by
  have e1 : S.obs (He.frT h.get? (asX h.get? n)) = S.val := congrArg (fun z : Al × Bool => z.1) e
  have e2 : He.tabsB h.get? S.tf (He.frT h.get? (asX h.get? n)) = true := congrArg (fun z : Al × Bool => z.2) e
  have key : ∀ p ∈ S.tf, PySem.W.codeHdIn (He.frT h.get? (asX h.get? n)) (He.cT (He.frT h.get? (asX h.get? n)) p).1 (He.cT (He.frT h.get? (asX h.get? n)) p).2 = true ∧ ∃ o, h.get? (He.cT (He.frT h.get? (asX h.get? n)) p).2 = some o ∧ He.emptyTab o = true := fun p hp => by
    obtain ⟨h3, h4⟩ := Bool.and_eq_true_iff.mp (List.all_eq_true.mp e2 p hp)
    refine ⟨h3, ?_⟩
    cases q : h.get? (He.cT (He.frT h.get? (asX h.get? n)) p).2 with
    | none => rw [q] at h4; cases h4
    | some o => rw [q] at h4; exact ⟨o, rfl, h4⟩
  refine ⟨e1, fun p hp => (key p hp).1, fun p hp => ?_, fun p hp => ?_⟩
  · obtain ⟨_, o, q, z⟩ := key p hp
    exact He.frT_none q z
  · obtain ⟨_, o, q, z⟩ := key p hp
    rw [q, He.emptyTab_eq z]
def Look.hook (S : Look) (n : Nat) : PySem.W.Hook where
  α := Al × Bool
  obs := fun s => S.seen n s.heap.get?
  val := fun _ => (S.val, true)
  says := fun _ h => ∃ K : PySem.W.Frag, K.In h ∧ Says S h K
  of := fun _ _ e => ⟨_, He.frT_in, says_of e⟩
  keeps := fun _ _ _ ⟨K, hK, c⟩ k => ⟨K, PySem.W.Frag.In.keeps hK k, ⟨c.obs, c.hd, c.out, fun p hp => k _ _ (c.empty p hp)⟩⟩
def Look.ob (S : Look) (n : Nat) (s : PySem.W.SharedT) : Al × Bool := S.seen n (HandSHeadRun.getT s)
theorem Look.ob_eq (S : Look) (n : Nat) (s : PySem.W.SharedT) : S.ob n s = (S.hook n).obs s.abs := by
  have e : HandSHeadRun.getT s = s.abs.heap.get? := funext (HandSHeadRun.getT_eq s)
  show S.seen n (HandSHeadRun.getT s) = S.seen n s.abs.heap.get?
  rw [e]
/-! ### what follows -/
section
variable {S : Look} {h : Heap} {K : PySem.W.Frag} (c : Says S h K)
include c
theorem Says.oks : (∀ d ∈ S.cds, clsB S.P K d = true) ∧ (∀ d ∈ S.fns, d.ok K = true) ∧ (∀ x ∈ S.free, PySem.W.nsIn K mainGlobals x = some none) ∧ (∀ x ∈ S.glo, PySem.W.nsIn K mainGlobals x = some (some (.ref (He.ga K x)))) ∧ (∀ q ∈ S.blt, PySem.W.nsIn K mainGlobals q.1 = some (some (.builtin q.2))) ∧ S.ex K = true := by
  have h1 : S.ok K = true := congrArg (fun z : Al => z.1) c.obs
  unfold Look.ok at h1
  simp only [Bool.and_eq_true, List.all_eq_true, decide_eq_true_eq] at h1
  exact h1
theorem Says.fun_ (i : Nat) {d : He.DefD} (hi : S.fns[i]? = some d) : ∃ fd, FunD K d.name d.qual d.params d.body d.scope (d.dvs K) (d.kws K) (He.fAd K d.at_) fd := by
  have e : S.fns.map (fun d => He.fnW K d.at_) = S.fns.map He.DefD.val := congrArg (fun z : Al => z.2.1) c.obs
  have e2 : (S.fns.map fun d => He.fnW K d.at_)[i]? = (S.fns.map He.DefD.val)[i]? := by rw [e]
  rw [List.getElem?_map, List.getElem?_map, hi] at e2
  exact He.DefD.funD (Option.some.inj e2) (c.oks.2.1 d (List.mem_of_getElem? hi))
theorem Says.ini (i : Nat) {d : Cd} (hi : S.cds[i]? = some d) : clsB S.P K d = true ∧ iniV K d = iniE d := by
  have e : S.cds.map (fun d => iniV K d) = S.cds.map iniE := congrArg (fun z : Al => z.2.2) c.obs
  have e2 : (S.cds.map fun d => iniV K d)[i]? = (S.cds.map iniE)[i]? := by rw [e]
  rw [List.getElem?_map, List.getElem?_map, hi] at e2
  exact ⟨c.oks.1 d (List.mem_of_getElem? hi), Option.some.inj e2⟩
theorem Says.free_ {mg : Str → Option Value} (X : K.In h) (G : h.Ns mainGlobals mg) (x : Str) (hx : x ∈ S.free) : mg x = none := PySem.W.mg_none_of X G (c.oks.2.2.1 x hx)
theorem Says.glo_ {mg : Str → Option Value} (X : K.In h) (G : h.Ns mainGlobals mg) (x : Str) (hx : x ∈ S.glo) : mg x = some (.ref (He.ga K x)) := PySem.W.mg_of X G (c.oks.2.2.2.1 x hx)
theorem Says.blt_ {mg : Str → Option Value} (X : K.In h) (G : h.Ns mainGlobals mg) (x : Str) (y : String) (hx : (x, y) ∈ S.blt) : mg x = some (.builtin y) := PySem.W.mg_of X G (c.oks.2.2.2.2.1 _ hx)
theorem Says.ex_ : S.ex K = true := c.oks.2.2.2.2.2
theorem Says.tabs (X : K.In h) : TabsAt K h (S.tf.map (He.cT K)) := by
  refine ⟨fun p hp => ?_, fun p hp => ?_, fun p hp => ?_⟩
  · obtain ⟨q, hq, rfl⟩ := List.mem_map.mp hp
    exact c.empty q hq
  · obtain ⟨q, hq, rfl⟩ := List.mem_map.mp hp
    exact c.out q hq
  · obtain ⟨q, hq, rfl⟩ := List.mem_map.mp hp
    exact PySem.W.codeHd_of_K X (c.hd q hq)
end
theorem fun_of {K : PySem.W.Frag} {x : Str} {st : Stmt} {f : Addr} {fd : FuncData} (F : FunD K x x (defArgs st) (defBody st) (defScope st) [] [] f fd) : Fun K x x st f fd := by
  obtain ⟨oc, od, dV, kV, doc, pm, an, cdv, ct, osl, rfl, lk, hcd, hD, hK⟩ := F.ex
  rcases hD with ⟨_, rfl⟩ | ⟨e, _⟩
  · exact ⟨⟨oc, od, kV, doc, pm, an, cdv, ct, osl, rfl, lk, hcd⟩, F.kp⟩
  · exact absurd rfl e
end Hd
set_option Elab.async false
set_option linter.all false
set_option maxRecDepth 100000
set_option maxHeartbeats 40000000
namespace K5
open PySem PySem.Spec PyProof.Rows L2 RmX Rm Mth SX LamX
abbrev PK : Program := PySem.Challenge.pw_roompace_k40_texts_of_numbers
abbrev bmV : List Value := [.type "ValueError", .type "Exception", .type "BaseException", .type "object"]
abbrev cdN : Hd.Cd := ⟨"InvalidNumber", "thing", "ValueError", "ValueError.__new__", "ValueError.__init__", bmV, top 5⟩
abbrev cdT : Hd.Cd := ⟨"InvalidText", "line", "ValueError", "ValueError.__new__", "ValueError.__init__", bmV, top 6⟩
abbrev fd0 : He.DefD := ⟨("number", none), "number", "number", defArgs (top 8), defBody (top 8), defScope (top 8), [.int 1], []⟩
abbrev fd1 : He.DefD := ⟨("is_integer", none), "is_integer", "is_integer", defArgs (top 9), defBody (top 9), defScope (top 9), [], []⟩
abbrev fd2 : He.DefD := ⟨("is_number", none), "is_number", "is_number", defArgs (top 10), defBody (top 10), defScope (top 10), [], []⟩
abbrev fd3 : He.DefD := ⟨("check_number", none), "check_number", "check_number", defArgs (top 11), defBody (top 11), defScope (top 11), [], []⟩
abbrev fd4 : He.DefD := ⟨("number_text", none), "number_text", "number_text", defArgs (top 12), defBody (top 12), defScope (top 12), [], []⟩
abbrev fd5 : He.DefD := ⟨("number_in", none), "number_in", "number_in", defArgs (top 15), defBody (top 15), defScope (top 15), [.int 420], []⟩
abbrev fd6 : He.DefD := ⟨("is_digits", none), "is_digits", "is_digits", defArgs (top 16), defBody (top 16), defScope (top 16), [], []⟩
abbrev fd7 : He.DefD := ⟨("parse_number", none), "parse_number", "parse_number", defArgs (top 18), defBody (top 18), defScope (top 18), [], []⟩
abbrev fd8 : He.DefD := ⟨("_law_begin", none), "_law_begin", "_law_begin", defArgs (top 20), defBody (top 20), defScope (top 20), [], []⟩
abbrev fd9 : He.DefD := ⟨("_law_mixed", none), "_law_mixed", "_law_mixed", defArgs (top 21), defBody (top 21), defScope (top 21), [], []⟩
abbrev fd10 : He.DefD := ⟨("_law_next", none), "_law_next", "_law_next", defArgs (top 22), defBody (top 22), defScope (top 22), [], []⟩
abbrev fd11 : He.DefD := ⟨("_law_least", none), "_law_least", "_law_least", defArgs (top 23), defBody (top 23), defScope (top 23), [], []⟩
abbrev fd12 : He.DefD := ⟨("_law_choose", none), "_law_choose", "_law_choose", defArgs (top 24), defBody (top 24), defScope (top 24), [], []⟩
abbrev fd13 : He.DefD := ⟨("_law_written", none), "_law_written", "_law_written", defArgs (top 25), defBody (top 25), defScope (top 25), [], []⟩
abbrev fd14 : He.DefD := ⟨("_law_is_digits", none), "_law_is_digits", "_law_is_digits", defArgs (top 26), defBody (top 26), defScope (top 26), [], []⟩
abbrev fd15 : He.DefD := ⟨("_law_number_of", none), "_law_number_of", "_law_number_of", defArgs (top 27), defBody (top 27), defScope (top 27), [], []⟩
abbrev fd16 : He.DefD := ⟨("_law_told", none), "_law_told", "_law_told", defArgs (top 28), defBody (top 28), defScope (top 28), [], []⟩
abbrev fd17 : He.DefD := ⟨("_law_marks", none), "_law_marks", "_law_marks", defArgs (top 29), defBody (top 29), defScope (top 29), [], []⟩
abbrev fd18 : He.DefD := ⟨("_law_value", none), "_law_value", "_law_value", defArgs (top 30), defBody (top 30), defScope (top 30), [], []⟩
abbrev fd19 : He.DefD := ⟨("_law_bent", none), "_law_bent", "_law_bent", defArgs (top 31), defBody (top 31), defScope (top 31), [], []⟩
abbrev fd20 : He.DefD := ⟨("_law_judged", none), "_law_judged", "_law_judged", defArgs (top 32), defBody (top 32), defScope (top 32), [], []⟩
abbrev fd21 : He.DefD := ⟨("_law_chosen_right", none), "_law_chosen_right", "_law_chosen_right", defArgs (top 33), defBody (top 33), defScope (top 33), [], []⟩
abbrev fd22 : He.DefD := ⟨("law", none), "law", "law", defArgs (top 34), defBody (top 34), defScope (top 34), [], []⟩
abbrev tJ : He.Defn := ("_law_judged", none)
abbrev tC : He.Defn := ("_law_chosen_right", none)
def exK (K : PySem.W.Frag) : Bool := decide (PySem.W.exmOne K (.ref (He.ga K "InvalidNumber")) (.ref (He.ga K "InvalidNumber")) = some true) && (decide (PySem.W.exmAny K (.ref (He.ga K "InvalidText")) [.ref (He.ga K "PaceError"), .ref (He.ga K "StateError"), .ref (He.ga K "MissingError")] = some true) &&
  (decide (PySem.W.kitOne K (.ref (He.ga K "InvalidText")) (.ref (He.ga K "InvalidText")) = some true) && decide ((He.cT K tC).2 ≠ (He.cT K tJ).2)))
def LK : Hd.Look where
  P := PK
  cds := [cdN, cdT]
  fns := [fd0, fd1, fd2, fd3, fd4, fd5, fd6, fd7, fd8, fd9, fd10, fd11, fd12, fd13, fd14, fd15, fd16, fd17, fd18, fd19, fd20, fd21, fd22]
  free := ["super", "len", "isinstance", "int", "bool", "tuple", "str", "repr", "all", "abs", "list", "range", "min"]
  glo := ["PaceError", "StateError", "MissingError", "number", "is_integer", "is_number", "check_number", "number_text", "number_in", "is_digits", "parse_number", "_law_begin", "_law_mixed", "_law_next", "_law_least", "_law_choose", "_law_written", "_law_is_digits", "_law_number_of", "_law_told", "_law_marks", "_law_value", "_law_bent", "_law_judged", "_law_chosen_right", "law"]
  blt := [("gcd", "math.gcd")]
  tf := [tJ, tC]
  ex := exK
theorem funAt_of {K : PySem.W.Frag} {x : Str} {st : Stmt} {fd : FuncData} (p : He.Defn) (F : FunD K x x (defArgs st) (defBody st) (defScope st) [] [] (He.fAd K p) fd) : FunAt K x st (He.fAd K p) fd (He.codeOf K p) := by
  obtain ⟨oc, od, dV, kV, doc, pm, an, cdv, ct, osl, rfl, lk, hcd, hD, hK⟩ := F.ex
  obtain ⟨c, rfl⟩ := He.codeIn_ref hcd
  rcases hD with ⟨_, rfl⟩ | ⟨e, _⟩
  · have e := He.codeOf_eq lk rfl
    rw [e]
    exact ⟨oc, od, kV, doc, pm, an, ct, osl, rfl, lk, hcd⟩
  · exact absurd rfl e
theorem main_super : (PK.main.scope.names.lookup ("super" : Str)).isSome = false := by first | rfl | decide +kernel
theorem cdN_txt : Hd.CdTxt cdN := ⟨⟨_, _, rfl⟩, ⟨_, _, _, _, _, _, _, _, _, _, _, _, _, _, by decide +kernel, rfl, rfl⟩, rfl⟩
theorem cdT_txt : Hd.CdTxt cdT := ⟨⟨_, _, rfl⟩, ⟨_, _, _, _, _, _, _, _, _, _, _, _, _, _, by decide +kernel, rfl, rfl⟩, rfl⟩
theorem kOne {K : PySem.W.Frag} {nm : Str} {st : Stmt} {f : Addr} {fd : FuncData} {x : Str} (F : Fun K nm nm st f fd) (h : ∀ (kV doc pm cdv ct : Value) (an : Option Addr) (u : Value), bindArgs (PySem.W.fnOf nm nm (defArgs st) (defBody st) (defScope st) .none kV doc pm an cdv ct) ⟨[], [(x, u)]⟩ = pure [(x, u)]) : KBinds K fd [x] [x] onG onV := by
  obtain ⟨oc, od, kV, doc, pm, an, cdv, ct, osl, rfl, lk, hcd⟩ := F.ex
  exact kb_one fun u => h _ _ _ _ _ _ u
theorem facts {l : PySem.W.OpenLaw} (el : l.prog = PK) {w : World} {K : PySem.W.Frag} {h : Heap} {mg : Str → Option Value} {fa : Addr} (X : K.In h) (G : h.Ns mainGlobals mg) (hfa : mg "law" = some (.ref fa)) (S : Hd.Says LK h K) : LawAtG l w 11 63 "script" mg fa h := by
  obtain ⟨fd0, F0⟩ := S.fun_ 0 (d := K5.fd0) rfl
  have k0 : PySem.W.keepIn K (.ref (He.ga K "number")) = true := F0.kp
  have a0 : mg "number" = some (.ref (He.ga K "number")) := S.glo_ X G "number" (by decide +kernel)
  obtain ⟨fd1, F1⟩ := S.fun_ 1 (d := K5.fd1) rfl
  have k1 : PySem.W.keepIn K (.ref (He.ga K "is_integer")) = true := F1.kp
  have a1 : mg "is_integer" = some (.ref (He.ga K "is_integer")) := S.glo_ X G "is_integer" (by decide +kernel)
  replace F1 : Fun K "is_integer" "is_integer" (top 9) (He.ga K "is_integer") fd1 := Hd.fun_of F1
  have b1 := F1.binds (ps := ["thing"]) fun _ _ _ _ _ _ us hl => match us, hl with | [_], _ => rfl
  obtain ⟨fd2, F2⟩ := S.fun_ 2 (d := K5.fd2) rfl
  have k2 : PySem.W.keepIn K (.ref (He.ga K "is_number")) = true := F2.kp
  have a2 : mg "is_number" = some (.ref (He.ga K "is_number")) := S.glo_ X G "is_number" (by decide +kernel)
  replace F2 : Fun K "is_number" "is_number" (top 10) (He.ga K "is_number") fd2 := Hd.fun_of F2
  have b2 := F2.binds (ps := ["thing"]) fun _ _ _ _ _ _ us hl => match us, hl with | [_], _ => rfl
  obtain ⟨fd3, F3⟩ := S.fun_ 3 (d := K5.fd3) rfl
  have k3 : PySem.W.keepIn K (.ref (He.ga K "check_number")) = true := F3.kp
  have a3 : mg "check_number" = some (.ref (He.ga K "check_number")) := S.glo_ X G "check_number" (by decide +kernel)
  replace F3 : Fun K "check_number" "check_number" (top 11) (He.ga K "check_number") fd3 := Hd.fun_of F3
  have b3 := F3.binds (ps := ["thing"]) fun _ _ _ _ _ _ us hl => match us, hl with | [_], _ => rfl
  obtain ⟨fd4, F4⟩ := S.fun_ 4 (d := K5.fd4) rfl
  have k4 : PySem.W.keepIn K (.ref (He.ga K "number_text")) = true := F4.kp
  have a4 : mg "number_text" = some (.ref (He.ga K "number_text")) := S.glo_ X G "number_text" (by decide +kernel)
  replace F4 : Fun K "number_text" "number_text" (top 12) (He.ga K "number_text") fd4 := Hd.fun_of F4
  have b4 := F4.binds (ps := ["value"]) fun _ _ _ _ _ _ us hl => match us, hl with | [_], _ => rfl
  obtain ⟨fd5, F5⟩ := S.fun_ 5 (d := K5.fd5) rfl
  have k5 : PySem.W.keepIn K (.ref (He.ga K "number_in")) = true := F5.kp
  have a5 : mg "number_in" = some (.ref (He.ga K "number_in")) := S.glo_ X G "number_in" (by decide +kernel)
  obtain ⟨fd6, F6⟩ := S.fun_ 6 (d := K5.fd6) rfl
  have k6 : PySem.W.keepIn K (.ref (He.ga K "is_digits")) = true := F6.kp
  have a6 : mg "is_digits" = some (.ref (He.ga K "is_digits")) := S.glo_ X G "is_digits" (by decide +kernel)
  replace F6 : Fun K "is_digits" "is_digits" (top 16) (He.ga K "is_digits") fd6 := Hd.fun_of F6
  have b6 := F6.binds (ps := ["text", "most"]) fun _ _ _ _ _ _ us hl => match us, hl with | [_, _], _ => rfl
  obtain ⟨fd7, F7⟩ := S.fun_ 7 (d := K5.fd7) rfl
  have k7 : PySem.W.keepIn K (.ref (He.ga K "parse_number")) = true := F7.kp
  have a7 : mg "parse_number" = some (.ref (He.ga K "parse_number")) := S.glo_ X G "parse_number" (by decide +kernel)
  replace F7 : Fun K "parse_number" "parse_number" (top 18) (He.ga K "parse_number") fd7 := Hd.fun_of F7
  have b7 := F7.binds (ps := ["text"]) fun _ _ _ _ _ _ us hl => match us, hl with | [_], _ => rfl
  obtain ⟨fd8, F8⟩ := S.fun_ 8 (d := K5.fd8) rfl
  have k8 : PySem.W.keepIn K (.ref (He.ga K "_law_begin")) = true := F8.kp
  have a8 : mg "_law_begin" = some (.ref (He.ga K "_law_begin")) := S.glo_ X G "_law_begin" (by decide +kernel)
  replace F8 : Fun K "_law_begin" "_law_begin" (top 20) (He.ga K "_law_begin") fd8 := Hd.fun_of F8
  have b8 := F8.binds (ps := ["script"]) fun _ _ _ _ _ _ us hl => match us, hl with | [_], _ => rfl
  obtain ⟨fd9, F9⟩ := S.fun_ 9 (d := K5.fd9) rfl
  have k9 : PySem.W.keepIn K (.ref (He.ga K "_law_mixed")) = true := F9.kp
  have a9 : mg "_law_mixed" = some (.ref (He.ga K "_law_mixed")) := S.glo_ X G "_law_mixed" (by decide +kernel)
  replace F9 : Fun K "_law_mixed" "_law_mixed" (top 21) (He.ga K "_law_mixed") fd9 := Hd.fun_of F9
  have b9 := F9.binds (ps := ["cell", "k"]) fun _ _ _ _ _ _ us hl => match us, hl with | [_, _], _ => rfl
  obtain ⟨fd10, F10⟩ := S.fun_ 10 (d := K5.fd10) rfl
  have k10 : PySem.W.keepIn K (.ref (He.ga K "_law_next")) = true := F10.kp
  have a10 : mg "_law_next" = some (.ref (He.ga K "_law_next")) := S.glo_ X G "_law_next" (by decide +kernel)
  replace F10 : Fun K "_law_next" "_law_next" (top 22) (He.ga K "_law_next") fd10 := Hd.fun_of F10
  have b10 := F10.binds (ps := ["draw", "bound"]) fun _ _ _ _ _ _ us hl => match us, hl with | [_, _], _ => rfl
  obtain ⟨fd11, F11⟩ := S.fun_ 11 (d := K5.fd11) rfl
  have k11 : PySem.W.keepIn K (.ref (He.ga K "_law_least")) = true := F11.kp
  have a11 : mg "_law_least" = some (.ref (He.ga K "_law_least")) := S.glo_ X G "_law_least" (by decide +kernel)
  replace F11 : Fun K "_law_least" "_law_least" (top 23) (He.ga K "_law_least") fd11 := Hd.fun_of F11
  have b11 := F11.binds (ps := ["above", "below"]) fun _ _ _ _ _ _ us hl => match us, hl with | [_, _], _ => rfl
  obtain ⟨fd12, F12⟩ := S.fun_ 12 (d := K5.fd12) rfl
  have k12 : PySem.W.keepIn K (.ref (He.ga K "_law_choose")) = true := F12.kp
  have a12 : mg "_law_choose" = some (.ref (He.ga K "_law_choose")) := S.glo_ X G "_law_choose" (by decide +kernel)
  replace F12 : Fun K "_law_choose" "_law_choose" (top 24) (He.ga K "_law_choose") fd12 := Hd.fun_of F12
  have b12 := F12.binds (ps := ["draw", "some"]) fun _ _ _ _ _ _ us hl => match us, hl with | [_, _], _ => rfl
  obtain ⟨fd13, F13⟩ := S.fun_ 13 (d := K5.fd13) rfl
  have k13 : PySem.W.keepIn K (.ref (He.ga K "_law_written")) = true := F13.kp
  have a13 : mg "_law_written" = some (.ref (He.ga K "_law_written")) := S.glo_ X G "_law_written" (by decide +kernel)
  replace F13 : Fun K "_law_written" "_law_written" (top 25) (He.ga K "_law_written") fd13 := Hd.fun_of F13
  have b13 := F13.binds (ps := ["one"]) fun _ _ _ _ _ _ us hl => match us, hl with | [_], _ => rfl
  obtain ⟨fd14, F14⟩ := S.fun_ 14 (d := K5.fd14) rfl
  have k14 : PySem.W.keepIn K (.ref (He.ga K "_law_is_digits")) = true := F14.kp
  have a14 : mg "_law_is_digits" = some (.ref (He.ga K "_law_is_digits")) := S.glo_ X G "_law_is_digits" (by decide +kernel)
  replace F14 : Fun K "_law_is_digits" "_law_is_digits" (top 26) (He.ga K "_law_is_digits") fd14 := Hd.fun_of F14
  have b14 := F14.binds (ps := ["part"]) fun _ _ _ _ _ _ us hl => match us, hl with | [_], _ => rfl
  obtain ⟨fd15, F15⟩ := S.fun_ 15 (d := K5.fd15) rfl
  have k15 : PySem.W.keepIn K (.ref (He.ga K "_law_number_of")) = true := F15.kp
  have a15 : mg "_law_number_of" = some (.ref (He.ga K "_law_number_of")) := S.glo_ X G "_law_number_of" (by decide +kernel)
  replace F15 : Fun K "_law_number_of" "_law_number_of" (top 27) (He.ga K "_law_number_of") fd15 := Hd.fun_of F15
  have b15 := F15.binds (ps := ["page"]) fun _ _ _ _ _ _ us hl => match us, hl with | [_], _ => rfl
  obtain ⟨fd16, F16⟩ := S.fun_ 16 (d := K5.fd16) rfl
  have k16 : PySem.W.keepIn K (.ref (He.ga K "_law_told")) = true := F16.kp
  have a16 : mg "_law_told" = some (.ref (He.ga K "_law_told")) := S.glo_ X G "_law_told" (by decide +kernel)
  replace F16 : Fun K "_law_told" "_law_told" (top 28) (He.ga K "_law_told") fd16 := Hd.fun_of F16
  have b16 := F16.binds (ps := ["action"]) fun _ _ _ _ _ _ us hl => match us, hl with | [_], _ => rfl
  obtain ⟨fd17, F17⟩ := S.fun_ 17 (d := K5.fd17) rfl
  have k17 : PySem.W.keepIn K (.ref (He.ga K "_law_marks")) = true := F17.kp
  have a17 : mg "_law_marks" = some (.ref (He.ga K "_law_marks")) := S.glo_ X G "_law_marks" (by decide +kernel)
  replace F17 : Fun K "_law_marks" "_law_marks" (top 29) (He.ga K "_law_marks") fd17 := Hd.fun_of F17
  have b17 := F17.binds (ps := ["error"]) fun _ _ _ _ _ _ us hl => match us, hl with | [_], _ => rfl
  obtain ⟨fd18, F18⟩ := S.fun_ 18 (d := K5.fd18) rfl
  have k18 : PySem.W.keepIn K (.ref (He.ga K "_law_value")) = true := F18.kp
  have a18 : mg "_law_value" = some (.ref (He.ga K "_law_value")) := S.glo_ X G "_law_value" (by decide +kernel)
  replace F18 : Fun K "_law_value" "_law_value" (top 30) (He.ga K "_law_value") fd18 := Hd.fun_of F18
  have b18 := F18.binds (ps := ["draw"]) fun _ _ _ _ _ _ us hl => match us, hl with | [_], _ => rfl
  obtain ⟨fd19, F19⟩ := S.fun_ 19 (d := K5.fd19) rfl
  have k19 : PySem.W.keepIn K (.ref (He.ga K "_law_bent")) = true := F19.kp
  have a19 : mg "_law_bent" = some (.ref (He.ga K "_law_bent")) := S.glo_ X G "_law_bent" (by decide +kernel)
  replace F19 : Fun K "_law_bent" "_law_bent" (top 31) (He.ga K "_law_bent") fd19 := Hd.fun_of F19
  have b19 := F19.binds (ps := ["draw", "page"]) fun _ _ _ _ _ _ us hl => match us, hl with | [_, _], _ => rfl
  obtain ⟨fd20, F20⟩ := S.fun_ 20 (d := K5.fd20) rfl
  have k20 : PySem.W.keepIn K (.ref (He.ga K "_law_judged")) = true := F20.kp
  have a20 : mg "_law_judged" = some (.ref (He.ga K "_law_judged")) := S.glo_ X G "_law_judged" (by decide +kernel)
  have A20 : FunAt K "_law_judged" (top 32) (He.ga K "_law_judged") fd20 (He.codeOf K ("_law_judged", none)) := funAt_of ("_law_judged", none) F20
  replace F20 : Fun K "_law_judged" "_law_judged" (top 32) (He.ga K "_law_judged") fd20 := Hd.fun_of F20
  have b20 := F20.binds (ps := ["page"]) fun _ _ _ _ _ _ us hl => match us, hl with | [_], _ => rfl
  obtain ⟨fd21, F21⟩ := S.fun_ 21 (d := K5.fd21) rfl
  have k21 : PySem.W.keepIn K (.ref (He.ga K "_law_chosen_right")) = true := F21.kp
  have a21 : mg "_law_chosen_right" = some (.ref (He.ga K "_law_chosen_right")) := S.glo_ X G "_law_chosen_right" (by decide +kernel)
  have A21 : FunAt K "_law_chosen_right" (top 33) (He.ga K "_law_chosen_right") fd21 (He.codeOf K ("_law_chosen_right", none)) := funAt_of ("_law_chosen_right", none) F21
  replace F21 : Fun K "_law_chosen_right" "_law_chosen_right" (top 33) (He.ga K "_law_chosen_right") fd21 := Hd.fun_of F21
  have b21 := F21.binds (ps := []) fun _ _ _ _ _ _ us hl => match us, hl with | [], _ => rfl
  obtain ⟨fd22, F22⟩ := S.fun_ 22 (d := K5.fd22) rfl
  have k22 : PySem.W.keepIn K (.ref (He.ga K "law")) = true := F22.kp
  have a22 : mg "law" = some (.ref (He.ga K "law")) := S.glo_ X G "law" (by decide +kernel)
  replace F22 : Fun K "law" "law" (top 34) (He.ga K "law") fd22 := Hd.fun_of F22
  replace F0 : FunD K "number" "number" (defArgs (top 8)) (defBody (top 8)) (defScope (top 8)) [.int 1] [] (He.ga K "number") fd0 := F0
  replace F5 : FunD K "number_in" "number_in" (defArgs (top 15)) (defBody (top 15)) (defScope (top 15)) [.int 420] [] (He.ga K "number_in") fd5 := F5
  obtain ⟨ds, rds, bN⟩ := F0.binds1 (ps := ["above", "below"]) 2 1 (fun z => nomatch z) rfl fun T kV doc pm an cdv ct us its hu hi => match us, its, hu, hi with
    | [u, v], [d], _, _ => ⟨_, rfl, rfl⟩
  cases rds
  obtain ⟨ds, rds, bI⟩ := F5.binds1 (ps := ["text", "most_digits"]) 1 0 (fun z => nomatch z) rfl fun T kV doc pm an cdv ct us its hu hi => match us, its, hu, hi with
    | [u], [d], _, _ => ⟨_, rfl, rfl⟩
  cases rds with
  | cons rd1 rdn =>
  cases rdn
  have e := hfa.symm.trans a22
  cases e
  have nn : ∀ x, x ∈ LK.free → mg x = none := S.free_ X G
  obtain ⟨iN, jN⟩ := S.ini 0 (d := cdN) rfl
  obtain ⟨gN, tN⟩ := Hd.cls_ext (mg := mg) iN jN cdN_txt main_super
  obtain ⟨iT, jT⟩ := S.ini 1 (d := cdT) rfl
  obtain ⟨gT, tT⟩ := Hd.cls_ext (mg := mg) iT jT cdT_txt main_super
  have ex := S.ex_
  have ex : exK K = true := ex
  unfold exK at ex
  simp only [Bool.and_eq_true, decide_eq_true_eq] at ex
  obtain ⟨x1, x2, x3, x4⟩ := ex
  have TN : TxtN PK K mg (He.ga K "InvalidNumber") _ (He.ga K "number") (He.ga K "is_integer") (He.ga K "is_number") (He.ga K "check_number") :=
    ⟨tN, PySem.W.mg_of X G gN, nn "super" (by decide +kernel), nn "len" (by decide +kernel), nn "isinstance" (by decide +kernel), nn "int" (by decide +kernel), nn "bool" (by decide +kernel), nn "tuple" (by decide +kernel), S.blt_ X G "gcd" "math.gcd" (by decide +kernel), a0, k0, a1, k1, a2, k2, a3, k3⟩
  have TP : TxtP mg := ⟨nn "all" (by decide +kernel), nn "len" (by decide +kernel), nn "int" (by decide +kernel), nn "str" (by decide +kernel), nn "isinstance" (by decide +kernel)⟩
  have TL : TxtL mg := ⟨nn "str" (by decide +kernel), nn "repr" (by decide +kernel)⟩
  have TT : TxtT PK K mg (He.ga K "InvalidNumber") (He.ga K "InvalidText") _ := ⟨tT, PySem.W.mg_of X G gT, x1⟩
  have TA : TxtA mg := ⟨nn "abs" (by decide +kernel), nn "len" (by decide +kernel), nn "str" (by decide +kernel), nn "int" (by decide +kernel), nn "list" (by decide +kernel), nn "repr" (by decide +kernel), nn "range" (by decide +kernel), nn "min" (by decide +kernel), nn "isinstance" (by decide +kernel)⟩
  have TI : TxtI K mg (He.ga K "_law_next") := ⟨a10, k10⟩
  have TD : TxtD K mg (He.ga K "_law_mixed") := ⟨nn "len" (by decide +kernel), a9, k9⟩
  have TW : TxtW K mg (He.ga K "InvalidText") (He.ga K "PaceError") (He.ga K "StateError") (He.ga K "MissingError") :=
    ⟨S.glo_ X G "PaceError" (by decide +kernel), S.glo_ X G "StateError" (by decide +kernel), S.glo_ X G "MissingError" (by decide +kernel), x2, x3⟩
  have TF : ToldF K mg (He.ga K "_law_told") := by
    obtain ⟨oc, od, kV, doc, pm, an, cdv, ct, osl, e, lk, hcd⟩ := F16.ex
    rw [e] at lk
    exact ⟨⟨oc, od, kV, doc, pm, an, cdv, ct, osl, lk, hcd⟩, a16, k16⟩
  have kPa : KBinds K fd7 ["text"] ["text"] onG onV := kOne F7 fun _ _ _ _ _ _ _ => rfl
  have kTx : KBinds K fd4 ["value"] ["value"] onG onV := kOne F4 fun _ _ _ _ _ _ _ => rfl
  let T : List (Addr × Str) := [((He.cT K tJ).2, qJ), ((He.cT K tC).2, qC)]
  have bL : ∀ (s : Shared) (u : Value), BindsTo s fd22 ⟨[u], []⟩ [("script", u)] := by
    obtain ⟨oc, od, kV, doc, pm, an, cdv, ct, osl, e2, lk, hcd⟩ := F22.ex
    intro s u
    rw [e2]
    exact .of_eq rfl
  refine ⟨K, fd22, [He.cT K tJ, He.cT K tC], spLaw K T, X, S.tabs X, bL, fun T' a ns hl _ hT hS => ⟨a, ns, rfl, hS, hl, fun p hp => ?_, fun _ => rfl⟩, fun base _ _ tb => ?_⟩
  · rcases List.mem_cons.mp hp with e | hp
    · rw [e]
      exact TabS.nil (hT (He.cT K tJ) (List.mem_cons_self ..))
    · rcases List.mem_cons.mp hp with e | hp
      · rw [e]
        exact TabS.nil (hT (He.cT K tC) (List.mem_cons_of_mem _ (List.mem_cons_self ..)))
      · cases hp
  · rw [el]
    have LJ : LamT T base mg (He.cT K tJ).1 (He.cT K tJ).2 qJ := ⟨tb _ (List.mem_cons_self ..), List.mem_cons_self .., fun p hp q => by
      rcases List.mem_cons.mp hp with e | hp
      · rw [e]
      · rcases List.mem_cons.mp hp with e | hp
        · rw [e] at q
          exact absurd q x4
        · cases hp⟩
    have LC : LamT T base mg (He.cT K tC).1 (He.cT K tC).2 qC := ⟨tb _ (List.mem_cons_of_mem _ (List.mem_cons_self ..)), List.mem_cons_of_mem _ (List.mem_cons_self ..), fun p hp q => by
      rcases List.mem_cons.mp hp with e | hp
      · rw [e] at q
        exact absurd q.symm x4
      · rcases List.mem_cons.mp hp with e | hp
        · rw [e]
        · cases hp⟩
    have GX : FnG PK w K mg base 2 (He.ga K "_law_next") _ ["draw", "bound"] spNext := ok_next F10 TD F9 b9
    have cNu : Cal PK w K mg base "number" _ _ 2 ["above", "below"] (spNum K (He.ga K "InvalidNumber")) := ⟨ok_num F0 TN F1 b1, a0, k0, bN⟩
    have cCh : Cal PK w K mg base "check_number" _ _ 3 ["thing"] (spChk K (He.ga K "InvalidNumber")) := ⟨ok_chk F3 TN F2 b2 F1 b1, a3, k3, b3⟩
    have cTx : Cal PK w K mg base "number_text" _ _ 4 ["value"] (spTxt K (He.ga K "InvalidNumber")) := ⟨ok_txt F4 TL cCh, a4, k4, b4⟩
    have cTxB : Cal PK w K mg base "number_text" _ _ 4 ["value"] (bx (spTxt K (He.ga K "InvalidNumber"))) := ⟨fn_bx cTx.fn, a4, k4, b4⟩
    have cDi : Cal PK w K mg base "is_digits" _ _ 1 ["text", "most"] (bx (spDig K)) := ⟨fn_bx (ok_dig F6 TP), a6, k6, b6⟩
    have GI : FnN PK w K mg base 5 (He.ga K "number_in") _ ["text", "most_digits"] (spIn K (He.ga K "InvalidNumber")) := ok_in F5 TN TP cDi cNu cTx
    have cPa : Cal PK w K mg base "parse_number" _ _ 6 ["text"] (spPar K (He.ga K "InvalidText")) := ⟨ok_par F7 TN TP TT GI a5 k5 bI (.cons rd1 .nil), a7, k7, b7⟩
    have cPaB : Cal PK w K mg base "parse_number" _ _ 6 ["text"] (bx (spPar K (He.ga K "InvalidText"))) := ⟨fn_bx cPa.fn, a7, k7, b7⟩
    have cB : Cal PK w K mg base "_law_begin" _ _ 1 ["script"] (bx (spBegin K)) := ⟨fn_bx (ok_begin F8), a8, k8, b8⟩
    have cLe : Cal PK w K mg base "_law_least" _ _ 1 ["above", "below"] (bx spLea) := ⟨fn_bx (ok_lea F11 TA), a11, k11, b11⟩
    have cCo : Cal PK w K mg base "_law_choose" _ _ 3 ["draw", "some"] (bx (spCho K)) := ⟨fn_bx (ok_cho F12 TA TI GX b10), a12, k12, b12⟩
    have cWr : Cal PK w K mg base "_law_written" _ _ 1 ["one"] (bx (spWri K)) := ⟨fn_bx (ok_wri F13 TA), a13, k13, b13⟩
    have cLD : Cal PK w K mg base "_law_is_digits" _ _ 1 ["part"] (bx (spLDg K)) := ⟨fn_bx (ok_ldg F14 TA), a14, k14, b14⟩
    have cNo : Cal PK w K mg base "_law_number_of" _ _ 2 ["page"] (bx (spNof K)) := ⟨fn_bx (ok_nof F15 TA cLD cLe), a15, k15, b15⟩
    have cMk : Cal PK w K mg base "_law_marks" _ _ 1 ["error"] (bx (spMrk (He.ga K "InvalidText"))) := ⟨fn_bx (ok_mrk F17 TA TT TW), a17, k17, b17⟩
    have cVa : Cal PK w K mg base "_law_value" _ _ 4 ["draw"] (bx spVal) := ⟨fn_bx (ok_val F18 TA TI GX b10 cCo cLe), a18, k18, b18⟩
    have cBe : Cal PK w K mg base "_law_bent" _ _ 4 ["draw", "page"] (bx spBen) := ⟨fn_bx (ok_ben F19 TA TI GX b10 cCo), a19, k19, b19⟩
    have cJu : Cal PK w K mg base "_law_judged" _ _ 9 ["page"] (bx (spJud T)) := ⟨fn_bx (ok_jud A20 TA TW LJ TF cPa kPa cNo cMk), a20, k20, b20⟩
    have cCR : Cal PK w K mg base "_law_chosen_right" _ _ 10 [] (bx (spChR T)) := ⟨fn_bx (ok_chr A21 TA TW LC TF cPa cJu cMk), a21, k21, b21⟩
    exact ok_law F22 TA cB cVa cWr cPaB kPa cTxB kTx cBe cJu cCR
end K5
set_option Elab.async false
set_option linter.all false
set_option maxRecDepth 100000
set_option maxHeartbeats 40000000
namespace K5
open PySem PySem.Spec PyProof.Rows L2 RmX Rm
abbrev RW5 : PySem.W.OpenRow := PySem.W.OpenLaw.row PySem.Challenge.rw_roompace_k40_texts_of_numbers
def lo5 : List Str := ["PaceError", "StateError", "MissingError", "InvalidNumber", "InvalidText", "gcd", "number", "is_integer", "is_number", "check_number", "number_text", "MOST_DIGITS", "number_in", "is_digits", "parse_number", "_law_begin", "_law_mixed", "_law_next", "_law_least", "_law_choose", "_law_written", "_law_is_digits", "_law_number_of", "_law_told", "_law_marks", "_law_value", "_law_bent", "_law_judged", "_law_chosen_right"]
set_option maxHeartbeats 0 in
theorem runX (w : World) : HandSHeadRun.RunEqI RW5 (PySem.W.view RW5.prog [0, 34]) (Hd.Look.hook LK 4) (Hd.Look.ob LK 4) 12000 lo5 w := by
  unfold HandSHeadRun.RunEqI
  kernel_rfl
end K5
open PySem PySem.W PySem.Calls PyProof.Rows
set_option maxHeartbeats 0 in
theorem PySem.Challenge.cw_roompace_k40_texts_of_numbers_holds : PySem.Challenge.rw_roompace_k40_texts_of_numbers.Holds := by
  w_on; o_law
  refine HandSHeadRun.head_imp (r := OpenLaw.row PySem.Challenge.rw_roompace_k40_texts_of_numbers) (q := view (OpenLaw.row PySem.Challenge.rw_roompace_k40_texts_of_numbers).prog [0, 34]) (H := Hd.Look.hook K5.LK 4) (ob := Hd.Look.ob K5.LK 4) (M := 12000) (loose := K5.lo5) (d := HandSHeadRun.topDef (OpenLaw.row PySem.Challenge.rw_roompace_k40_texts_of_numbers).prog 34) (kwd := []) (Hd.Look.ob_eq K5.LK 4)
    K5.runX (by kernel_rfl) (by kernel_rfl) (by kernel_rfl) (by rfl) (by first | assumption | decide +kernel) (by decide +kernel) ⟨rfl, rfl, rfl, rfl, rfl, by decide +kernel⟩ ?hw ?hc
  case hw => w_witness2
  case hc =>
    refine Rm.walk_ofT (l := PySem.Challenge.rw_roompace_k40_texts_of_numbers) (n := 63) (k := 11) (x := "script") rfl (by decide) (by kernel_rfl) ⟨rfl, by decide, by decide⟩ ?F
    intro w mg fa h Y G hmg0
    obtain ⟨K, KX, c⟩ := Y
    have hmg : mg ("law" : PySem.Str) = some (.ref fa) := by
      have e : (HandSHeadRun.topDef (OpenLaw.row PySem.Challenge.rw_roompace_k40_texts_of_numbers).prog 34).name = ("law" : PySem.Str) := by kernel_rfl
      rw [← e]
      exact hmg0
    exact K5.facts (by kernel_rfl) KX G hmg c
