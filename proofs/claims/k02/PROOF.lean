import PyProof.Rows.All
import Wide.All
import OpenK.AllK
import Wide.FinOn
import PyProof.EqAt
import PyProof.EqKinds
import PyProof.TupleCall
import HandS.ForMost
import HandS.ForExc
import HandS.Wide
import HandS.Gcd
import HandS.IsInst
import HandS.ExcInit
import HandS.Defaults
import HandS.FStr
import HandS.CallSlots
import KE.KExcSuper
import KE.KExcIs
import KE.KTryMore
import HandS.FStrTup
import HandS.Ends
import HandS.Style
import KE.RegKSuper
import KE.KExcLine
import PySem.Challenge.RW_roompace_k02_numbers_recognized
set_option Elab.async false
set_option linter.all false
set_option maxRecDepth 100000
set_option maxHeartbeats 4000000
/-! # Rules of our own over the hand layer: calls that know that nothing is being shown (needed for repr of nested data), repr and {x!r} of data, list + list that are read -/
namespace Rm
open PySem PySem.Spec PyProof.Rows L2

/-- a def's promise where no repr is under way -/
structure FnG (P : Program) (w : World) (K : PySem.W.Frag) (mg : Str → Option Value) (base : Heap) (k : Nat) (f : Addr) (fd : FuncData) (ps : List Str) (sp : Sp) : Prop where
  len : ∀ vs H Q E, sp vs H Q E → vs.length = ps.length
  run : ∀ (A : Around) (outer : List Env) (s : Shared) (H : Hp) (args : Args) (us : List Value) (vs : List V) (Q : VK) (E : XK), Room k A → A.guards = some [] → Env0 P w K mg base A outer s H → BindsTo s fd args (ps.zip us) → Vals vs us → sp vs H Q E →
    codeAny (model P w) A (.call (.ref f) args) (CR (L2.CX P w) outer P w H s Q E) s
theorem FnG.mono {P : Program} {w : World} {K : PySem.W.Frag} {mg : Str → Option Value} {base : Heap} {j k : Nat} {f : Addr} {fd : FuncData} {ps : List Str} {sp : Sp} (F : FnG P w K mg base j f fd ps sp) (h : j ≤ k) :
    FnG P w K mg base k f fd ps sp := ⟨F.len, fun A outer s H args us vs Q E hr => F.run A outer s H args us vs Q E (hr.mono h)⟩
theorem FnG.imp {P : Program} {w : World} {K : PySem.W.Frag} {mg : Str → Option Value} {base : Heap} {k : Nat} {f : Addr} {fd : FuncData} {ps : List Str} {sp sp' : Sp} (F : FnG P w K mg base k f fd ps sp)
    (h : ∀ vs H Q E, sp' vs H Q E → sp vs H Q E) : FnG P w K mg base k f fd ps sp' :=
  ⟨fun vs H Q E q => F.len vs H Q E (h _ _ _ _ q), fun A outer s H args us vs Q E hr hg he hb hv hs => F.run A outer s H args us vs Q E hr hg he hb hv (h _ _ _ _ hs)⟩

theorem fn_ofG {P : Program} {w : World} {K : PySem.W.Frag} {mg : Str → Option Value} {base : Heap} {k : Nat} {f : Addr} {name qual : Str} {params : Arguments} {body : List Stmt} {scope : Scope} {dV kV doc pm cdv ct oc : Value} {an od : Option Addr}
    {osl : Array (Option Value)} {N ps : List Str} {sp : Sp} (lk : K.lookup f = some ⟨oc, od, .func (PySem.W.fnOf name qual params body scope dV kV doc pm an cdv ct), osl⟩) (hcd : PySem.W.codeIn K cdv qual = true) (S : FnScope N ps scope)
    (len : ∀ vs H Q E, sp vs H Q E → vs.length = ps.length)
    (hbody : ∀ (A : Around) (outer : List Env) (s : Shared) (H : Hp) (vs : List V) (Q : VK) (E : XK), Room k (A.deeper (envOfC qual scope s.heap.objs.size f cdv)) → A.guards = some [] → sp vs H Q E →
      ∃ t, PSs (cxOf (L2.CX P w) P w K mg base N qual scope f cdv A outer s H E) body t ∧ t { nx := fun _ H' => Q .non H', rt := Q } (start N vs) H) :
    FnG P w K mg base (k + 1) f (PySem.W.fnOf name qual params body scope dV kV doc pm an cdv ct) ps sp := by
  refine ⟨len, fun A outer s H args us vs Q E hr hgd e0 hb r hsp => ?_⟩
  have hl := len _ _ _ _ hsp
  have KX : K.In s.heap := e0.mod.kin.keeps fun b o e => (e0.bs b o e).1
  have lim : s.heap.NoLimit := e0.mod.nolimit.keeps fun b o e => (e0.bs b o e).1
  have hkind : ∀ y ∈ ps.zip us, scope.names.lookup y.1 = some .local ∨ (scope.names.lookup y.1 = some .cell ∧ ((cellsFrom (s.heap.objs.size + 1) scope.names []).lookup y.1).isSome = true) := fun ⟨n, v⟩ hy => by
    rcases S.par n (List.of_mem_zip hy).1 with q | q
    · exact .inl q
    · exact .inr ⟨q, PySem.W.cellsFrom_some _ _ _ (.inl q)⟩
  refine codeAny_call_function hr.depth (KX _ _ lk) rfl S.co S.gen rfl (PySem.W.codeRec_of KX hcd) (hb _ _ _ _ ?_)
  refine wpAny_newFunctionEnv_cells S.kind hkind fun env he s1 x => ?_
  subst he
  refine ⟨lim.keeps x.toInCall.keep, codeAny_func ?_⟩
  obtain ⟨t, ht, hq⟩ := hbody A outer s H vs Q E (hr.deeper _) hgd hsp
  have I : Inv (cxOf (L2.CX P w) P w K mg base N qual scope f cdv A outer s H E) [] (start N vs) H s1 := inv_start S hr.hd e0 hl r x
  refine wpAny_mono (ht.run [] s1 (start N vs) H _ I hq) (fun fl s' hs => ?_) fun e s' hs => hs
  have fin : ∀ {σ' : L2.St} {H' : Hp} {v : V} {u : Value}, Inv (cxOf (L2.CX P w) P w K mg base N qual scope f cdv A outer s H E) [] σ' H' s' → RelV v u → Q v H' → CE outer P w H s Q u s' :=
    fun {σ' H' v u} J rv q => ⟨v, H', J.os, J.bare, J.base, J.hok, rv, q⟩
  cases fl with
  | ret u =>
    obtain ⟨v, σ', H', J, rv, q⟩ := hs
    exact fin J rv q
  | next =>
    obtain ⟨σ', H', J, q⟩ := hs
    exact fin (v := V.non) (u := Value.none) J rfl q
  | brk =>
    obtain ⟨_, _, _, q⟩ := hs
    exact False.elim q
  | cont =>
    obtain ⟨_, _, _, q⟩ := hs
    exact False.elim q

section
variable {P : Program} {w : World} {K : PySem.W.Frag} {mg : Str → Option Value} {base : Heap}
/-- THE RULE for a def -/
theorem okG {x qual : Str} {st : Stmt} {f : Addr} {fd : FuncData} {N ps : List Str} {k : Nat} {sp : Sp} (F : Fun K x qual st f fd) (S : FnScope N ps (defScope st)) (len : ∀ vs H Q E, sp vs H Q E → vs.length = ps.length)
    (hbody : ∀ (cdv : Value) (A : Around) (outer : List Env) (s : Shared) (H : Hp) (vs : List V) (Q : VK) (E : XK), Room k (A.deeper (envOfC qual (defScope st) s.heap.objs.size f cdv)) → A.guards = some [] → sp vs H Q E →
      ∃ t, PSs (cxOf (L2.CX P w) P w K mg base N qual (defScope st) f cdv A outer s H E) (defBody st) t ∧ t { nx := fun _ H' => Q .non H', rt := Q } (start N vs) H) : FnG P w K mg base (k + 1) f fd ps sp := by
  obtain ⟨oc, od, kV, doc, pm, an, cdv, ct, osl, rfl, lk, hcd⟩ := F.ex
  exact fn_ofG lk hcd S len fun A outer s H vs Q E hr hg hsp => hbody cdv A outer s H vs Q E hr hg hsp
end

theorem pass0G {X : Cx} (σ : L2.St) : PassesAt (L2.CX X.prog X.w) X σ E0 := fun _ _ _ _ _ _ h => by
  obtain ⟨_, _, _, _, _, _, _, _, _, _, _, _, z⟩ := h
  exact z.elim

section
variable {X : Cx} {k : Nat} {f : Addr} {fd : FuncData} {ps ks : List Str} {sp : Sp} {dvs : List V} {ds : List Value} {E : L2.St → XK} {x : Str} {p pos : Pos} {e : Expr} {es : List Expr} {kws : List Keyword} {te ta : TE} {t tk : TA}
theorem run_fnG {pins : List (Addr × Obj)} {σ : L2.St} {H : Hp} {s : Shared} {Q : VK} {us : List Value} {vs : List V} (F : FnG X.prog X.w X.K X.mg X.base k f fd ps sp) (hr : Room k X.A) (hgd : X.A.guards = some []) (hb : Binds X.K fd ps ds) (hd : Vals dvs ds) (hx : PassesAt (L2.CX X.prog X.w) X σ (E σ))
    (I : Inv X pins σ H s) (r : Vals vs us) (h : sp (vs ++ dvs) H Q (E σ)) : wpAny (model X.prog X.w) X.A (call (.ref f) us) (EP X pins σ Q) X.xe s := by
  have r2 : Vals (vs ++ dvs) (us ++ ds) := r.append hd
  have hl : (us ++ ds).length = ps.length := by rw [← r2.length]; exact F.len _ _ _ _ h
  refine wpAny_call (codeAny_mono (F.run X.A X.stack s H ⟨us, []⟩ (us ++ ds) (vs ++ dvs) Q (E σ) hr hgd I.env0 (hb s us I.kIn hl) r2 h) fun r s' hq => ?_)
  cases r with
  | error e => exact hx pins H s e s' I hq
  | ok fl =>
    cases fl with
    | ret u => exact I.after hq
    | next => exact False.elim hq
    | brk => exact False.elim hq
    | cont => exact False.elim hq
/-- f(e, ..) -/
theorem pe_callG (F : FnG X.prog X.w X.K X.mg X.base k f fd ps sp) (hr : Room k X.A) (hgd : X.A.guards = some []) (hg : Gl X x) (hm : X.mg x = some (.ref f)) (hk : PySem.W.keepIn X.K (.ref f) = true) (hb : Binds X.K fd ps ds) (hd : Vals dvs ds) (hx : ∀ σ, PassesAt (L2.CX X.prog X.w) X σ (E σ))
    (ha : PA X (e :: es) t) (hdb : (x == ("__debug__" : Str)) = false := by decide) (he : starEach (e :: es) X.env = (false, eval e X.env) :: starEach es X.env := by rfl) (hpl : (backTo pos (starEach es X.env)).any (·.1) = false := by rfl) :
    PE X (.Call (.Name x p) (e :: es) [] pos) (tCallSD sp dvs E t) := by
  refine ⟨fun pins s σ H Q I h => ?_⟩
  refine wpAny_Call_Name_kw (ld_glob I hg hm ?_ hdb)
  refine PySem.W.callWith_K (h₀ := X.base) I.ok.mod.kin hk (thn (ha.run pos pins s σ H _ I h) fun us s1 ⟨vs, H1, I1, r, q⟩ => ⟨I1.kIn, ?_⟩) he hpl
  exact run_fnG F hr hgd hb hd (hx σ) I1 r q
end

/-! ### repr of data -/
theorem call_reprD {X : Cx} {k : Nat} (hr : Room k X.A) (hgd : X.A.guards = some []) : CallR X (.builtin "repr") (fun xs H Q => ∃ v d, xs = [v] ∧ Dp X.K H v d ∧ d.showable = true ∧ d.hasDict = false ∧ d.depth ≤ 20 ∧ d.shown.length ≤ sizeLine ∧ Q (.str d.shown) H) := by
  intro pins s σ H xs us Q I r h
  obtain ⟨v, d, rfl, hd, hs, hnd, hdp, hz, q⟩ := h
  obtain ⟨u, rfl, ru⟩ := vals1 r
  have hu := hr.units
  obtain ⟨as, rd⟩ := Dp.reads I d v u hd ru
  have fin : ∀ (a : Addr), u = .ref a → wpAny (model X.prog X.w) X.A (call (.builtin "repr") [u]) (EP X pins σ Q) X.xe s := fun a e => by
    subst e
    exact repr_of_reads' rd hs (PyData.noDict_hsm hnd) hgd (by omega) (fun _ _ e => e) (fun h' u tk hk => ⟨.str d.shown, H, I.kept hk, ⟨_, rfl⟩, q⟩) hz
  cases hd with
  | non =>
    cases ru
    simp only [PyData.shown] at q
    exact PySem.P.repr_of_none ⟨.str _, H, I.tok _, ⟨_, rfl⟩, q⟩
  | bl b =>
    cases ru
    simp only [PyData.shown] at q
    exact PySem.P.repr_of_bool ⟨.str _, H, I.tok _, ⟨_, rfl⟩, q⟩
  | int i =>
    obtain ⟨t, rfl⟩ := ru
    simp only [PyData.shown] at q
    exact PySem.P.repr_of_int (by simpa [PyData.showable] using hs) ⟨.str _, H, I.tok _, ⟨_, rfl⟩, q⟩
  | str x =>
    obtain ⟨t, rfl⟩ := ru
    simp only [PyData.shown] at q hz
    exact PySem.P.repr_of_str ⟨.str _, H, I.tok _, ⟨_, rfl⟩, q⟩ hz
  | lst h1 h2 => exact fin _ ru
  | tup h1 h2 => exact fin _ ru

/-! ### list + list, both read -/
open AutoSeq1 in
theorem list_add_any (l : Addr) (items : Array Value) (n : Nat) (sl : Array (Option Value)) (b : Addr) (items2 : Array Value) (n2 : Nat) (sl2 : Array (Option Value)) (hc0 : items.size + items2.size ≤ sizeLine) :
    Meets (Builtin.«list.__add__» ⟨[.ref l, .ref b], []⟩) (fun _ R s => s.heap.get? l = some { cls := .type "list", dict := none, data := .seq items n, slots := sl } ∧ s.heap.get? b = some { cls := .type "list", dict := none, data := .seq items2 n2, slots := sl2 } ∧ R (.ok (.ret (Value.ref s.heap.objs.size))) { s with heap := s.heap.push { cls := Value.type "list", data := Data.seq (items ++ items2) }, toks := s.toks }) :=
  .of_wp fun prog w A R s h => by obtain ⟨hp, g, d, tk, os⟩ := s; obtain ⟨hl, hb, h⟩ := h; have f1 := AutoSeq1.idx_int; have f2 := AutoSeq1.sub_tuple_tuple; have f3 := AutoSeq1.sub_list_list; have f4 := AutoSeq1.sub_tuple_list; have f5 := AutoSeq1.sub_list_tuple; wp_walk using AutoSeq1.wpAny_loadPart' hl, AutoSeq1.wpAny_loadPart' hb; exact ⟨_, rfl, h⟩
def rCatS (K : PySem.W.Frag) : R2 := fun x y H Q => ∃ l b xs zs, x = .ref l ∧ y = .ref b ∧ SqL K H l xs ∧ SqL K H b zs ∧ xs.length + zs.length ≤ sizeLine ∧ ∀ p, H p = none → Q (.ref p) (upd H p (.lst (xs ++ zs)))
theorem op_catS {X : Cx} : OpR X (binaryOp .Add) (rCatS X.K) := by
  intro pins s σ H x y v u Q I rx ry h
  obtain ⟨l, b, xs, zs, rfl, rfl, hH, hB, hz, q⟩ := h
  cases rx
  cases ry
  obtain ⟨its, r, ⟨o, n, e, c, dd, dt⟩, _⟩ := I.list hH
  obtain ⟨its2, r2, ⟨o2, n2, e2, c2, dd2, dt2⟩, _⟩ := I.list hB
  have hl := r.length
  have hl2 := r2.length
  obtain ⟨oc, od, dt0, sl⟩ := o
  obtain ⟨oc2, od2, dt02, sl2⟩ := o2
  dsimp only at c dd dt c2 dd2 dt2
  subst c dd dt c2 dd2 dt2
  refine concat_meets (S := _) ⟨_, e, rfl⟩ ⟨_, e2, rfl⟩ noFill_list_add seq_list_add F.slot_list_add F.entry_list_add (F.args_list_add_2 _ _) (list_add_any l its.toArray n sl b its2.toArray n2 sl2 (by rw [List.size_toArray, List.size_toArray]; omega)) ⟨e, e2, ?_⟩
  have ea : its.toArray ++ its2.toArray = (its ++ its2).toArray := by simp
  rw [ea]
  exact ⟨.ref _, _, I.lnew (t' := s.toks) (r.append r2) (by rw [List.length_append]; omega), rfl, q _ I.fresh⟩
end Rm
set_option Elab.async false
set_option linter.all false
set_option maxRecDepth 100000
set_option maxHeartbeats 4000000
/-! # An own exception, its __init__ made of «super().__init__(f'..{x!r}')» and «self.x = x»: made, over the heap -/
namespace RmX
open PySem PySem.W PySem.Calls PyProof.Rows PySem.HandSPX PySem.Spec
structure BaseX (B newId initId : String) (bmB : List Value) : Prop where
  exc : ExcBaseFacts B newId initId bmB
  st : StoreFacts B bmB "object.__setattr__" "object"
  kx : KxsFacts B initId
theorem base_VE : BaseX "ValueError" "ValueError.__new__" "ValueError.__init__" [.type "ValueError", .type "Exception", .type "BaseException", .type "object"] := ⟨F.excBase_ValueError, F.store_ValueError, kxs_ValueError⟩
theorem base_RE : BaseX "RuntimeError" "RuntimeError.__new__" "RuntimeError.__init__" [.type "RuntimeError", .type "Exception", .type "BaseException", .type "object"] := ⟨F.excBase_RuntimeError, F.store_RuntimeError, kxs_RuntimeError⟩
theorem base_LE : BaseX "LookupError" "LookupError.__new__" "LookupError.__init__" [.type "LookupError", .type "Exception", .type "BaseException", .type "object"] := ⟨F.excBase_LookupError, F.store_LookupError, kxs_LookupError⟩

section
open Builtin Builtin.ObjectAttr
variable {prog : Program} {w : World} {A : Around} {E : Value → Shared → Prop} {R : Result → Shared → Prop} {hp : Heap} {g : Array GenState} {d : Drawn} {t : Nat} {os : OsState} {B newId initId : String} {bmB : List Value}
theorem excTail_ne {l : List Value} (hb : bmB.isEmpty = false) (e : excTail bmB l = true) : l.isEmpty = false := by
  cases l with
  | nil =>
    have z : [] = bmB := beq_iff_eq.mp e
    rw [← z] at hb
    exact hb
  | cons _ _ => rfl
theorem exc_osaB (FB : BaseX B newId initId bmB) {K : W.Frag} {name : Str} {tk : Tok} {v : Value} {x C : Addr} {fv : Array Value} {cd : ClassData}
    (X : K.In hp) (hx : hp.get? x = some { cls := .ref C, data := .fields fv }) (hcd : W.clsIn K C = some cd) (hm : excTail bmB cd.mro = true) (hh : cd.hasDict = true) (ha : W.findIn K (.ref C) name = some none)
    (hq : ∀ h' tk' dx, (∀ b o, b ≠ x → hp.get? b = some o → h'.get? b = some o) → hp.objs.size ≤ dx → dx ≠ x → h'.get? x = some { cls := .ref C, dict := some dx, data := .fields fv } →
      h'.Ns1 dx (fun y => if y = name then some v else none) → R (.ok (.ret .none)) ⟨h', g, d, tk', os⟩) :
    codeAny (model prog w) A (.call (.builtin "object.__setattr__") ⟨[.ref x, .str name tk, v], []⟩) R ⟨hp, g, d, t, os⟩ := by
  have I : W.InstAt hp x { cls := .ref C, data := .fields fv } C none := ⟨hx, rfl, rfl, trivial⟩
  have SF := F.store_object
  have hbE : bmB.isEmpty = false := by
    have z := FB.st.hasOwner
    cases e : bmB with
    | nil => rw [e] at z; exact absurd z (by decide)
    | cons _ _ => rfl
  have ne := excTail_ne hbE hm
  have hob : cd.mro.contains (.type "object") = true := (excTail_contains "object" _ hm).trans FB.st.hasOwner
  have hxs : x ≠ hp.objs.size := Nat.ne_of_lt (Heap.lt_size hx)
  have sub : W.Looks (model prog w) hp (isInstance (.ref x) (.type "object")) true := I.type.andThen (W.looks_mroIn X (by unfold W.mroIn; rw [hcd, Option.bind_some, if_neg (by rw [ne]; decide), hob]))
  refine codeAny_call_builtin SF.slot.plain SF.entry (@W.check_slot (model prog w) _ _ ⟨hp, g, d, t, os⟩ "object.__setattr__" "object" "__setattr__" (.ref x) [.str name tk, v] [] _ SF.kind SF.split sub (SF.args (.ref x) (.str name tk) v) ?_)
  have hmr : W.Looks (model prog w) hp (mroOf (.ref C)) cd.mro := (W.looks_clsIn X hcd).andThen .now
  have L3 : W.Looks (model prog w) hp (storeTaker? none) none := .now
  have hcls : W.Looks (model prog w) hp (classData C) cd := W.looks_clsIn X hcd
  rw [W.osa_eq, refuse_eq]
  refine wpAny_bind (wpAny_bind (I.type.at (wpAny_bind (hmr.at ?_))))
  rw [excTail_pass (.ref x) (FB.st.passes (.ref x)) _ hm]
  refine wpAny_pure (wpAny_bind (I.type.at (wpAny_bind ((W.looks_findIn X ha).at (wpAny_bind (L3.at ?_))))))
  show wpAny _ _ (storeInOwnDict (.ref x) (.ref C) (.str name tk) name v false) _ _ _
  obtain ⟨nm, bs, mro, ns, qn, hd, sn, sb, ab, col, del⟩ := cd
  dsimp only at hh
  subst hh
  unfold storeInOwnDict ownDictForStores
  repeat (first | with_reducible refine HandSPX.store_in_new ?_ ?_ | with_reducible refine wpAny_loadPart_at hx ?_ | with_reducible refine hcls.at ?_ | wp_step)
  · exact ⟨_, #[], _, (Heap.get?_update_ne _ _ _ _ hxs.symm).trans (Heap.get?_push_at rfl rfl), rfl, fun e he => absurd he (by simp), fun _ => rfl⟩
  · intro h' tk' hn' hs
    have hx₁ : (hp.push { cls := .type "dict", data := .dict #[] }).get? x = some { cls := .ref C, data := .fields fv } := Heap.get?_push_of_some _ hx
    refine hq h' tk' hp.objs.size (fun b o hb ho => ?_) (Nat.le_refl _) hxs.symm ?_ hn'
    · exact (hs.2 b (Nat.ne_of_lt (Heap.lt_size ho))).trans ((Heap.get?_update_ne _ _ _ _ hb).trans (Heap.get?_push_of_some _ ho))
    · exact (hs.2 x hxs).trans (Heap.get?_update_self _ hx₁ rfl)
end

section
variable {prog : Program} {w : World} {A : Around} {E : Value → Shared → Prop} {h : Heap} {g : Array GenState} {d : Drawn} {t : Nat} {os : OsState} {B newId initId : String} {bmB : List Value}
variable {nm q : Str} {C N : Addr} {bs bm : List Value} {hdct : Bool} {sn : List Str} {sub : List Value} {ab : Bool} {col : Option Bool} {dd : Option Addr} {k0 k1 k2 k3 k5 : Option Value}
/-- super().__init__(..): the wrapper bound to the object is called -/
theorem call_mw (FB : BaseX B newId initId bmB) {u e t0 : Addr} {rest : List Value} {Q : Value → Shared → Prop}
    (hC : h.get? C = some (excClassObj nm q C N bs bm hdct sn sub ab col dd k0 k1 k2 k3 k5 newId)) (he : h.get? e = some (excO C t0)) (hu : h.get? u = some (kxs_mw initId e)) (hrest : rest.length ≤ sizeLine)
    (hq : ∀ h' t1, (∀ b o, b ≠ e → h.get? b = some o → h'.get? b = some o) → h'.get? e = some (excO C t1) → Q .none ⟨h', g, d, t, os⟩) :
    wpAny (model prog w) A (call (.ref u) rest) Q E ⟨h, g, d, t, os⟩ := by
  refine wpAny_call (codeAny_of_tree ?_)
  show wpAny _ A.in1 (callAny (.ref u) ⟨rest, []⟩) _ _ _
  simp only [callAny]
  refine wpAny_bind (wpAny_load hu ?_)
  simp only [kxs_mw, show (Value.type "method-wrapper" == Value.type "method" || Value.type "method-wrapper" == Value.type "builtin_function_or_method" || Value.type "method-wrapper" == Value.type "method-wrapper") = true by decide, if_true]
  refine KFB.if_so (by decide) ?_
  refine wpAny_bind (check_bound_init FB.exc.toExcCallFacts hC he rfl ?_)
  refine wpAny_bind (wpAny_pure (wpAny_pure ?_))
  refine ⟨plainId_quiet FB.exc.init.plain _, codeAny_builtin FB.exc.initEntry ?_⟩
  exact exc_init_tree (cls := .ref C) (t0 := t0) (dv := none) (c2 := .none) (c3 := .none) (b4 := .bool false) he hrest fun h' k e' t' => hq h' _ k e'
end
end RmX
set_option Elab.async false
set_option linter.all false
set_option maxRecDepth 100000
set_option maxHeartbeats 4000000
namespace RmX
open PySem PySem.W PySem.Calls PyProof.Rows PySem.HandSPX PySem.Spec
theorem eval_mcall {o : Expr} {name : Str} {args : List Expr} {apos pos : Pos} {env : Env} (hpos : (apos.endLine == pos.line) = true) (hform : methodCallForm args.length (backTo pos (starEach args env)) [] = true) :
    eval (.Call (.Attribute o name apos) args [] pos) env = (do
      let ov ← attributeBase o name env (eval o env)
      standAt apos.atName
      let (f, first) ← holding [ov] (getMethod ov name (do return (← importBound o env).getD true))
      callWith pos f first (backTo pos (starEach args env)) []) := by
  show (do
    let ov ← attributeBase o name env (eval o env)
    standAt apos.atName
    methodCall o name apos pos env ov (args.length + 0) (backTo pos (starEach args env)) []) = _
  have e : methodCallForm (args.length + 0) (backTo pos (starEach args env)) [] = true := hform
  simp only [methodCall, calleeOf, methodCallPos, e, hpos, Bool.not_true, Bool.false_or, if_true, pure_bind]
/-! ### the text of __init__ -/
def iA (F : Str) (p1 p2 : Pos) : Arguments := { posonlyargs := [], args := [{ arg := "self", annotation := none, pos := p1 }, { arg := F, annotation := none, pos := p2 }], vararg := none, kwonlyargs := [], kw_defaults := [], kwarg := none, defaults := [] }
def iB (F tx : Str) (q1 q2 q3 q4 q5 q6 q7 q8 q9 r1 r2 r3 r4 : Pos) : List Stmt :=
  [.Expr (.Call (.Attribute (.Call (.Name "super" q1) [] [] q2) "__init__" q3) [.JoinedStr [.Constant (.str tx) 0 q4, .FormattedValue (.Name F q5) 114 none q6] q7] [] q8) q9,
   .Assign [.Attribute (.Name "self" r1) F r2] (.Name F r3) r4]
def iS (F : Str) : Scope := { kind := .function, names := [(PySem.Str.ofString "self", .local), (F, .local), (PySem.Str.ofString "__class__", .free), (PySem.Str.ofString "super", .globalImplicit)], isGenerator := false, isCoroutine := false, more := [] }
/-- what the written part says of the class at C, its __init__ at fI, its field F -/
structure ExT (P : Program) (K : Frag) (mg : Str → Option Value) (C fI : Addr) (F : Str) (B newId initId : String) (bmB : List Value) : Prop where
  cls : ∃ nm q N bs bm sn sub ab col dd k0 k1 k2 k3 k5, K.lookup C = some (excClassObj nm q C N bs bm true sn sub ab col dd k0 k1 k2 k3 k5 newId) ∧ excTail bmB bm = true
  sa : findIn K (.ref C) "__setattr__" = some (some (.builtin "object.__setattr__"))
  ga : findIn K (.ref C) "__getattribute__" = some (some (.builtin "BaseException.__getattribute__"))
  gg : findIn K (.ref C) "__getattr__" = some none
  noF : findIn K (.ref C) F = some none
  iC : findIn K (.ref C) "__init__" = some (some (.ref fI))
  tI : typeIn K (.ref fI) = some (.type "function")
  kC : keepIn K (.ref C) = true
  exC : subIn K (.ref C) (.type "BaseException") = some true
  tyC : typeIn K (.ref C) = some (.type "type")
  hdC : hasDictIn K C = true
  sup : ks_superIn K C C "__init__" = some (some (.builtin initId))
  hB : subIn K (.ref C) (.type B) = some true
  self : mroIn K C (.ref C) = some true
  opq : nsIn K cStatics "thirdparty.any" = some none
  nsup : nsIn K mainGlobals "super" = some none
  /-- isinstance -/
  ca : findIn K (.ref C) "__class__" = some (some (.builtin "object.__class__"))
  cn : specialIn K (.builtin "object.__class__") "__get__" = some (some (.builtin "getset_descriptor.__get__"))
  ct : takesIn K (.builtin "object.__class__") = some true
  cm : mroIn K C (.type "object") = some true
  fn : ∃ (oc : Value) (od : Option Addr) (doc pm : Value) (an : Option Addr) (cda cc : Addr) (ct : Value) (osl : Array (Option Value)) (p1 p2 q1 q2 q3 q4 q5 q6 q7 q8 q9 r1 r2 r3 r4 : Pos) (qual tx : Str), (q3.endLine == q8.line) = true ∧
    K.lookup fI = some ⟨oc, od, .func (fnX "__init__" qual (iA F p1 p2) (iB F tx q1 q2 q3 q4 q5 q6 q7 q8 q9 r1 r2 r3 r4) (iS F) [("__class__", cc)] .none .none doc pm an (.ref cda) ct), osl⟩ ∧ codeIn K (.ref cda) qual = true ∧ tx.length ≤ 200 ∧
    (∃ cl cld csl, K.lookup cc = some ⟨cl, cld, .cell (some (.ref C)), csl⟩) ∧
    ∃ ccl cdd vs ccs file tf, K.lookup cda = some ⟨ccl, cdd, .fields vs, ccs⟩ ∧ vs[2]? = some (.str file tf) ∧ ((P.main.file : Str) == file) = true
  top : (P.main.scope.names.lookup ("super" : Str)).isSome = false
/-- the field's name -/
structure FName (F : Str) : Prop where
  l1 : (iS F).names.lookup F = some .local
  l2 : (F == ("__debug__" : Str)) = false
  l3 : (("self" : Str) == F) = false
  l4 : (F == ("self" : Str)) = false
  l5 : (iS F).names.lookup ("__class__" : Str) = some .free
  l6 : (iS F).names.lookup ("super" : Str) = some .globalImplicit
  l7 : (iS F).names.lookup ("self" : Str) = some .local
  bd : ∀ (qual : Str) (p1 p2 : Pos) (body : List Stmt) (cl : List (Str × Addr)) (doc pm cdv ct : Value) (an : Option Addr) (x v : Value), bindArgs (fnX "__init__" qual (iA F p1 p2) body (iS F) cl .none .none doc pm an cdv ct) ⟨[x, v], []⟩ = pure [(("self" : Str), x), (F, v)]
  bk : ∀ (qual : Str) (p1 p2 : Pos) (body : List Stmt) (cl : List (Str × Addr)) (doc pm cdv ct : Value) (an : Option Addr) (x v : Value), bindArgs (fnX "__init__" qual (iA F p1 p2) body (iS F) cl .none .none doc pm an cdv ct) ⟨[x], [(F, v)]⟩ = pure [(("self" : Str), x), (F, v)]
/-- what __init__ leaves of a fresh exception at x -/
structure InitEnd (h h' : Heap) (x C dx t1 : Addr) (F : Str) (v : Value) : Prop where
  keep : ∀ b o, b ≠ x → h.get? b = some o → h'.get? b = some o
  obj : h'.get? x = some { cls := .ref C, dict := some dx, data := .fields #[.ref t1, .none, .none, .none, .bool false, .none] }
  dbig : h.objs.size ≤ dx
  dne : dx ≠ x
  ns : h'.Ns1 dx (fun y => if y = F then some v else none)
/-- how v is shown: some text of bounded length, nothing of the heap is changed -/
def Shown (prog : Program) (w : World) (A : Around) (h : Heap) (v : Value) : Prop :=
  ∀ (D : Around) (E : Value → Shared → Prop) (Q : Value → Shared → Prop) (s : Shared), D.guards = A.guards → D.units ≤ A.units + 8 → (∀ b o, h.get? b = some o → s.heap.get? b = some o) →
    (∀ (x : Str) (u : Tok) (h' : Heap) (tk : Tok), x.length ≤ 1000000 → (∀ b o, s.heap.get? b = some o → h'.get? b = some o) → Q (.str x u) { s with heap := h', toks := tk }) → wpAny (model prog w) D (pyReprObj v) Q E s
section
variable {prog : Program} {w : World} {A : Around} {E : Value → Shared → Prop} {R : Result → Shared → Prop} {s : Shared} {K : Frag} {mg mb : Str → Option Value} {C fI : Addr} {F : Str} {B newId initId : String} {bmB : List Value}
theorem init_run (FB : BaseX B newId initId bmB) (T : ExT prog K mg C fI F B newId initId bmB) (N : FName F) {x t0 : Addr} {v : Value} (X : K.In s.heap) (hlim : s.heap.NoLimit) (hg : s.heap.Ns mainGlobals mg) (hmg : mg "super" = none) (hb : s.heap.Ns builtinsNs mb) (hmb : mb "super" = some (.type "super"))
    (hx : s.heap.get? x = some (excO C t0)) (hnx : K.lookup x = none) (hroom : A.depth < recursionLimit) (hsh : Shown prog w A s.heap v)
    (hq : ∀ h' tk dx t1, InitEnd s.heap h' x C dx t1 F v → R (.ok (.ret .none)) { s with heap := h', toks := tk }) :
    codeAny (model prog w) A (.call (.ref fI) ⟨[.ref x, v], []⟩) R s := by
  obtain ⟨oc, od, doc, pm, an, cda, cc, ct, osl, p1, p2, q1, q2, q3, q4, q5, q6, q7, q8, q9, r1, r2, r3, r4, qual, tx, hpos, ho, hcd, htx, ⟨cl, cld, csl, hcc⟩, ccl, cdd, vs, ccs, file, tf, hcode, hvs, hfile⟩ := T.fn
  obtain ⟨nm, q, N', bs, bm, sn, sub, ab, col, dd, k0, k1, k2, k3, k5, hC, hbm⟩ := T.cls
  have hcl : clsIn K C = some { name := nm, bases := bs, mro := .ref C :: bm, ns := N', qualname := q, hasDict := true, slotNames := sn, subclasses := sub, abstract := ab, collection := col, hasDel := false } := by unfold clsIn; rw [hC] <;> rfl
  refine ks_codeAny_call_defAt (binds := [("self", .ref x), (F, v)]) hroom (X _ _ ho) rfl hlim (codeRec_of X hcd) rfl (BindsTo.of_eq (N.bd ..)) (by intro y hy; simp only [iS, List.mem_cons, List.mem_nil_iff, or_false] at hy; rcases hy with rfl | rfl | rfl | rfl <;> simp) (fun y hy => ?_) (fun h₁ hn hk => ?_) rfl rfl rfl
  · simp only [List.mem_cons, List.mem_nil_iff, or_false] at hy
    rcases hy with rfl | rfl
    · rfl
    · exact N.l1
  · have X₁ : K.In h₁ := X.keeps hk
    have hx₁ := hk _ _ hx
    have mself : (fun y => [(("self" : Str), Value.ref x), (F, v)].reverse.lookup y) ("self" : Str) = some (.ref x) := by
      show List.lookup ("self" : Str) [(F, v), (("self" : Str), Value.ref x)] = some (.ref x)
      rw [List.lookup_cons, N.l3]
      rfl
    have mF : (fun y => [(("self" : Str), Value.ref x), (F, v)].reverse.lookup y) F = some v := by
      show List.lookup F [(F, v), (("self" : Str), Value.ref x)] = some v
      rw [List.lookup_cons, beq_self_eq_true]
    have hD1 : h₁.get? C = some (excClassObj nm q C N' bs bm true sn sub ab col dd k0 k1 k2 k3 k5 newId) := X₁ _ _ hC
    refine ks_wpAt_execs_cons (ks_wpAt_Expr_any (ks_wpAt_MethodCall ?_ (eval_mcall hpos (by rfl))) rfl rfl)
    refine ks_wpAt_super_base (f := fI) (cc := cda) N.l6 N.l5 rfl rfl (X₁ _ _ ho) rfl rfl rfl (X₁ _ _ hcode) rfl hvs hfile T.top ?_
    refine ks_loadName_global rfl N.l6 (loadGlobal_builtin (mg := mg) (mb := mb) (hg.keeps hk) hmg (hb.keeps hk) hmb ⟨rfl, ?_⟩)
    refine wpAny_loadName_free rfl N.l5 rfl ⟨_, X₁ _ _ hcc, rfl⟩ ?_
    refine wpAny_loadName_local rfl N.l7 hn mself ?_
    refine ks_wpAny_isType_cls hD1 rfl ⟨rfl, ?_⟩
    refine ks_wpAny_call_super hD1 rfl hx₁ rfl (fun c z => by cases z) (looks_mroIn X₁ T.self) (fun h₂ e₂ k₂ => ?_)
    have X₂ : K.In h₂ := X₁.keeps k₂
    have I₂ : InstAt h₂ x (excO C t0) C none := ⟨k₂ _ _ hx₁, rfl, rfl, trivial⟩
    have hxC : x ≠ C := fun z => by
      rw [z, hD1] at hx₁
      cases hx₁
    have hsup := T.sup
    unfold ks_superIn at hsup
    rw [hcl] at hsup
    refine kxs_getMethod FB.kx e₂ (looks_opaque X₂ T.opq) (l₀ := .ref C :: bm) (fun A Q E s k q => wpAny_bind ((looks_clsIn X₂ hcl) A _ E s k (wpAny_pure q))) rfl X₂ hsup (I₂.type.andThen (looks_subIn X₂ T.hB)) hxC rfl ?_
    show wpAny _ _ (callWith q8 (.ref h₂.objs.size) [] _ []) _ _ _
    refine kxs_callWith (i := initId) (x := x) rfl ?_
    refine evalArgs_plain (spliced_cons ?_)
    have k₃ : ∀ b o, s.heap.get? b = some o → (h₂.push (kxs_mw initId x)).get? b = some o := fun b o e => Heap.get?_push_of_some _ (k₂ _ _ (hk _ _ e))
    have hmw : (h₂.push (kxs_mw initId x)).get? h₂.objs.size = some (kxs_mw initId x) := Heap.get?_push_at rfl rfl
    refine wpAny_JoinedStr (pos := q7) ?_
    refine Joins_cons (Constant_str ⟨tx, _, rfl, ?_, ?_⟩)
    · show (Str.empty ++ tx).length ≤ sizeLine
      rw [strLen_append, sizeLine_eq]
      have : Str.empty.length = 0 := rfl
      omega
    refine Joins_cons (wpAny_FormattedValue_repr (wpAny_Name (wpAny_loadName_local rfl N.l1 (hn.keeps fun b o e => Heap.get?_push_of_some _ (k₂ _ _ e)) mF ?_) N.l2))
    refine hsh _ _ _ _ (by rfl) (by show A.units + 3 ≤ _; omega) k₃ fun y u h₄ tk₄ hy k₄ => ?_
    have hyz : y.length ≤ sizeLine := Nat.le_trans hy (by rw [sizeLine_eq]; decide)
    refine PyProof.Rows.formatField_str (fun u' tk' => ⟨y, u', rfl, ?_, ?_⟩) hyz
    · rw [strLen_append, strLen_append, sizeLine_eq]
      have : Str.empty.length = 0 := rfl
      omega
    refine Joins_nil ⟨?_, spliced_nil ⟨?_, ?_⟩⟩
    · rw [strLen_append, strLen_append, sizeLine_eq]
      have : Str.empty.length = 0 := rfl
      omega
    · exact k₄ _ _ hmw
    have hx₄ : h₄.get? x = some (excO C t0) := k₄ _ _ (k₃ _ _ hx)
    have hC₄ := k₄ _ _ (k₃ _ _ (X _ _ hC))
    refine call_mw FB hC₄ hx₄ (k₄ _ _ hmw) (by show 1 ≤ sizeLine; rw [sizeLine_eq]; decide) fun h₅ t₅ k₅ hx₅ => ?_
    -- self.F = F
    have k₀₄ : ∀ b o, s.heap.get? b = some o → h₄.get? b = some o := fun b o e => k₄ _ _ (k₃ _ _ e)
    have X₅ : K.In h₅ := fun b o e => k₅ b o (fun z => by rw [z, hnx] at e; cases e) (k₀₄ _ _ (X _ _ e))
    have hn₅ : h₅.Ns s.heap.objs.size (fun y => [(("self" : Str), Value.ref x), (F, v)].reverse.lookup y) := by
      obtain ⟨oL, es, ep, e1, e2⟩ := hn
      have hxL : s.heap.objs.size ≠ x := Nat.ne_of_gt (Heap.lt_size hx)
      exact ⟨oL, es, ep, k₅ _ _ hxL (k₄ _ _ (Heap.get?_push_of_some _ (k₂ _ _ e1))), e2⟩
    refine wpAt_of_wpAny (wpAny_execs_cons (plainObj_wpAny_Assign_Attribute ?_))
    refine wpAny_Name (wpAny_loadName_local rfl N.l1 hn₅ mF ?_) N.l2
    refine wpAny_Name (wpAny_loadName_local rfl N.l7 hn₅ mself ?_) (by decide)
    refine set_plain X₅ (ox := excO C t₅) (od := none) ⟨hx₅, rfl, rfl, trivial⟩ T.sa ?_
    refine exc_osaB FB X₅ hx₅ hcl hbm rfl T.noF (fun h₆ tk₆ dx k₆ dn dne hx₆ hn₆ => ?_)
    refine wpAny_execs_nil ?_
    refine hq h₆ tk₆ dx t₅ ⟨fun b o hb e => k₆ b o hb (k₅ b o hb (k₀₄ b o e)), hx₆, ?_, dne, hn₆⟩
    exact Nat.le_of_lt (Nat.lt_of_lt_of_le hn₅.lt dn)
/-- a made exception of the class at C -/
structure OwnMade (h h' : Heap) (e C d : Addr) (F : Str) (v : Value) : Prop where
  keep : ∀ b o, h.get? b = some o → h'.get? b = some o
  new : h.objs.size ≤ e
  obj : ∃ t1, h'.get? e = some { cls := .ref C, dict := some d, data := .fields #[.ref t1, .none, .none, .none, .bool false, .none] }
  dbig : h.objs.size ≤ d
  dne : d ≠ e
  ns : h'.Ns1 d (fun y => if y = F then some v else none)
theorem exc_made (FB : BaseX B newId initId bmB) (T : ExT prog K mg C fI F B newId initId bmB) (N : FName F) {v : Value} (X : K.In s.heap) (hlim : s.heap.NoLimit) (hg : s.heap.Ns mainGlobals mg) (hmg : mg "super" = none) (hb : s.heap.Ns builtinsNs mb) (hmb : mb "super" = some (.type "super"))
    (hroom : A.depth + 1 < recursionLimit) (hsh : ∀ B : Around, B.guards = A.guards → B.units ≤ A.units + 8 → Shown prog w B s.heap v)
    (hq : ∀ h' tk e d, OwnMade s.heap h' e C d F v → R (.ok (.ret (.ref e))) { s with heap := h', toks := tk }) :
    codeAny (model prog w) A (.call (.ref C) ⟨[v], []⟩) R s := by
  obtain ⟨nm, q, N', bs, bm, sn, sub, ab, col, dd, k0, k1, k2, k3, k5, hC, hbm⟩ := T.cls
  obtain ⟨hp, g, dr, tk, os⟩ := s
  have k : ∀ b o, hp.get? b = some o → ((hp.push (kdv_tup [v])).push (excO C hp.objs.size)).get? b = some o := fun b o e => Heap.get?_push_of_some _ (Heap.get?_push_of_some _ e)
  have hget : ((hp.push (kdv_tup [v])).push (excO C hp.objs.size)).get? (hp.objs.size + 1) = some (excO C hp.objs.size) := by heap_get
  have hnx : K.lookup (hp.objs.size + 1) = none := by
    cases e : K.lookup (hp.objs.size + 1) with
    | none => rfl
    | some o =>
      have z : hp.get? (hp.objs.size + 1) = some o := X _ _ e
      exact absurd (Nat.lt_of_succ_lt (Heap.lt_size z)) (Nat.lt_irrefl _)
  refine call_own FB.exc (fun X => excTail_contains X bm hbm) (X _ _ hC) (looks_findIn X T.iC) (fun self => bind_fn X self T.tI) (by show 1 ≤ sizeLine; rw [sizeLine_eq]; decide) ?_
  refine init_run (s := ⟨(hp.push (kdv_tup [v])).push (excO C hp.objs.size), g, dr, tk, os⟩) FB T N (X.keeps k) (hlim.keeps k) (hg.keeps k) hmg (hb.keeps k) hmb hget hnx ?_ ?_ fun h' tk' dx t1 hE => ?_
  · show A.depth + 1 < recursionLimit
    exact hroom
  · intro D E' Q' s' hdg hdu hk hQ
    refine hsh _ ?_ ?_ D E' Q' s' hdg hdu (fun b o e => hk _ _ (k _ _ e)) hQ
    · rfl
    · rw [L2.make_units]; omega
  · obtain ⟨k', hx, dn, dne, hns⟩ := hE
    have old : ∀ b o, hp.get? b = some o → h'.get? b = some o := fun b o e => k' b o (Nat.ne_of_lt (Nat.lt_succ_of_lt (Heap.lt_size e))) (k b o e)
    have z : hp.objs.size + 1 + 1 ≤ dx := by
      first
        | (simpa only [Heap.size_push] using dn)
        | exact dn
        | (have q := dn; rw [Heap.size_push, Heap.size_push] at q; exact q)
    exact ⟨rfl, hq h' tk' (hp.objs.size + 1) dx ⟨old, Nat.le_succ _, ⟨t1, hx⟩, Nat.le_trans (Nat.le_trans (Nat.le_succ _) (Nat.le_succ _)) z, dne, hns⟩⟩
end
end RmX
set_option Elab.async false
set_option linter.all false
set_option maxRecDepth 100000
set_option maxHeartbeats 4000000
namespace Rm
open PySem PySem.Spec PyProof.Rows L2 RmX

/-! ### data, shown -/
/-- what may stand in an error or be handed to repr -/
def Fit (d : PyData) : Prop := d.showable = true ∧ d.hasDict = false ∧ d.depth ≤ 20 ∧ d.shown.length ≤ 1000000
theorem shown_of {prog : Program} {w : World} {A : Around} {h : Heap} {u : Value} {d : PyData} {as : List Addr} (hg : A.guards = some []) (hu : A.units + 60 < cLine) (rd : Reads h u d as) (f : Fit d) : Shown prog w A h u := by
  intro D E Q s hdg hdu hk hQ
  obtain ⟨hs, hnd, hdp, hz⟩ := f
  have hz' : d.shown.length ≤ sizeLine := Nat.le_trans hz (by rw [sizeLine_eq]; decide)
  cases rd with
  | none =>
    simp only [PyData.shown] at hz
    exact pyReprObj_none (hQ _ _ s.heap _ hz fun _ _ e => e)
  | bool =>
    simp only [PyData.shown] at hz
    exact pyReprObj_bool (hQ _ _ s.heap _ hz fun _ _ e => e)
  | int =>
    simp only [PyData.shown] at hz
    exact pyReprObj_int (by simpa [PyData.showable] using hs) (hQ _ _ s.heap _ hz fun _ _ e => e)
  | str =>
    simp only [PyData.shown] at hz hz'
    exact pyReprObj_str (hQ _ _ s.heap _ hz fun _ _ e => e) hz'
  | list h1 h2 h3 h4 => exact pyReprObj_of_reads (.list h1 h2 h3 h4) hs (PyData.noDict_hsm hnd) (hdg.trans hg) (by omega) hk (fun h' u tk hk' => hQ _ _ h' tk hz hk') hz'
  | tuple h1 h2 h3 h4 => exact pyReprObj_of_reads (.tuple h1 h2 h3 h4) hs (PyData.noDict_hsm hnd) (hdg.trans hg) (by omega) hk (fun h' u tk hk' => hQ _ _ h' tk hz hk') hz'
  | dict h1 h2 h3 h4 h5 => exact absurd hnd (by simp [PyData.hasDict])

/-! ### C(e): an own exception is made -/
theorem relO_one {F : Str} {v : V} {v' : Value} (r : RelV v v') (f : Str) : RelO (List.lookup f [(F, v)]) (if f = F then some v' else none) := by
  by_cases hw : f = F
  · subst hw
    rw [if_pos rfl]
    have q : List.lookup f [(f, v)] = some v := by simp [List.lookup]
    rw [q]
    exact r
  · rw [if_neg hw]
    have qw : (f == F) = false := by simpa using hw
    have q2 : List.lookup f [(F, v)] = none := by simp [List.lookup, qw]
    rw [q2]
    trivial
def tMkX (K : PySem.W.Frag) (C : Addr) (F : Str) (ta : TA) : L2.St → Hp → XK → Prop := fun σ H Q => ta σ H fun vs H1 => ∃ v d, vs = [v] ∧ Dp K H1 v d ∧ Fit d ∧ ∀ dx, H1 dx = none → Q (.ref C) (some dx) (upd H1 dx (.xd [(F, v)]))
section
variable {X : Cx} {C fI : Addr} {F : Str} {B newId initId : String} {bmB : List Value} {a : Expr} {ta : TA} {x : Str} {p pos : Pos} {k : Nat}
theorem pmk_x (FB : BaseX B newId initId bmB) (T : ExT X.prog X.K X.mg C fI F B newId initId bmB) (N : FName F) (hr : Room k X.A) (hgd : X.A.guards = some []) (hg : Gl X x) (gC : X.mg x = some (.ref C)) (hsu : X.mg "super" = none) (ha : PA X [a] ta)
    (hdb : (x == ("__debug__" : Str)) = false := by decide)
    (he : starEach (a :: []) X.env = (false, eval a X.env) :: starEach [] X.env := by rfl) (hpl : (backTo pos (starEach [] X.env)).any (·.1) = false := by rfl) :
    PMk X (.Call (.Name x p) [a] [] pos) (tMkX X.K C F ta) := by
  intro pins s σ H Q I h
  refine wpAny_Call_Name_kw (ld_glob I hg gC ?_ hdb)
  refine PySem.W.callWith_K (h₀ := X.base) I.ok.mod.kin T.kC (thn (ha.run pos pins s σ H _ I h) fun us s1 hh => ?_) he hpl
  obtain ⟨vs, H1, I1, r1, v, d, ev, hd, hf, q1⟩ := hh
  subst ev
  refine ⟨I1.kIn, ?_⟩
  cases r1 with
  | cons rv rn =>
    rename_i v' us'
    cases rn
    show wpAny _ _ (call (.ref C) [v']) _ _ _
    have hlim := I1.nolimit
    obtain ⟨as, rd⟩ := Dp.reads I1 d v v' hd rv
    have hun := hr.un
    have hdp := hr.dp
    obtain ⟨mb, hb1, hb2⟩ := I1.mod.blt
    obtain ⟨hp, g, dr, tk, os⟩ := s1
    refine wpAny_call (exc_made FB T N I1.kIn hlim (I1.mod.glob.keeps I1.bk) hsu (hb1.keeps I1.bk) ((hb2 _ (by decide)).trans (by decide +kernel)) (by omega) (fun D hD hDu => shown_of (hD.trans hgd) (by omega) rd hf) fun h' tk' e d M => ?_)
    show MkP X pins σ Q (.ref e) ⟨h', g, dr, tk', os⟩
    obtain ⟨t1, hoe⟩ := M.obj
    have hns := M.ns
    obtain ⟨G', g1, g2⟩ := restrict h' fun b => decide (b ≠ e)
    have gk : ∀ b, b ≠ e → G'.get? b = h'.get? b := fun b hb => g1 b (decide_eq_true hb)
    have ge : G'.get? e = none := g2 e (by simp)
    have old : ∀ b o, hp.get? b = some o → G'.get? b = some o := fun b o q => (gk b (Nat.ne_of_lt (Nat.lt_of_lt_of_le (Heap.lt_size q) M.new))).trans (M.keep b o q)
    have ob : ObjOk X.prog X.w (upd H1 d (.xd [(F, v)])) G' d (.xd [(F, v)]) :=
      ⟨_, hns.at (fun o q => (gk d M.dne).trans q), fun f => relO_one rv f⟩
    have J : Inv X pins σ (upd H1 d (.xd [(F, v)])) ⟨G', g, dr, tk', os⟩ := I1.laid (t' := tk') old M.dbig ob
    refine ⟨e, _, _, ⟨G', g, dr, tk', os⟩, _, .ref C, some d, rfl, J, fun b o q => ?_, ge, hoe, ⟨rfl, rfl⟩, rfl, rfl, ?_, rfl, I1.bare, raises_own T.exC T.tyC, q1 d (I1.hok.fresh M.dbig)⟩
    · by_cases hb : b = e
      · have q' : G'.get? b = some o := q
        rw [hb, ge] at q'; cases q'
      · exact (gk b hb).symm.trans q
    · rw [upd_ne (Ne.symm M.dne)]
      exact I1.hok.fresh M.new
/-- raise C(e) -/
def tRaiseX (K : PySem.W.Frag) (C : Addr) (F : Str) (W : WX) (ta : TA) : TS := fun _ σ H => tMkX K C F ta σ H fun cls d H' => W cls d σ H'
theorem ps_raiseX {W : WX} {pos2 : Pos} (hc : X.calm = true) (FB : BaseX B newId initId bmB) (T : ExT X.prog X.K X.mg C fI F B newId initId bmB) (N : FName F) (hr : Room k X.A) (hgd : X.A.guards = some []) (gC : X.mg x = some (.ref C)) (hsu : X.mg "super" = none) (tk : Takes X W) (ha : PA X [a] ta) (hg : Gl X x := by rfl)
    (hdb : (x == ("__debug__" : Str)) = false := by decide) (he : starEach (a :: []) X.env = (false, eval a X.env) :: starEach [] X.env := by rfl) (hpl : (backTo pos (starEach [] X.env)).any (·.1) = false := by rfl) :
    PS X (.Raise (some (.Call (.Name x p) [a] [] pos)) none pos2) (tRaiseX X.K C F W ta) := ps_raise hc tk (pmk_x FB T N hr hgd hg gC hsu ha hdb he hpl)
end

/-! ### an exception that was caught and is kept by a name -/
/-- an exception of the class C at a, its dict at dx -/
def exv (a C dx : Addr) : HO := .ext fun h => ∃ (oe : Obj) (vs : Array Value), h.get? a = some oe ∧ oe.cls = .ref C ∧ oe.dict = some dx ∧ oe.data = .fields vs
theorem exv_ok {P : Program} {w : World} {H : Hp} {h : Heap} {a C dx : Addr} {oe : Obj} {vs : Array Value} (e : h.get? a = some oe) (c : oe.cls = .ref C) (d : oe.dict = some dx) (f : oe.data = .fields vs) : ObjOk P w H h a (exv a C dx) :=
  ⟨⟨oe, vs, e, c, d, f⟩, ⟨oe, e⟩, fun _ _ ⟨o, v, q, r⟩ k => ⟨o, v, k o q, r⟩⟩
theorem exv_at {P : Program} {w : World} {H : Hp} {h : Heap} {a C dx : Addr} (hok : HOk P w H h) (e : H a = some (exv a C dx)) : ∃ (oe : Obj) (vs : Array Value), h.get? a = some oe ∧ oe.cls = .ref C ∧ oe.dict = some dx ∧ oe.data = .fields vs := by
  have x : ObjOk P w H h a (.ext fun h => ∃ (oe : Obj) (vs : Array Value), h.get? a = some oe ∧ oe.cls = .ref C ∧ oe.dict = some dx ∧ oe.data = .fields vs) := hok a _ e
  exact x.1
section
variable {X : Cx} {pins : List (Addr × Obj)} {σ : L2.St} {H : Hp} {s : Shared}
/-- an object that was laid since the entry is tracked from now on -/
theorem track {a : Addr} {o : HO} (I : Inv X pins σ H s) (na : H a = none) (nL : a ≠ X.env.locals) (nC : ∀ x c, X.env.cells.lookup x = some c → c ≠ a) (nP : ∀ p ∈ X.pn ++ pins, p.1 ≠ a) (n0 : X.s_0.heap.get? a = none)
    (new : ObjOk X.prog X.w (upd H a o) s.heap a o) : Inv X pins σ (upd H a o) s := by
  have ne0 : ∀ b u, X.s_0.heap.get? b = some u → b ≠ a := fun b u e z => by rw [z, n0] at e; cases e
  have neH : ∀ b u, H b = some u → b ≠ a := fun b u e z => by rw [z, na] at e; cases e
  refine ⟨I.ok, I.os, I.bare, ⟨I.base.keep, I.base.slot, fun b u e n hx => ?_, I.base.there, fun b xs e => ?_, fun b u xs e => ?_, fun b ps e => ?_⟩, I.loc, I.cell, ?_, fun x c e => ?_, fun p hp => ?_, fun b u e => ?_, I.len⟩
  · rw [upd_ne (ne0 b u e)]
    exact I.base.free b u e n hx
  · have q := I.base.tups b xs e
    rw [upd_ne (neH b _ q)]
    exact q
  · have q := I.base.frzs b u xs e
    rw [upd_ne (neH b _ q)]
    exact q
  · obtain ⟨m, q⟩ := I.base.tbls b ps e
    exact ⟨m, by rw [upd_ne (neH b _ q)]; exact q⟩
  · rw [upd_ne (Ne.symm nL)]
    exact I.free
  · rw [upd_ne (nC x c e)]
    exact I.freeC x c e
  · obtain ⟨e, n, r⟩ := I.pin p hp
    exact ⟨e, by rw [upd_ne (nP p hp)]; exact n, r⟩
  · by_cases hb : b = a
    · subst hb
      rw [upd_same] at e
      cases e
      exact new
    · rw [upd_ne hb] at e
      exact (I.hok b u e).stay (fun _ _ _ q => q) (fun c q => by rw [upd_ne (neH c _ q)]; exact q) fun c xs q => by rw [upd_ne (neH c _ q)]; exact q
end
theorem flying_keeps {base h h' : Heap} {l : List Env} {e : Addr} {Z : Obj → Prop} (x : HandSPX.FlyingZ base l e Z h) (k : ∀ b o, h.get? b = some o → h'.get? b = some o) : HandSPX.FlyingZ base l e Z h' := by
  obtain ⟨a1, a2, a3, oe, vs, T, oT, ts, he, hz, hd, h1, hn, hT, ho, hts, h3⟩ := x
  exact ⟨fun b o e => k _ _ (a1 b o e), a2, a3.of_keeps fun b o e _ => ⟨o, k _ _ e, rfl⟩, oe, vs, T, oT, ts, k _ _ he, hz, hd, h1, hn, hT, k _ _ ho, hts, h3⟩

/-- what the clause «except (c1, c2, c3) as n: ..» wishes, where behind the suite the exception is kept -/
def wKeep (K : PySem.W.Frag) (c1 c2 c3 : Addr) (i : Nat) (ts : Addr → TS) (D : Ends) : WX := fun cls d σ H =>
  PySem.W.exmAny K cls [.ref c1, .ref c2, .ref c3] = some true ∧ ∃ C dx, cls = .ref C ∧ d = some dx ∧
    ∀ a, H a = none → ts a { nx := fun σ' H' => H' a = none ∧ D.nx (σ'.set i none) (upd H' a (exv a C dx)), rt := fun _ _ => False, bk := fun _ _ => False, ct := fun _ _ => False } (σ.set i (some (.ref a))) H
section
variable {X : Cx} {n x1 x2 x3 : Str} {p1 p2 p3 : Pos} {i : Nat} {c1 c2 c3 : Addr} {body suite : List Stmt} {b₀ : Stmt} {np pos pos' : Pos} {kt : Nat} {tb : WX → TS} {ts : Addr → TS}
theorem ps_try_keep (hs : X.stack = X.env :: X.outer) (hf : X.env.frame = some X.env.locals) (hN : X.N.Nodup) (hi : X.N[i]? = some n) (hln : X.env.kindOf n = some .local) (hex : X.ex = [])
    (hc1 : Names X x1 (.ref c1)) (hc2 : Names X x2 (.ref c2)) (hc3 : Names X x3 (.ref c3))
    (hb : ∀ (W : WX) (pn : List (Addr × Obj)) (xe : Value → Shared → Prop), Takes (X.tr pn xe) W → PassesOwn (model X.prog X.w) X.A X.env xe → PSs (X.tr pn xe) body (tb W))
    (hsu : ∀ (a : Addr) (oe : Obj) (pn : List (Addr × Obj)), PSs (X.suite a ((a, oe) :: pn)) (b₀ :: suite) (ts a)) :
    PS X (.Try body [.ExceptHandler (some (.Tuple [.Name x1 p1, .Name x2 p2, .Name x3 p3] kt np)) (some n) (b₀ :: suite) pos'] [] [] pos) (fun D σ H => tb (wKeep X.K c1 c2 c3 i ts D) D σ H) := by
  refine ⟨fun pins s σ H D I h => ?_⟩
  have ok := I.ok
  have hfr : X.A.frames = some (X.env :: X.outer) := by rw [ok.frames, hs]
  have hloc : Loc X.env.scope n := .inl hln
  refine wpAny_Try_except ?_
  refine wpAny_mono ((hb (wKeep X.K c1 c2 c3 i ts D) (X.pn ++ pins) (fun e s₁ => wpAny (model X.prog X.w) X.A (noteFrame e X.env) (fun _ s₂ => wpAny (model X.prog X.w) X.A (setFlight e none) (fun _ s₃ =>
    wpAny (model X.prog X.w) X.A (handleBy e X.env [.ExceptHandler (some (.Tuple [.Name x1 p1, .Name x2 p2, .Name x3 p3] kt np)) (some n) (b₀ :: suite) pos']) (SP X pins D) X.xe s₃) X.xe s₂) X.xe s₁) (fun u s' xx => ?_) PassesOwn.looking).run [] s σ H D (I.toTry _) h) (fun f s1 hsp => ?_) (fun e s1 he => he)
  · -- the catch
    obtain ⟨a, B, sI, pins', σ', H', cls, d, rfl, J', nb, up, sky, na, os, ag, hany, C, dx, rfl, rfl, hgo⟩ := xx
    have J : Inv X pins σ' H' sI := J'.ofTry ok
    have sky' : Sky B (X.env :: X.outer) a (Zc (.ref C) (some dx)) X.env.locals s'.heap := by rw [← hs]; exact sky
    show wpAny (model X.prog X.w) X.A (noteFrame (.ref a) X.env) _ _ _
    refine Sky.land Zc.steady hfr hf sky' fun h3 fl3 up3 => ?_
    have J3 : Inv X pins σ' H' { s' with heap := h3 } := J.landed nb fl3.1 (up.trans up3) os ag
    obtain ⟨oe3, vs3, he3, hz3, hd3⟩ := fl3.there
    have notFr : ∀ {h : Heap} {o : Obj} {vs : Array Value}, h.FunFrames B (X.env :: X.outer) → h.get? a = some o → o.data = .fields vs → a ∉ frs (X.env :: X.outer) := fun {h o vs} ff e dd hm => by
      obtain ⟨_, o', e', hnf⟩ := ff.mem hm
      rw [e] at e'; cases e'
      exact hnf _ dd
    have nfr := notFr fl3.2.2.1 he3 hd3
    have nfs : a ∉ frs X.stack := by rw [hs]; exact nfr
    have nL : a ≠ X.env.locals := fun z => nfr (List.mem_filterMap.mpr ⟨X.env, List.mem_cons_self, by rw [hf, z]⟩)
    have nF : a ∉ X.fs := fun hm => by
      obtain ⟨e, he, q⟩ := List.mem_filterMap.mp hm
      exact nfr (List.mem_filterMap.mpr ⟨e, List.mem_cons_of_mem _ he, q⟩)
    have nI : sI.heap.get? a = none := by
      cases e : sI.heap.get? a with
      | none => rfl
      | some o =>
        have z := nb a o e nfs
        rw [fl3.2.1] at z
        cases z
    have n0 : X.s_0.heap.get? a = none := by
      cases e : X.s_0.heap.get? a with
      | none => rfl
      | some o =>
        obtain ⟨o', q⟩ := J.base.there a o e (by rw [hex]; exact fun z => nomatch z)
        rw [nI] at q
        cases q
    have nP : ∀ p ∈ X.pn ++ pins, p.1 ≠ a := fun p hp z => by
      have q := (J.pin p hp).1
      rw [z, nI] at q
      cases q
    have S3 := J3.suite he3 hd3 na nL nF
    refine wpAny_handleBy_cons (codeAny_handlers_test ?_) (by intro q; cases q)
    have ld : ∀ {x : Str} {c : Value} {q : Pos} {Q : Value → Shared → Prop} {E : Value → Shared → Prop}, Names X x c → Q c { s' with heap := h3 } → wpAny (model X.prog X.w) (X.A.mark (some (.ref a))) (eval (.Name x q) X.env) Q E { s' with heap := h3 } := fun {x c q Q E} hc q => by
      obtain ⟨hg, hdbg, hm | ⟨hm, hv, hnn⟩⟩ := hc
      · exact ld_glob (X := X.suite a ((a, oe3) :: (X.pn ++ pins))) S3 hg hm q hdbg
      · exact ld_blt (X := X.suite a ((a, oe3) :: (X.pn ++ pins))) S3 hg hm hv q hnn hdbg
    refine wpAny_Tuple_spliced ?_
    show wpAny _ _ (spliced ((false, eval (.Name x1 p1) X.env) :: (false, eval (.Name x2 p2) X.env) :: (false, eval (.Name x3 p3) X.env) :: [])) _ _ _
    refine Calls.spliced_cons (ld hc1 (Calls.spliced_cons (ld hc2 (Calls.spliced_cons (ld hc3 (Calls.spliced_nil ⟨by rw [sizeLine_eq]; show 3 ≤ 16777216; decide, ?_⟩))))))
    have kp : ∀ b o, h3.get? b = some o → (h3.push { cls := .type "tuple", data := .seq [Value.ref c1, .ref c2, .ref c3].toArray }).get? b = some o := fun b o e => Heap.get?_push_of_some _ e
    have fl3' := flying_keeps fl3 kp
    have he3' := kp _ _ he3
    have LT : PySem.W.Looks (model X.prog X.w) (h3.push { cls := .type "tuple", data := .seq [Value.ref c1, .ref c2, .ref c3].toArray }) (typeOf (.ref a)) (.ref C) := fun A Q E s k q => wpAny_typeOf_ref (k _ _ he3') (by rw [hz3.1]; exact q)
    have LM := PySem.W.exm_tup3 (M := model X.prog X.w) (J3.kIn.keeps kp) LT (Heap.get?_push_size h3 rfl) hany
    refine LM.here ?_
    show codeAny _ _ (.handlers (.ref a) [.ExceptHandler none (some n) (b₀ :: suite) pos'] X.env) _ _
    refine codeAny_handlers_suite_as ?_
    have up4 : s'.heap.UpToSlots (h3.push { cls := .type "tuple", data := .seq [Value.ref c1, .ref c2, .ref c3].toArray }) := up3.trans (Heap.UpToSlots.of_keeps kp)
    refine HandSPX.lands_againZ (s := ⟨h3.push { cls := .type "tuple", data := .seq [Value.ref c1, .ref c2, .ref c3].toArray }, s'.gens, s'.drawn, s'.toks, s'.os⟩) fl3' fun h4 fl4 up5 => ?_
    have J4 : Inv X pins σ' H' { s' with heap := h4 } := J.landed nb fl4.1 ((up.trans up4).trans up5) os ag
    obtain ⟨oe4, vs4, he4, hz4, hd4⟩ := fl4.there
    have S4 := J4.suite he4 hd4 na nL nF
    refine store_ok (X := X.suite a ((a, oe4) :: (X.pn ++ pins))) (v := .ref a) S4 hN hi hloc rfl (fun s5 S5 => ?_) (.inr hln)
    refine wpAny_mono ((hsu a oe4 (X.pn ++ pins)).run [] s5 _ H' _ S5 (hgo a na)) (fun f s6 hsp => ?_) (fun _ _ z => False.elim z)
    cases f with
    | next =>
      obtain ⟨σ6, H6, S6, n6, q6⟩ := hsp
      have J6 : Inv X pins σ6 H6 s6 := S6.unsuite ok
      obtain ⟨ha6, _, _, _, _⟩ := S6.pin (a, oe4) (List.mem_append_left _ List.mem_cons_self)
      have K6 : Inv X pins σ6 (upd H6 a (exv a C dx)) s6 := track J6 n6 nL (fun x c e z => by
        obtain ⟨v, o, ho, hd⟩ := J6.cell x c e
        rw [z, ha6] at ho
        cases ho
        rw [hd4] at hd
        cases hd) nP n0 (exv_ok ha6 hz4.1 hz4.2 hd4)
      show wpAny (model X.prog X.w) X.A (do bindName X.env n .none; unbindBehindTheSuite X.env n pos') _ X.xe s6
      exact gone_ok K6 hN hi hln fun s7 J7 => ⟨_, _, J7, q6⟩
    | brk =>
      obtain ⟨_, _, _, q6⟩ := hsp
      exact q6.elim
    | cont =>
      obtain ⟨_, _, _, q6⟩ := hsp
      exact q6.elim
    | ret u =>
      obtain ⟨_, _, _, _, _, q6⟩ := hsp
      exact q6.elim
  · cases f with
    | next =>
      obtain ⟨σ', H', J', q⟩ := hsp
      exact wpAny_execs_nil ⟨σ', H', J'.ofTry ok, q⟩
    | brk =>
      obtain ⟨σ', H', J', q⟩ := hsp
      exact ⟨σ', H', J'.ofTry ok, q⟩
    | cont =>
      obtain ⟨σ', H', J', q⟩ := hsp
      exact ⟨σ', H', J'.ofTry ok, q⟩
    | ret u =>
      obtain ⟨v, σ', H', J', r, q⟩ := hsp
      exact ⟨v, σ', H', J'.ofTry ok, r, q⟩
end

/-! ### a kept exception: its field, isinstance, is None -/
section
variable {X : Cx} {e : Expr} {te : TE} {pos : Pos} {F : Str} {B newId initId : String} {bmB : List Value}
/-- e.F -/
def tExF (P : Program) (K : PySem.W.Frag) (mg : Str → Option Value) (F : Str) (te : TE) : TE := fun σ H Q => te σ H fun x H1 => ∃ (a C dx fI : Addr) (B newId initId : String) (bmB : List Value) (v : V), x = .ref a ∧ ExT P K mg C fI F B newId initId bmB ∧ H1 a = some (exv a C dx) ∧ H1 dx = some (.xd [(F, v)]) ∧ Q v H1
theorem pe_exf (he : PE X e te) (hb : attributeBase e F X.env (eval e X.env) = eval e X.env := by rfl) : PE X (.Attribute e F pos) (tExF X.prog X.K X.mg F te) := by
  refine ⟨fun pins s σ H Q I h => ?_⟩
  refine attr_of hb (thn (he.run pins s σ H _ I h) fun u s1 hh => ?_)
  obtain ⟨x, H1, I1, rx, a, C, dx, fI, B, newId, initId, bmB, v, ex, T, ea, ed, q⟩ := hh
  subst ex
  obtain rfl : u = Value.ref a := rx
  obtain ⟨oe, vs, h1, h2, h3, h4⟩ := exv_at I1.hok ea
  have hx : ObjOk X.prog X.w H1 s1.heap dx (.xd [(F, v)]) := I1.hok dx _ ed
  obtain ⟨mA, hns, hr⟩ := hx
  obtain ⟨od, ho, hl⟩ := lookIn_ns hns
  have l : List.lookup F [(F, v)] = some v := by simp [List.lookup]
  obtain ⟨u, hu, ru⟩ := RelO.some_of (v := v) (o := mA F) (by rw [← l]; exact hr F)
  have J : PySem.W.InstAt s1.heap a oe C (some od) := ⟨h1, h2, by unfold PySem.W.notCls; rw [h4] <;> rfl, by rw [h3]; exact ho⟩
  exact HandSPX.exc_get I1.kIn J T.ga T.gg T.exC (PySem.W.findObj_own T.hdC T.noF rfl (by rw [hl, hu])) (handed_of ru) ⟨v, H1, I1.tok _, ru, q⟩
/-- isinstance(e, c), e a kept exception -/
def rIsX (P : Program) (K : PySem.W.Frag) (mg : Str → Option Value) : List V → Hp → VK → Prop := fun xs H Q => ∃ (a C dx fI : Addr) (F : Str) (B newId initId : String) (bmB : List Value) (c : V) (cv : Value) (b : Bool), xs = [.ref a, c] ∧ ExT P K mg C fI F B newId initId bmB ∧ H a = some (exv a C dx) ∧ (∃ fs, H dx = some (.xd fs)) ∧ ClsV c cv ∧ PySem.W.kitOne K (.ref C) cv = some b ∧ Q (.bl b) H
theorem call_isX : CallR X (.builtin "isinstance") (rIsX X.prog X.K X.mg) := by
  intro pins s σ H xs us Q I r h
  obtain ⟨a, C, dx, fI, F, B, newId, initId, bmB, c, cv, b, rfl, T, ea, ⟨fs, ed⟩, k, e, q⟩ := h
  obtain ⟨u1, u2, rfl, r1, r2⟩ := vals2 r
  cases (show u1 = Value.ref a from r1)
  have e2 := k.eq r2
  subst e2
  obtain ⟨oe, vs, h1, h2, h3, h4⟩ := exv_at I.hok ea
  obtain ⟨mA, hns, _⟩ := (show ObjOk X.prog X.w H s.heap dx (.xd fs) from I.hok dx _ ed)
  obtain ⟨od, ho, _⟩ := lookIn_ns hns
  have J : PySem.W.InstAt s.heap a oe C (some od) := ⟨h1, h2, by unfold PySem.W.notCls; rw [h4] <;> rfl, by rw [h3]; exact ho⟩
  obtain ⟨cd, hcd, _⟩ := PySem.W.any_some T.hdC
  exact PySem.W.kia_one (PySem.W.kitx_exc (by rw [hcd]; rfl) T.ga T.gg T.exC T.ca T.cn T.ct T.cm) I.kIn J e (fun z => nomatch z) fun tk => ⟨.bl b, H, I.tok tk, rfl, q⟩
end
end Rm
set_option Elab.async false
set_option linter.all false
set_option maxRecDepth 100000
set_option maxHeartbeats 4000000
/-! # Data: its type, the length of its text; calls by keywords alone; // by great numbers of any sign -/
namespace Rm
open PySem PySem.Spec PyProof.Rows L2 RmX
def tyN : PyData → String
  | .none => "NoneType" | .bool _ => "bool" | .int _ => "int" | .str _ => "str" | .list _ => "list" | .tuple _ => "tuple" | .dict _ => "dict"
theorem dpTy {K : PySem.W.Frag} {H : Hp} {x : V} {d : PyData} (h : Dp K H x d) : TyX K H x (.type (tyN d)) := by
  cases h with
  | non => exact .base .non
  | bl b => exact .base (.bl b)
  | int i => exact .base (.int i)
  | str x => exact .base (.str x)
  | lst h1 _ =>
    rcases h1 with (h1 | ⟨o, h1⟩) | ⟨o, its, n, h1, h2, _⟩
    · exact .base (.lst h1)
    · exact .base (.frz h1)
    · exact .kList h1 h2
  | tup h1 _ =>
    rcases h1 with (h1 | ⟨o, h1⟩) | ⟨o, its, n, h1, h2, _⟩
    · exact .base (.tup h1)
    · exact .fTuple h1
    · exact .kTuple h1 h2
theorem dp_same {K : PySem.W.Frag} {H H' : Hp} (s : Same H H') : ∀ {d : PyData} {x : V}, Dp K H x d → Dp K H' x d := by
  have sl : ∀ {a : Addr} {xs : List V}, SqL K H a xs → SqL K H' a xs := fun h => s.seq h
  have st : ∀ {a : Addr} {xs : List V}, SqT K H a xs → SqT K H' a xs := fun {a xs} h => by
    rcases h with (h | ⟨o, h⟩) | h
    · exact .inl (.inl (s _ _ h))
    · exact .inl (.inr ⟨o, s _ _ h⟩)
    · exact .inr h
  intro d x h
  exact Dp.rec (motive_1 := fun x d _ => Dp K H' x d) (motive_2 := fun xs ds _ => DpAll K H' xs ds) .non .bl .int .str (fun h1 _ ih => .lst (sl h1) ih) (fun h1 _ ih => .tup (st h1) ih) .nil (fun _ _ i1 i2 => .cons i1 i2) h
/-! ### how long a text is -/
mutual
def cst : PyData → Nat
  | .none => 4
  | .bool _ => 5
  | .int _ => 2000
  | .str x => (reprText x).length
  | .list xs => cstAll xs + 4
  | .tuple xs => cstAll xs + 4
  | .dict _ => 0
def cstAll : List PyData → Nat
  | [] => 0
  | x :: xs => cst x + 2 + cstAll xs
end
theorem listText_le (ts : List Str) : (listText ts).length ≤ piled ts + 4 := by
  cases ts with
  | nil => decide +kernel
  | cons t r =>
    have h := textFrom_length_pos r 1 (("[" : Str) ++ (if (0 : Nat) > 0 then ", " else "" : String) ++ t) (Nat.succ_pos 0)
    have e : ((("[" : Str) ++ (if (0 : Nat) > 0 then ", " else "" : String) ++ t)).length = 1 + t.length := by
      rw [strLen_append, strLen_append]; rfl
    have hX : (listText (t :: r)).length = (textFrom 0 "[" (t :: r)).length + 1 := by
      show (textFrom 0 "[" (t :: r) ++ "]").length = _
      rw [strLen_append]; rfl
    have hY : (textFrom 0 "[" (t :: r)).length = (textFrom 1 (("[" : Str) ++ (if (0 : Nat) > 0 then ", " else "" : String) ++ t) r).length := rfl
    rw [hX, hY, h, e, piled_cons]; omega
mutual
theorem shown_le : ∀ d : PyData, d.showable = true → d.hasDict = false → d.shown.length ≤ cst d
  | .none, _, _ => by simp only [PyData.shown, cst]; decide +kernel
  | .bool b, _, _ => by cases b <;> (simp only [PyData.shown, cst]; decide +kernel)
  | .int i, h, _ => by
    have hi : i.natAbs.log2 < 1920 := by simpa [PyData.showable] using h
    have e := int_text_length_le (k := 1920) (by decide) hi
    simp only [PyData.shown, cst]
    rw [PySem.ofString_length]; omega
  | .str x, _, _ => by simp only [PyData.shown, cst]; exact Nat.le_refl _
  | .list xs, h, h2 => by
    have ih := shownAll_le xs (by simpa [PyData.showable] using h) (by simpa [PyData.hasDict] using h2)
    have := listText_le (PyData.shownAll xs)
    simp only [PyData.shown, cst]; omega
  | .tuple xs, h, h2 => by
    have ih := shownAll_le xs (by simpa [PyData.showable] using h) (by simpa [PyData.hasDict] using h2)
    have := fmt_text (PyData.shownAll xs)
    simp only [PyData.shown, cst]; omega
  | .dict _, _, h => by simp [PyData.hasDict] at h
theorem shownAll_le : ∀ xs : List PyData, PyData.showableAll xs = true → PyData.hasDictAll xs = false → piled (PyData.shownAll xs) ≤ cstAll xs
  | [], _, _ => Nat.zero_le _
  | x :: xs, h, h2 => by
    have h' : x.showable = true ∧ PyData.showableAll xs = true := by simpa [PyData.showableAll] using h
    have h2' : x.hasDict = false ∧ PyData.hasDictAll xs = false := by simpa [PyData.hasDictAll] using h2
    have a := shown_le x h'.1 h2'.1
    have b := shownAll_le xs h'.2 h2'.2
    simp only [PyData.shownAll, piled_cons, cstAll]; omega
end
theorem fit_of {d : PyData} (h1 : d.showable = true) (h2 : d.hasDict = false) (h3 : d.depth ≤ 20) (h4 : cst d ≤ 1000000) : Fit d := ⟨h1, h2, h3, Nat.le_trans (shown_le d h1 h2) h4⟩
/-! ### // -/
section
variable {X : Cx}
theorem op_fdivZ : OpR X (binaryOp .FloorDiv) (rI (fun _ j => j ≠ 0 ∧ j.natAbs.log2 < 9000) fun i j => .int (i.fdiv j)) := opI fun i j _ _ _ _ _ hc q => floordiv_int hc.1 q (.inl (PyProof.noPylong_of_log2 hc.2))
end
/-! ### f(k = v, ..) -/
section
variable {X : Cx} {k : Nat} {f : Addr} {fd : FuncData} {ps ks : List Str} {sp : Sp} {E : L2.St → XK} {x : Str} {p pos : Pos} {kws : List Keyword} {tk : TA} {g : List Value → List Value → List Value} {gV : List V → List V → List V}
def tCallKG (sp : Sp) (gV : List V → List V → List V) (E : L2.St → XK) (tk : TA) : TE := fun σ H Q => tk σ H fun zs H2 => sp (gV [] zs) H2 Q (E σ)
theorem pe_callKG (F : FnG X.prog X.w X.K X.mg X.base k f fd ps sp) (hr : Room k X.A) (hgd : X.A.guards = some []) (hg : Gl X x) (hm : X.mg x = some (.ref f)) (hk : PySem.W.keepIn X.K (.ref f) = true) (hb : KBinds X.K fd ps ks g gV) (hx : ∀ σ, PassesAt (L2.CX X.prog X.w) X σ (E σ))
    (hkw : PK X kws tk) (hall : (backToKw pos (keywordEach kws X.env)).all (·.1.isSome) = true := by rfl) (hks : (backToKw pos (keywordEach kws X.env)).filterMap (·.1) = ks := by rfl)
    (hdb : (x == ("__debug__" : Str)) = false := by decide) (hpl : ((backTo pos (starEach [] X.env)).any (·.1) || (backToKw pos (keywordEach kws X.env)).any (·.1.isNone)) = false := by rfl) :
    PE X (.Call (.Name x p) [] kws pos) (tCallKG sp gV E tk) := by
  refine ⟨fun pins s σ H Q I h => ?_⟩
  refine wpAny_Call_Name_kw (ld_glob I hg hm ?_ hdb)
  refine PySem.W.callWith_KW0 (h₀ := X.base) I.ok.mod.kin hk hall ?_ hpl
  refine thn (hkw.run pos pins s σ H _ I h) fun ws s2 ⟨zs, H2, I2, rz, q2⟩ => ⟨I2.kIn, ?_⟩
  rw [hks]
  have r2 := hb.rel (vs := []) (us := []) .nil rz
  have hl : (g [] ws).length = ps.length := by rw [← r2.length]; exact F.len _ _ _ _ q2
  refine wpAny_call (codeAny_mono (F.run X.A X.stack s2 H2 ⟨[], ks.zip ws⟩ (g [] ws) (gV [] zs) Q (E σ) hr hgd I2.env0 (hb.to s2 [] ws I2.kIn hl) r2 q2) fun r s' hq => ?_)
  cases r with
  | error e => exact hx σ pins H2 s2 e s' I2 hq
  | ok fl =>
    cases fl with
    | ret u => exact I2.after hq
    | next => exact False.elim hq
    | brk => exact False.elim hq
    | cont => exact False.elim hq
end
end Rm
set_option Elab.async false
set_option linter.all false
set_option maxRecDepth 100000
set_option maxHeartbeats 4000000
/-! # The law is called where nothing is being shown -/
namespace Rm
open PySem PySem.Spec PyProof.Rows L2 RmX
section
variable {P : Program} {w : World} {K : PySem.W.Frag} {mg mb : Str → Option Value} {k : Nat} {fa a : Addr} {fd : FuncData} {x : Str} {sp : Sp} {t : Shared} {cells : List Value} {ns : List Int}
/-- how the law ends -/
abbrev Fin1 (t : Shared) : Result → Shared → Prop := fun r t' => r = .ok (.ret (.bool true)) ∧ OldK t.heap t'.heap ∧ t'.os = t.os ∧ AllBare t'.gens
/-- a view of the heap: the script alone may be tracked -/
structure View (P : Program) (w : World) (K : PySem.W.Frag) (t : Shared) (a : Addr) (xs : List V) (T : Hp) : Prop where
  only : Only T
  list : SqL K T a xs
  holds : HOk P w T t.heap
  at_a : ∀ b, T b ≠ none → b = a
  out : T a ≠ none → K.lookup a = none
theorem lawG_view {T : Hp} (kin : K.In t.heap) (gl : t.heap.Ns mainGlobals mg) (bl : t.heap.Ns builtinsNs mb) (bb : ∀ y : Str, y ≠ "__name__" → mb y = bootBuiltins y) (nol : t.heap.NoLimit) (gens : t.gens = #[])
    (obj : t.heap.get? a = some { cls := .type "list", data := .seq cells.toArray }) (rm : Room k callerA)
    (promise : ∀ base : Heap, K.In base → base.Ns mainGlobals mg → FnG P w K mg base k fa fd [x] sp) (bnd : ∀ (s : Shared) (u : Value), BindsTo s fd ⟨[u], []⟩ [(x, u)])
    (V1 : View P w K t a (ns.map V.int) T) (kept : sp [.ref a] T (fun v _ => v = .bl true) fun _ _ _ => False) :
    codeAny (model P w) callerA (.call (.ref fa) ⟨[.ref a], []⟩) (Fin1 t) t := by
  -- dicts are not tracked
  have untr : ∀ {b : Addr} {o : Obj} {es : Array DictEntry} {ep : Nat}, t.heap.get? b = some o → o.data = .dict es ep → T b = none := by
    intro b o es ep e d
    rcases hq : T b with _ | u
    · rfl
    · exfalso
      have eb := V1.at_a b (by rw [hq]; exact fun z => nomatch z)
      rw [eb, obj] at e
      cases e
      exact nomatch d
  have space : ∀ {b : Addr} {m : Str → Option Value}, t.heap.Ns b m → (hidT t.heap T).Ns b m := by
    rintro b m ⟨o, es, ep, e, d, r⟩
    exact ⟨o, es, ep, hidT_get e (untr e d), d, r⟩
  have kbase : K.In (hidT t.heap T) := by
    intro b o e
    refine hidT_get (kin b o e) ?_
    rcases hq : T b with _ | u
    · rfl
    · exfalso
      have eb := V1.at_a b (by rw [hq]; exact fun z => nomatch z)
      rw [eb, V1.out (by rw [← eb, hq]; exact fun z => nomatch z)] at e
      cases e
  have nolim : (hidT t.heap T).NoLimit := by
    obtain ⟨mc, l1, l2⟩ := nol
    exact ⟨mc, space l1, l2⟩
  have modu : Mod K mg (hidT t.heap T) := ⟨kbase, space gl, ⟨mb, space bl, bb⟩, nolim⟩
  have enter : Env0 P w K mg (hidT t.heap T) callerA [] t T :=
    ⟨rfl, modu, fun b o => of_hidT, Nat.le_of_eq (hidT_size _ _), trivial, (fun b z => nomatch z), V1.holds, .of_eq gens⟩
  have ran := (promise _ kbase (space gl)).run callerA [] t T ⟨[.ref a], []⟩ [.ref a] [.ref a] _ _ rm rfl enter (bnd t (.ref a)) (.cons rfl .nil) kept
  refine codeAny_mono ran ?_
  rintro (e | fl) t' h
  · obtain ⟨_, _, _, _, _, _, _, _, _, _, _, _, z⟩ := h
    exact z.elim
  · cases fl with
    | ret u =>
      obtain ⟨v, T', hos, hb, un, ok', rv, ev⟩ := h
      have ev : v = .bl true := ev
      rw [ev] at rv
      have eu : u = Value.bool true := rv
      rw [eu]
      refine ⟨rfl, OldK.of_keep ?_, hos, hb⟩
      intro b o e
      rcases hq : T b with _ | u
      · exact un.keep b o e hq (fun z => nomatch z) (fun z => nomatch z)
      · rcases V1.only b with z | ⟨ob, xs, z⟩
        · rw [hq] at z
          cases z
        · have e1 := (V1.holds b _ z).1
          have e2 := (ok' b _ (un.frzs b ob _ z)).1
          rw [e] at e1
          cases e1
          exact e2
    | next => exact h.elim
    | brk => exact h.elim
    | cont => exact h.elim
theorem lawG_call (kin : K.In t.heap) (gl : t.heap.Ns mainGlobals mg) (bl : t.heap.Ns builtinsNs mb) (bb : ∀ y : Str, y ≠ "__name__" → mb y = bootBuiltins y) (nol : t.heap.NoLimit) (gens : t.gens = #[])
    (obj : t.heap.get? a = some { cls := .type "list", data := .seq cells.toArray }) (whole : IntsAre cells ns) (len : ns.length ≤ sizeLine) (rm : Room k callerA)
    (promise : ∀ base : Heap, K.In base → base.Ns mainGlobals mg → FnG P w K mg base k fa fd [x] sp) (bnd : ∀ (s : Shared) (u : Value), BindsTo s fd ⟨[u], []⟩ [(x, u)])
    (kept : ∀ T : Hp, Only T → SqL K T a (ns.map V.int) → sp [.ref a] T (fun v _ => v = .bl true) fun _ _ _ => False) :
    codeAny (model P w) callerA (.call (.ref fa) ⟨[.ref a], []⟩) (Fin1 t) t := by
  have rel : Vals (ns.map V.int) cells := L2.vals_ints whole
  have cnt : cells.length = ns.length := whole.length
  rcases hl : K.lookup a with _ | o
  · -- the script is new: it is tracked, frozen
    let fz : HO := .frz { cls := .type "list", data := .seq cells.toArray } (.lst (ns.map V.int))
    have at1 : ∀ b, (if b = a then some fz else none) = none ∨ b = a := by
      intro b
      by_cases h : b = a
      · exact .inr h
      · exact .inl (if_neg h)
    have VW : View P w K t a (ns.map V.int) (fun b => if b = a then some fz else none) := by
      refine ⟨?_, .inl (.inr ⟨_, if_pos rfl⟩), ?_, ?_, fun _ => hl⟩
      · intro b
        by_cases h : b = a
        · exact .inr ⟨_, _, if_pos h⟩
        · exact .inl (if_neg h)
      · intro b u e
        rcases at1 b with z | z
        · rw [show (if b = a then some fz else none) = some u from e] at z
          cases z
        · subst z
          cases (if_pos rfl).symm.trans e
          exact ⟨obj, by rw [List.length_map]; exact len, cells, _, rel, obj⟩
      · intro b z
        rcases at1 b with h | h
        · exact absurd h z
        · exact h
    exact lawG_view kin gl bl bb nol gens obj rm promise bnd VW (kept _ VW.only VW.list)
  · -- the script is the module's own
    have e := kin a o hl
    rw [obj] at e
    cases e
    have VW : View P w K t a (ns.map V.int) (fun _ => none) := by
      refine ⟨fun _ => .inl rfl, .inr ⟨_, cells.toArray, _, hl, rfl, rfl, rfl, ?_, by simpa using rel⟩, (fun b u z => nomatch z), fun b z => absurd rfl z, fun z => absurd rfl z⟩
      rw [List.size_toArray, cnt]
      exact len
    exact lawG_view kin gl bl bb nol gens obj rm promise bnd VW (kept _ VW.only VW.list)
end
/-- the goal that the head leaves, from the law's promise -/
theorem walk_ofG {l : PySem.W.OpenLaw} {n k : Nat} {q : Program} {loose : List Str} {XP : (Str → Option Value) → Heap → Prop} {YP : World → Heap → Prop} {d : DefRec} {K : Params → PySem.W.Frag} {sp : PySem.W.Frag → Sp} {x : Str}
    (most : l.most = some n) (fits : n ≤ sizeLine) (nodef : d.params.defaults = []) (rm : Room k callerA) (own : ∀ (w : World) (h : Heap), YP w h → (K w.params).In h)
    (F : ∀ (w : World) (mg : Str → Option Value) (fa : Addr) (h : Heap), (K w.params).In h → h.Ns mainGlobals mg → mg d.name = some (.ref fa) →
      ∃ fd : FuncData, (∀ (s : Shared) (u : Value), BindsTo s fd ⟨[u], []⟩ [(x, u)]) ∧ ∀ base : Heap, (K w.params).In base → base.Ns mainGlobals mg → FnG l.prog w (K w.params) mg base k fa fd [x] (sp (K w.params)))
    (kept : ∀ (K : PySem.W.Frag) (T : Hp) (a : Addr) (ns : List Int), ns.length ≤ n → SqL K T a (ns.map V.int) → sp K [.ref a] T (fun v _ => v = .bl true) fun _ _ _ => False) :
    PySem.W.WalkO q loose XP YP l.row.toRowW d [] (fun f vs => PySem.call f vs) := by
  refine Att.attach_call most nodef ?_
  intro w s₀ t mg mb fa o pm cd doc a cells ns G Y ho hd hcd hmg hobj hints hlen hg
  obtain ⟨fd, bnd, promise⟩ := F w mg fa _ (own w _ Y) G.T.g hmg
  exact lawG_call (own w _ Y) G.T.g G.T.b G.T.builtins G.T.nolimit hg hobj hints (Nat.le_trans hlen fits) rm promise bnd fun T _ hS => kept _ T a ns hlen hS
end Rm
/-! # Fractions in lowest terms, in plain Lean -/
namespace Mth
/-- the sign and the common divisor by which above and below are divided -/
def shr (a b : Int) : Int := if b < 0 then -((Nat.gcd a.natAbs b.natAbs : Nat) : Int) else ((Nat.gcd a.natAbs b.natAbs : Nat) : Int)
def nrm (a b : Int) : Int × Int := (a.fdiv (shr a b), b.fdiv (shr a b))
def isNum (n d : Int) : Prop := 1 ≤ d ∧ Nat.gcd n.natAbs d.natAbs = 1
theorem gcd_pos {a b : Int} (h : b ≠ 0) : 0 < Nat.gcd a.natAbs b.natAbs := Nat.gcd_pos_of_pos_right _ (by omega)
theorem shr_ne {a b : Int} (h : b ≠ 0) : shr a b ≠ 0 := by
  have := gcd_pos (a := a) h
  unfold shr
  split <;> omega
theorem shr_abs (a b : Int) : (shr a b).natAbs = Nat.gcd a.natAbs b.natAbs := by
  unfold shr
  split <;> omega
theorem shr_dvd_l (a b : Int) : shr a b ∣ a := by
  rw [← Int.natAbs_dvd_natAbs, shr_abs]
  exact Nat.gcd_dvd_left _ _
theorem shr_dvd_r (a b : Int) : shr a b ∣ b := by
  rw [← Int.natAbs_dvd_natAbs, shr_abs]
  exact Nat.gcd_dvd_right _ _
theorem fdiv_mul {a s : Int} (h : s ∣ a) : a.fdiv s * s = a := Int.fdiv_mul_cancel h
/-- nrm a b = (n, d): what is known -/
structure Nrm (a b n d : Int) : Prop where
  num : isNum n d
  cross : n * b = a * d
  la : n.natAbs ≤ a.natAbs
  lb : d.natAbs ≤ b.natAbs
theorem nrm_spec {a b : Int} (h : b ≠ 0) : Nrm a b (nrm a b).1 (nrm a b).2 := by
  have e1 : a.fdiv (shr a b) * shr a b = a := fdiv_mul (shr_dvd_l a b)
  have e2 : b.fdiv (shr a b) * shr a b = b := fdiv_mul (shr_dvd_r a b)
  have hs := shr_ne (a := a) h
  have hg := gcd_pos (a := a) h
  have habs := shr_abs a b
  show Nrm a b (a.fdiv (shr a b)) (b.fdiv (shr a b))
  generalize hn : a.fdiv (shr a b) = n at *
  generalize hd : b.fdiv (shr a b) = d at *
  have a1 : n.natAbs * Nat.gcd a.natAbs b.natAbs = a.natAbs := by rw [← habs, ← Int.natAbs_mul, e1]
  have a2 : d.natAbs * Nat.gcd a.natAbs b.natAbs = b.natAbs := by rw [← habs, ← Int.natAbs_mul, e2]
  refine ⟨⟨?_, ?_⟩, ?_, ?_, ?_⟩
  · -- the sign
    have hd0 : d ≠ 0 := fun z => by rw [z, Int.zero_mul] at e2; exact h e2.symm
    by_cases hb : b < 0
    · have es : shr a b < 0 := by unfold shr; rw [if_pos hb]; omega
      by_cases hd' : d < 0
      · exact absurd (Int.mul_pos_of_neg_of_neg hd' es) (by omega)
      · omega
    · have es : 0 < shr a b := by unfold shr; rw [if_neg hb]; omega
      by_cases hd' : d < 0
      · exact absurd (Int.mul_neg_of_neg_of_pos hd' es) (by omega)
      · omega
  · have key : Nat.gcd (n.natAbs * Nat.gcd a.natAbs b.natAbs) (d.natAbs * Nat.gcd a.natAbs b.natAbs) = Nat.gcd n.natAbs d.natAbs * Nat.gcd a.natAbs b.natAbs := Nat.gcd_mul_right _ _ _
    rw [a1, a2] at key
    have k2 : Nat.gcd n.natAbs d.natAbs * Nat.gcd a.natAbs b.natAbs = 1 * Nat.gcd a.natAbs b.natAbs := by rw [Nat.one_mul]; exact key.symm
    exact Nat.eq_of_mul_eq_mul_right hg k2
  · have : n * (d * shr a b) = n * shr a b * d := by rw [Int.mul_comm d, ← Int.mul_assoc]
    rw [e2, e1] at this
    exact this
  · have : n.natAbs * 1 ≤ n.natAbs * Nat.gcd a.natAbs b.natAbs := Nat.mul_le_mul_left _ hg
    omega
  · have : d.natAbs * 1 ≤ d.natAbs * Nat.gcd a.natAbs b.natAbs := Nat.mul_le_mul_left _ hg
    omega
theorem num_unique {n d n' d' : Int} (h : isNum n d) (h' : isNum n' d') (e : n * d' = n' * d) : n = n' ∧ d = d' := by
  obtain ⟨h1, h2⟩ := h
  obtain ⟨h1', h2'⟩ := h'
  have ea : n.natAbs * d'.natAbs = n'.natAbs * d.natAbs := by rw [← Int.natAbs_mul, ← Int.natAbs_mul, e]
  have c : Nat.Coprime d.natAbs n.natAbs := Nat.Coprime.symm h2
  have c' : Nat.Coprime d'.natAbs n'.natAbs := Nat.Coprime.symm h2'
  have d1 : d.natAbs ∣ d'.natAbs := c.dvd_of_dvd_mul_left ⟨n'.natAbs, by rw [ea, Nat.mul_comm]⟩
  have d2 : d'.natAbs ∣ d.natAbs := c'.dvd_of_dvd_mul_left ⟨n.natAbs, by rw [← ea, Nat.mul_comm]⟩
  have dd : d.natAbs = d'.natAbs := Nat.dvd_antisymm d1 d2
  have dd' : d = d' := by omega
  subst dd'
  exact ⟨Int.eq_of_mul_eq_mul_right (by omega) e, rfl⟩
/-- the number that a fraction with the same worth has -/
theorem nrm_is {a b n d : Int} (hb : b ≠ 0) (h : isNum n d) (e : n * b = a * d) : nrm a b = (n, d) := by
  have s := nrm_spec (a := a) hb
  have k : (nrm a b).1 * d = n * (nrm a b).2 := by
    have e1 : (nrm a b).1 * b = a * (nrm a b).2 := s.cross
    have : (nrm a b).1 * d * b = n * (nrm a b).2 * b := by
      calc (nrm a b).1 * d * b = (nrm a b).1 * b * d := by rw [Int.mul_assoc, Int.mul_comm d b, ← Int.mul_assoc]
        _ = a * (nrm a b).2 * d := by rw [e1]
        _ = a * d * (nrm a b).2 := by rw [Int.mul_assoc, Int.mul_comm (nrm a b).2 d, ← Int.mul_assoc]
        _ = n * b * (nrm a b).2 := by rw [e]
        _ = n * (nrm a b).2 * b := by rw [Int.mul_assoc, Int.mul_comm b, ← Int.mul_assoc]
    exact Int.eq_of_mul_eq_mul_right hb this
  obtain ⟨e1, e2⟩ := num_unique s.num h k
  exact Prod.ext e1 e2
end Mth
set_option Elab.async false
set_option linter.all false
set_option maxRecDepth 100000
set_option maxHeartbeats 4000000
namespace K2
open PySem PySem.Spec PyProof.Rows L2 RmX Rm
def top (i : Nat) : Stmt := PySem.Challenge.pw_roompace_k02_numbers_recognized.main.body.getD i (.Pass ⟨0, 0, 0, 0⟩)
abbrev sBegin : Stmt := top 17
abbrev sMixed : Stmt := top 18
abbrev sNext : Stmt := top 19

/-! ### the draw: a dict of four -/
abbrev kC : Key := Sum.inr (Str.ofString "cells")
abbrev kA : Key := Sum.inr (Str.ofString "at")
abbrev kL : Key := Sum.inr (Str.ofString "left")
abbrev kU : Key := Sum.inr (Str.ofString "used")
def kvD (c : Addr) (a l u : Int) : List (Key × V) := [(kC, V.ref c), (kA, V.int a), (kL, V.int l), (kU, V.int u)]
theorem n1 : ¬ (Str.ofString "cells" = Str.ofString "at") := by decide +kernel
theorem n2 : ¬ (Str.ofString "cells" = Str.ofString "left") := by decide +kernel
theorem n3 : ¬ (Str.ofString "cells" = Str.ofString "used") := by decide +kernel
theorem n4 : ¬ (Str.ofString "at" = Str.ofString "left") := by decide +kernel
theorem n5 : ¬ (Str.ofString "at" = Str.ofString "used") := by decide +kernel
theorem n6 : ¬ (Str.ofString "left" = Str.ofString "used") := by decide +kernel
theorem m1 : ¬ (Str.ofString "at" = Str.ofString "cells") := by decide +kernel
theorem m2 : ¬ (Str.ofString "left" = Str.ofString "cells") := by decide +kernel
theorem m3 : ¬ (Str.ofString "used" = Str.ofString "cells") := by decide +kernel
theorem m4 : ¬ (Str.ofString "left" = Str.ofString "at") := by decide +kernel
theorem m5 : ¬ (Str.ofString "used" = Str.ofString "at") := by decide +kernel
theorem m6 : ¬ (Str.ofString "used" = Str.ofString "left") := by decide +kernel
theorem ki {x y : Str} (h : ¬ x = y) : ¬ ((Sum.inr x : Key) = Sum.inr y) := fun z => h (Sum.inr.inj z)
theorem vC (c : Addr) (a l u : Int) : valV (kvD c a l u) kC = some (V.ref c) := valV_pos rfl
theorem vA (c : Addr) (a l u : Int) : valV (kvD c a l u) kA = some (V.int a) := (valV_neg (ki n1)).trans (valV_pos rfl)
theorem vL (c : Addr) (a l u : Int) : valV (kvD c a l u) kL = some (V.int l) := (valV_neg (ki n2)).trans ((valV_neg (ki n4)).trans (valV_pos rfl))
theorem vU (c : Addr) (a l u : Int) : valV (kvD c a l u) kU = some (V.int u) := (valV_neg (ki n3)).trans ((valV_neg (ki n5)).trans ((valV_neg (ki n6)).trans (valV_pos rfl)))
theorem pA (c : Addr) (a l u x : Int) : putK (kvD c a l u) kA (V.int x) = kvD c x l u := by
  have e1 := n1; have e4 := m4; have e5 := m5
  simp [putK, kvD, e1, e4, e5]
theorem pL (c : Addr) (a l u x : Int) : putK (kvD c a l u) kL (V.int x) = kvD c a x u := by
  have e2 := n2; have e4 := n4; have e6 := m6
  simp [putK, kvD, e2, e4, e6]
theorem pU (c : Addr) (a l u x : Int) : putK (kvD c a l u) kU (V.int x) = kvD c a l x := by
  have e3 := n3; have e5 := n5; have e6 := n6
  simp [putK, kvD, e3, e5, e6]
theorem dk_mk (c : Addr) (a l u : Int) : mergeK [] (kvD c a l u) = kvD c a l u := by
  have e1 := n1; have e2 := n2; have e3 := n3; have e4 := n4; have e5 := n5; have e6 := n6
  simp [mergeK, putK, kvD, e1, e2, e3, e4, e5, e6]
/-- the draw stands at p, its cells at c; fewer than n + 1 cells were passed -/
def DrawAt (H : Hp) (p c : Addr) (n : Nat) : Prop := ∃ (a l u : Int) (ns : List Int), H p = some (.dK (kvD c a l u)) ∧ H c = some (.lst (ns.map V.int)) ∧ 0 < ns.length ∧ ns.length ≤ 64 ∧ 0 ≤ a ∧ a ≤ n ∧ 0 ≤ l ∧ 0 ≤ u ∧ u ≤ n
/-- all that was tracked stays, but p -/
def Kp (p : Addr) (H H' : Hp) : Prop := ∀ b o, H b = some o → b ≠ p → H' b = some o
theorem Kp.refl (p : Addr) (H : Hp) : Kp p H H := fun _ _ e _ => e
theorem Kp.trans {p : Addr} {H H1 H2 : Hp} (a : Kp p H H1) (b : Kp p H1 H2) : Kp p H H2 := fun c o e n => b c o (a c o e n) n
theorem Kp.new {p a : Addr} {H H' : Hp} {o : HO} (k : Kp p H H') (n : H' a = none) : Kp p H (upd H' a o) := fun c u e hn => by
  rw [upd_ne (ne_of_none (k c u e hn) n)]
  exact k c u e hn
theorem Kp.newS {p a : Addr} {H : Hp} {o : HO} (n : H a = none) : Kp p H (upd H a o) := (Kp.refl p H).new n
theorem Kp.self {p : Addr} {H : Hp} {o : HO} : Kp p H (upd H p o) := fun c u e hn => by rw [upd_ne hn]; exact e
theorem DrawAt.p {H : Hp} {p c : Addr} {n : Nat} (d : DrawAt H p c n) : ∃ o, H p = some o := by
  obtain ⟨a, l, u, ns, h, _⟩ := d
  exact ⟨_, h⟩
theorem DrawAt.ne {H : Hp} {p c : Addr} {n : Nat} (d : DrawAt H p c n) : c ≠ p := by
  obtain ⟨a, l, u, ns, h, h2, _⟩ := d
  exact ne_of h2 h (by intro z; cases z)
theorem DrawAt.mono {H : Hp} {p c : Addr} {n m : Nat} (d : DrawAt H p c n) (h : n ≤ m) : DrawAt H p c m := by
  obtain ⟨a, l, u, ns, h1, h2, h3, h4, h5, h6, h7, h8, h9⟩ := d
  exact ⟨a, l, u, ns, h1, h2, h3, h4, h5, by omega, h7, h8, by omega⟩
theorem DrawAt.same {H H' : Hp} {p c : Addr} {n : Nat} (d : DrawAt H p c n) (s : Same H H') : DrawAt H' p c n := by
  obtain ⟨a, l, u, ns, h1, h2, h3⟩ := d
  exact ⟨a, l, u, ns, s _ _ h1, s _ _ h2, h3⟩
/-- script's, draw's and mixer's promises -/
def spBegin (K : PySem.W.Frag) : Sp := fun vs H Q _ => ∃ (a : Addr) (ns : List Int), vs = [.ref a] ∧ SqL K H a (ns.map V.int) ∧ ns.length ≤ 63 ∧ ∀ p c H', DrawAt H' p c 0 → Same H H' → Q (.ref p) H'
def spMixed : Sp := fun vs H Q _ => ∃ (cell k : Int), vs = [.int cell, .int k] ∧ 0 ≤ k ∧ k < 2 ^ 40 ∧ ∀ r : Int, 0 ≤ r → r < 2 ^ 31 → Q (.int r) H
def spNext : Sp := fun vs H Q _ => ∃ (p c : Addr) (n : Nat) (bound : Int), vs = [.ref p, .int bound] ∧ DrawAt H p c n ∧ n < 2 ^ 30 ∧ 0 < bound ∧ bound < 2 ^ 30 ∧
  ∀ (r : Int) (H' : Hp), 0 ≤ r → r < bound → DrawAt H' p c (n + 1) → Kp p H H' → (∀ b, b ≠ p → H' b = H b) → Q (.int r) H'
structure TxtD (K : PySem.W.Frag) (mg : Str → Option Value) (fM : Addr) : Prop where
  len : mg "len" = none
  gM : mg "_law_mixed" = some (.ref fM)
  kM : PySem.W.keepIn K (.ref fM) = true
section
variable {P : Program} {w : World} {K : PySem.W.Frag} {mg : Str → Option Value} {base : Heap}
theorem scB : FnScope ["script"] ["script"] (defScope sBegin) := ⟨rfl, rfl, rfl, by decide +kernel, rfl, by decide +kernel, by decide +kernel⟩
theorem ok_begin {f : Addr} {fd : FuncData} (F : Fun K "_law_begin" "_law_begin" sBegin f fd) : FnG P w K mg base 1 f fd ["script"] (spBegin K) := by
  refine okG F scB (fun vs H Q E h => ?_) (fun cdv A outer s H vs Q E hr hgd h => ?_)
  · obtain ⟨a, ns, rfl, _⟩ := h
    rfl
  · obtain ⟨a, ns, rfl, hS, hl, k⟩ := h
    refine ⟨_, pss_one (ps_ret (pe_disp (pps_cons pe_str (pe_op op_catS (pv 0) (pe_lst (pa_cons pe_int pa_nil))) (pps_cons pe_str pe_int (pps_cons pe_str pe_int (pps_cons pe_str pe_int pps_nil)))) (by rfl) (by rfl) (fun z => by cases z) (by decide))), ?_⟩
    intro p np
    have s1 : Same H (upd H p (.dK [])) := fun b o e => by rw [upd_ne (ne_of_none e np)]; exact e
    refine ⟨_, rfl, by rw [sizeLine_eq]; show 1 ≤ 16777216; decide, fun l nl => ?_⟩
    have s2 : Same H (upd (upd H p (.dK [])) l (.lst [V.int 0])) := fun b o e => by rw [upd_ne (ne_of_none (s1 b o e) nl)]; exact s1 b o e
    refine ⟨a, l, ns.map V.int, [V.int 0], rfl, rfl, s2.seq hS, SqL.of upd_same, by rw [List.length_map, sizeLine_eq]; show ns.length + 1 ≤ _; omega, fun c nc => ?_⟩
    have s3 : Same H (upd (upd (upd H p (.dK [])) l (.lst [V.int 0])) c (.lst (ns.map V.int ++ [V.int 0]))) := fun b o e => by rw [upd_ne (ne_of_none (s2 b o e) nc)]; exact s2 b o e
    have npl : p ≠ l := ne_of_none upd_same nl
    have npc : p ≠ c := ne_of_none (show (upd (upd H p (.dK [])) l (.lst [V.int 0])) p = some (.dK []) by rw [upd_ne npl, upd_same]) nc
    refine ⟨by rw [upd_ne npc, upd_ne npl, upd_same], kvD c 0 0 0, rfl, by show 4 ≤ 15; decide, ?_⟩
    rw [dk_mk]
    refine k p c _ ⟨0, 0, 0, ns ++ [0], upd_same, ?_, by simp, by simp; omega, by omega, by omega, by omega, by omega, by omega⟩ fun b o e => ?_
    · rw [upd_ne (Ne.symm npc), upd_same, List.map_append]
      rfl
    · rw [upd_ne (ne_of_none e np)]
      exact s3 b o e
theorem md (e : Int) {M : Int} (h : 0 < M) (hM : M < 2 ^ 64) : -(2 ^ 64) < e % M ∧ e % M < 2 ^ 64 := by
  have a := Int.emod_nonneg e (show M ≠ 0 by omega)
  have b := Int.emod_lt_of_pos e h
  omega
theorem fin_b (e : Int) : 0 ≤ e % 2147483647 / 7 ∧ e % 2147483647 / 7 < 2 ^ 31 := by omega
theorem scM : FnScope ["cell", "k", "mixed"] ["cell", "k"] (defScope sMixed) := ⟨rfl, rfl, rfl, by decide +kernel, rfl, by decide +kernel, by decide +kernel⟩
theorem ok_mixed {f : Addr} {fd : FuncData} (F : Fun K "_law_mixed" "_law_mixed" sMixed f fd) : FnG P w K mg base 1 f fd ["cell", "k"] spMixed := by
  refine okG F scM (fun vs H Q E h => ?_) (fun cdv A outer s H vs Q E hr hgd h => ?_)
  · obtain ⟨cell, k, rfl, _⟩ := h
    rfl
  · obtain ⟨cell, k, rfl, h0, h1, kq⟩ := h
    refine ⟨_, pss_cons (ps_set (i := 2) scM.nd rfl (Or.inl rfl) (pe_op op_mod (pe_op op_add (pe_op op_add (pe_op op_add (pe_op op_mod (pv 0) pe_int) (pe_op op_mul (pe_op op_mul pe_int (pv 1)) (pv 1))) (pe_op op_mul pe_int (pv 1))) pe_int) pe_int))
      (pss_cons (ps_set (i := 2) scM.nd rfl (Or.inl rfl) (pe_op op_mod (pe_op op_mul (pe_op op_mod (pe_op op_mul (pv 2) (pv 2)) pe_int) (pv 2)) pe_int))
      (pss_one (ps_ret (pe_op op_fdiv (pe_op op_mod (pe_op op_mul (pv 2) (pe_op op_add pe_int (pe_op op_mul pe_int (pe_op op_mod (pv 1) pe_int)))) pe_int) pe_int)))), ?_⟩
    refine ⟨_, rfl, _, _, rfl, rfl, (by show (0 : Int) < 1000000007; decide), _, rfl, _, _, rfl, rfl, .inl ⟨by decide, by decide⟩, _, rfl, _, _, rfl, rfl, .inr ⟨by omega, by omega⟩, _, _, rfl, rfl, _, rfl, _, _, rfl, rfl, .inl ⟨by decide, by decide⟩, _, _, rfl, rfl, _, _, rfl, rfl, _, _, rfl, rfl, (by show (0 : Int) < 2147483647; decide), ?_⟩
    refine ⟨_, rfl, _, rfl, _, _, rfl, rfl, .inl (md _ (by decide) (by decide)), _, _, rfl, rfl, (by show (0 : Int) < 2147483647; decide), _, rfl, _, _, rfl, rfl, .inl (md _ (by decide) (by decide)), _, _, rfl, rfl, (by show (0 : Int) < 2147483629; decide), ?_⟩
    refine ⟨_, rfl, _, rfl, _, _, rfl, rfl, (by show (0 : Int) < 1000; decide), _, _, rfl, rfl, .inl ⟨by decide, by decide⟩, _, _, rfl, rfl, _, _, rfl, rfl, .inl (md _ (by decide) (by decide)), _, _, rfl, rfl, (by show (0 : Int) < 2147483647; decide), _, _, rfl, rfl, ⟨by decide, by decide⟩, ?_⟩
    exact kq _ (fin_b _).1 (fin_b _).2
theorem scN : FnScope ["draw", "bound", "found", "cells", "cell"] ["draw", "bound"] (defScope sNext) := ⟨rfl, rfl, rfl, by decide +kernel, rfl, by decide +kernel, by decide +kernel⟩
theorem ok_next {f fM : Addr} {fd fdM : FuncData} (F : Fun K "_law_next" "_law_next" sNext f fd) (T : TxtD K mg fM) (FM : Fun K "_law_mixed" "_law_mixed" sMixed fM fdM) (bM : Binds K fdM ["cell", "k"] []) : FnG P w K mg base 2 f fd ["draw", "bound"] spNext := by
  have GM : FnG P w K mg base 1 fM fdM ["cell", "k"] spMixed := ok_mixed FM
  refine okG F scN (fun vs H Q E h => ?_) (fun cdv A outer s H vs Q E hr hgd h => ?_)
  · obtain ⟨p, c, n, b, rfl, _⟩ := h
    rfl
  · obtain ⟨p, c, n, bd, rfl, D, hn, b0, b1, kq⟩ := h
    have hu := hu_of hr
    obtain ⟨a, l, u, ns, h1, h2, h3, h4, h5, h6, h7, h8, h9⟩ := id D
    have ncp : c ≠ p := D.ne
    refine ⟨_, pss_cons (ps_if (pt_cmpR op_gt (pe_dget hu (pv 0) pe_str (fun _ _ => rfl)) pe_int (nomark _))
        (pss_cons (ps_set (i := 2) scN.nd rfl (Or.inl rfl) (pe_op op_mod (pe_dget hu (pv 0) pe_str (fun _ _ => rfl)) (pv 1)))
          (pss_cons (ps_dput hu (pv 0) pe_str (pe_op op_fdiv (pe_dget hu (pv 0) pe_str (fun _ _ => rfl)) (pv 1)) rfl)
          (pss_one (ps_ret (pv 2))))) pss_nil)
      (pss_cons (ps_set (i := 3) scN.nd rfl (Or.inl rfl) (pe_dget hu (pv 0) pe_str (fun _ _ => rfl)))
      (pss_cons (ps_set (i := 4) scN.nd rfl (Or.inl rfl) (pe_ix ix_list (pv 3) (pe_op op_mod (pe_dget hu (pv 0) pe_str (fun _ _ => rfl)) (pe_callB call_len_seq (by rfl) T.len PySem.boot_len (pa_cons (pv 3) pa_nil))) (fun _ _ => rfl)))
      (pss_cons (ps_dput hu (pv 0) pe_str (pe_op op_add (pe_dget hu (pv 0) pe_str (fun _ _ => rfl)) pe_int) rfl)
      (pss_cons (ps_if (PW.pt (pw_and (pt_cmpR op_ge (pv 4) (pe_op op_pow pe_int pe_int) (nomark _)) (pw_and1 (pt_cmpR op_le (pe_dget hu (pv 0) pe_str (fun _ _ => rfl)) (pe_callB call_len_seq (by rfl) T.len PySem.boot_len (pa_cons (pv 3) pa_nil)) (nomark _)))))
        (pss_cons (ps_dput hu (pv 0) pe_str (pe_op op_fdiv (pv 4) (pv 1)) rfl) (pss_one (ps_ret (pe_op op_mod (pv 4) (pv 1))))) pss_nil)
      (pss_cons (ps_dput hu (pv 0) pe_str (pe_op op_add (pe_dget hu (pv 0) pe_str (fun _ _ => rfl)) pe_int) rfl)
      (pss_one (ps_ret (pe_op op_mod (pe_callG (E := fun _ => E0) GM hr hgd rfl T.gM T.kM bM .nil pass0G (pa_cons (pe_callG (E := fun _ => E0) GM hr hgd rfl T.gM T.kM bM .nil pass0G (pa_cons (pv 4) (pa_cons (pe_dget hu (pv 0) pe_str (fun _ _ => rfl)) pa_nil))) (pa_cons (pe_dget hu (pv 0) pe_str (fun _ _ => rfl)) pa_nil))) (pv 1))))))))), ?_⟩
    have dg : ∀ {G : Hp} {a' l' u' : Int}, G p = some (.dK (kvD c a' l' u')) → DGet G p (.str (Str.ofString "left")) (some (.int l')) ∧ DGet G p (.str (Str.ofString "at")) (some (.int a')) ∧ DGet G p (.str (Str.ofString "used")) (some (.int u')) ∧ DGet G p (.str (Str.ofString "cells")) (some (.ref c)) := fun {G a' l' u'} e => by
      refine ⟨?_, ?_, ?_, ?_⟩
      · rw [← vL c a' l' u']; exact DGet.k (k := kL) e
      · rw [← vA c a' l' u']; exact DGet.k (k := kA) e
      · rw [← vU c a' l' u']; exact DGet.k (k := kU) e
      · rw [← vC c a' l' u']; exact DGet.k (k := kC) e
    have dpL : ∀ {G : Hp} {a' l' u' : Int} (x : Int), G p = some (.dK (kvD c a' l' u')) → DPut G p (.str (Str.ofString "left")) (.int x) (upd G p (.dK (kvD c a' x u'))) := fun {G a' l' u'} x e => by
      rw [← pL c a' l' u' x]; exact DPut.k (k := kL) e (by rw [sizeLine_eq]; show 4 < 16777216; decide)
    have dpA : ∀ {G : Hp} {a' l' u' : Int} (x : Int), G p = some (.dK (kvD c a' l' u')) → DPut G p (.str (Str.ofString "at")) (.int x) (upd G p (.dK (kvD c x l' u'))) := fun {G a' l' u'} x e => by
      rw [← pA c a' l' u' x]; exact DPut.k (k := kA) e (by rw [sizeLine_eq]; show 4 < 16777216; decide)
    have dpU : ∀ {G : Hp} {a' l' u' : Int} (x : Int), G p = some (.dK (kvD c a' l' u')) → DPut G p (.str (Str.ofString "used")) (.int x) (upd G p (.dK (kvD c a' l' x))) := fun {G a' l' u'} x e => by
      rw [← pU c a' l' u' x]; exact DPut.k (k := kU) e (by rw [sizeLine_eq]; show 4 < 16777216; decide)
    have fin : ∀ {a' l' u' : Int} (r : Int), 0 ≤ a' → a' ≤ a + 1 → 0 ≤ l' → 0 ≤ u' → u' ≤ u + 1 → 0 ≤ r → r < bd → Q (.int r) (upd H p (.dK (kvD c a' l' u'))) := fun {a' l' u'} r e1 e2 e3 e4 e5 e6 e7 =>
      kq r _ e6 e7 ⟨a', l', u', ns, upd_same, by rw [upd_ne ncp]; exact h2, h3, h4, e1, by omega, e3, e4, by omega⟩ Kp.self fun b hb => upd_ne hb
    refine ⟨_, rfl, p, .int l, rfl, (dg h1).1, _, _, rfl, rfl, _, rfl, ?_⟩
    refine ite2 (fun hl => ?_) (fun hl => ?_)
    · have hl0 : 0 < l := of_decide_eq_true hl
      refine ⟨_, rfl, p, .int l, rfl, (dg h1).1, _, rfl, _, _, rfl, rfl, b0, ?_⟩
      refine ⟨_, rfl, p, .int l, rfl, (dg h1).1, _, rfl, _, _, rfl, rfl, ⟨b0, by omega⟩, _, rfl, p, _, rfl, dpL _ h1, _, rfl, ?_⟩
      exact fin _ h5 (by omega) (Int.ediv_nonneg h7 (by omega)) h8 (by omega) (Int.emod_nonneg _ (by omega)) (Int.emod_lt_of_pos _ b0)
    · refine ⟨_, rfl, p, .ref c, rfl, (dg h1).2.2.2, ?_⟩
      have hlen : ((ns.map V.int).length : Int) = (ns.length : Int) := by rw [List.length_map]
      obtain ⟨x, hx⟩ : ∃ x : Int, atI (ns.map V.int) (a % ((ns.map V.int).length : Int)) = some (V.int x) := by
        rw [hlen]
        have e0 := Int.emod_nonneg a (show (ns.length : Int) ≠ 0 by omega)
        have e1 := Int.emod_lt_of_pos a (show (0 : Int) < (ns.length : Int) by omega)
        obtain ⟨j, hj⟩ : ∃ j : Nat, a % (ns.length : Int) = (j : Int) := ⟨(a % (ns.length : Int)).toNat, by omega⟩
        rw [hj]
        have hjl : j < ns.length := by omega
        exact ⟨ns[j], atI_nat (by rw [List.getElem?_map, List.getElem?_eq_getElem hjl]; rfl)⟩
      refine ⟨_, rfl, _, rfl, p, .int a, rfl, (dg h1).2.1, _, rfl, c, _, rfl, .inl (SqL.of h2), _, _, rfl, rfl, by rw [hlen]; omega, c, _, _, .int x, rfl, rfl, SqL.of h2, hx, ?_⟩
      refine ⟨_, rfl, p, .int a, rfl, (dg h1).2.1, _, _, rfl, rfl, _, rfl, p, _, rfl, dpA _ h1, ?_⟩
      have g1 : (upd H p (.dK (kvD c (a + 1) l u))) p = some (.dK (kvD c (a + 1) l u)) := upd_same
      have g2 : (upd H p (.dK (kvD c (a + 1) l u))) c = some (.lst (ns.map V.int)) := by rw [upd_ne ncp]; exact h2
      refine ⟨_, rfl, _, _, rfl, rfl, ⟨by decide, by decide, by decide⟩, _, _, rfl, rfl, _, rfl, ?_⟩
      refine ite2 (fun hc => ?_) (fun hc => iteF ?_)
      · refine ⟨_, rfl, p, _, rfl, (dg g1).2.1, _, rfl, c, _, rfl, .inl (SqL.of g2), _, _, rfl, rfl, _, rfl, ?_⟩
        refine ite2 (fun hd => ?_) (fun hd => ?_)
        · have hx0 : (10 : Int) ^ 18 ≤ x := of_decide_eq_true hc
          refine ⟨_, rfl, _, rfl, _, _, rfl, rfl, ⟨b0, by omega⟩, _, rfl, p, _, rfl, dpL _ g1, _, rfl, _, rfl, _, _, rfl, rfl, b0, ?_⟩
          rw [upd_upd]
          exact fin _ (by omega) (by omega) (Int.ediv_nonneg (by omega) (by omega)) h8 (by omega) (Int.emod_nonneg _ (by omega)) (Int.emod_lt_of_pos _ b0)
        · refine ⟨_, rfl, p, _, rfl, (dg g1).2.2.1, _, _, rfl, rfl, _, rfl, p, _, rfl, dpU _ g1, ?_⟩
          have f1 : (upd (upd H p (.dK (kvD c (a + 1) l u))) p (.dK (kvD c (a + 1) l (u + 1)))) p = some (.dK (kvD c (a + 1) l (u + 1))) := upd_same
          refine ⟨_, rfl, _, rfl, p, _, rfl, (dg f1).2.1, x, a + 1, rfl, by omega, by omega, fun r1 r10 r11 => ?_⟩
          refine ⟨_, rfl, p, _, rfl, (dg f1).2.2.1, r1, u + 1, rfl, by omega, by omega, fun r2 r20 r21 => ?_⟩
          refine ⟨_, rfl, _, _, rfl, rfl, b0, ?_⟩
          rw [upd_upd]
          exact fin _ (by omega) (by omega) h7 (by omega) (by omega) (Int.emod_nonneg _ (by omega)) (Int.emod_lt_of_pos _ b0)
      · refine ⟨_, rfl, p, _, rfl, (dg g1).2.2.1, _, _, rfl, rfl, _, rfl, p, _, rfl, dpU _ g1, ?_⟩
        have f1 : (upd (upd H p (.dK (kvD c (a + 1) l u))) p (.dK (kvD c (a + 1) l (u + 1)))) p = some (.dK (kvD c (a + 1) l (u + 1))) := upd_same
        refine ⟨_, rfl, _, rfl, p, _, rfl, (dg f1).2.1, x, a + 1, rfl, by omega, by omega, fun r1 r10 r11 => ?_⟩
        refine ⟨_, rfl, p, _, rfl, (dg f1).2.2.1, r1, u + 1, rfl, by omega, by omega, fun r2 r20 r21 => ?_⟩
        refine ⟨_, rfl, _, _, rfl, rfl, b0, ?_⟩
        rw [upd_upd]
        exact fin _ (by omega) (by omega) h7 (by omega) (by omega) (Int.emod_nonneg _ (by omega)) (Int.emod_lt_of_pos _ b0)
end
end K2
set_option Elab.async false
set_option linter.all false
set_option maxRecDepth 100000
set_option maxHeartbeats 4000000
namespace K2
open PySem PySem.Spec PyProof.Rows L2 RmX Rm Mth
abbrev sNum : Stmt := top 7
abbrev sIsI : Stmt := top 8
abbrev sIsN : Stmt := top 9
abbrev sChk : Stmt := top 14
/-! ### promises -/
def isI : PyData → Bool
  | .int _ => true
  | _ => false
def isN : PyData → Bool
  | .tuple [.int a, .int b] => decide (1 ≤ b) && decide (((Nat.gcd a.natAbs b.natAbs : Nat) : Int) = 1)
  | _ => false
def spIsI (K : PySem.W.Frag) : Sp := fun vs H Q _ => ∃ x d, vs = [x] ∧ Dp K H x d ∧ Q (.bl (isI d)) H
def spIsN (K : PySem.W.Frag) : Sp := fun vs H Q _ => ∃ x d, vs = [x] ∧ Dp K H x d ∧ Q (.bl (isN d)) H
/-- InvalidNumber(x) leaves -/
def Bad (C : Addr) (x : V) (H : Hp) (E : XK) : Prop := ∀ dx, H dx = none → E (.ref C) (some dx) (upd H dx (.xd [(Str.ofString "thing", x)]))
def spChk (K : PySem.W.Frag) (C : Addr) : Sp := fun vs H Q E => ∃ x d, vs = [x] ∧ Dp K H x d ∧ (isN d = true → Q .non H) ∧ (isN d = false → Fit d ∧ Bad C x H E)
/-- what the written part says -/
structure TxtN (P : Program) (K : PySem.W.Frag) (mg : Str → Option Value) (C fI fNum fIsI fIsN fChk : Addr) : Prop where
  ex : ExT P K mg C fI (Str.ofString "thing") "ValueError" "ValueError.__new__" "ValueError.__init__" [.type "ValueError", .type "Exception", .type "BaseException", .type "object"]
  gC : mg "InvalidNumber" = some (.ref C)
  sup : mg "super" = none
  len : mg "len" = none
  isi : mg "isinstance" = none
  gint : mg "int" = none
  gbool : mg "bool" = none
  gtup : mg "tuple" = none
  gcd : mg "gcd" = some (.builtin "math.gcd")
  gNum : mg "number" = some (.ref fNum)
  kNum : PySem.W.keepIn K (.ref fNum) = true
  gIsI : mg "is_integer" = some (.ref fIsI)
  kIsI : PySem.W.keepIn K (.ref fIsI) = true
  gIsN : mg "is_number" = some (.ref fIsN)
  kIsN : PySem.W.keepIn K (.ref fIsN) = true
  gChk : mg "check_number" = some (.ref fChk)
  kChk : PySem.W.keepIn K (.ref fChk) = true
theorem fn_thing : FName (Str.ofString "thing") := ⟨rfl, by decide, by decide +kernel, by decide +kernel, rfl, rfl, rfl, fun _ _ _ _ _ _ _ _ _ _ _ _ => rfl, fun _ _ _ _ _ _ _ _ _ _ _ _ => rfl⟩
theorem kb (a b : String) {r : Bool} (h : kitB a b = some r) {K : PySem.W.Frag} : PySem.W.kitOne K (.type a) (.type b) = some r := kit_ty h
theorem k_non_int : kitB "NoneType" "int" = some false := by decide +kernel
theorem k_bl_int : kitB "bool" "int" = some true := by decide +kernel
theorem k_int_int : kitB "int" "int" = some true := by decide +kernel
theorem k_str_int : kitB "str" "int" = some false := by decide +kernel
theorem k_lst_int : kitB "list" "int" = some false := by decide +kernel
theorem k_tup_int : kitB "tuple" "int" = some false := by decide +kernel
theorem k_int_bl : kitB "int" "bool" = some false := by decide +kernel
theorem k_bl_bl : kitB "bool" "bool" = some true := by decide +kernel
theorem k_non_tup : kitB "NoneType" "tuple" = some false := by decide +kernel
theorem k_bl_tup : kitB "bool" "tuple" = some false := by decide +kernel
theorem k_int_tup : kitB "int" "tuple" = some false := by decide +kernel
theorem k_str_tup : kitB "str" "tuple" = some false := by decide +kernel
theorem k_lst_tup : kitB "list" "tuple" = some false := by decide +kernel
theorem k_tup_tup : kitB "tuple" "tuple" = some true := by decide +kernel
section
variable {P : Program} {w : World} {K : PySem.W.Frag} {mg : Str → Option Value} {base : Heap} {C fI fNum fIsI fIsN fChk : Addr}
theorem scII : FnScope ["thing"] ["thing"] (defScope sIsI) := ⟨rfl, rfl, rfl, by decide +kernel, rfl, by decide +kernel, by decide +kernel⟩
theorem ok_isI {f : Addr} {fd : FuncData} (F : Fun K "is_integer" "is_integer" sIsI f fd) (T : TxtN P K mg C fI fNum fIsI fIsN fChk) : FnG P w K mg base 1 f fd ["thing"] (spIsI K) := by
  refine okG F scII (fun vs H Q E h => ?_) (fun cdv A outer s H vs Q E hr hgd h => ?_)
  · obtain ⟨x, d, rfl, _⟩ := h
    rfl
  · obtain ⟨x, d, rfl, hd, k⟩ := h
    refine ⟨_, pss_one (ps_ret (pe_and (pe_callB call_isi (by rfl) T.isi (by decide +kernel) (pa_cons (pv 0) (pa_cons (pe_bltn (v := .ty "int") (by rfl) T.gint (by decide +kernel) rfl) pa_nil)))
      (pe_one (pe_not (pe_callB call_isi (by rfl) T.isi (by decide +kernel) (pa_cons (pv 0) (pa_cons (pe_bltn (v := .ty "bool") (by rfl) T.gbool (by decide +kernel) rfl) pa_nil))))))), ?_⟩
    have ty := dpTy hd
    cases hd with
    | int i =>
      refine ⟨_, rfl, _, _, _, _, true, rfl, .ty "int", ty, kb "int" "int" k_int_int, _, rfl, iteT ?_⟩
      exact ⟨_, rfl, _, _, _, _, false, rfl, .ty "bool", ty, kb "int" "bool" k_int_bl, _, rfl, k⟩
    | bl b =>
      refine ⟨_, rfl, _, _, _, _, true, rfl, .ty "int", ty, kb "bool" "int" k_bl_int, _, rfl, iteT ?_⟩
      exact ⟨_, rfl, _, _, _, _, true, rfl, .ty "bool", ty, kb "bool" "bool" k_bl_bl, _, rfl, k⟩
    | non => exact ⟨_, rfl, _, _, _, _, false, rfl, .ty "int", ty, kb "NoneType" "int" k_non_int, _, rfl, iteF k⟩
    | str x => exact ⟨_, rfl, _, _, _, _, false, rfl, .ty "int", ty, kb "str" "int" k_str_int, _, rfl, iteF k⟩
    | lst h1 h2 => exact ⟨_, rfl, _, _, _, _, false, rfl, .ty "int", ty, kb "list" "int" k_lst_int, _, rfl, iteF k⟩
    | tup h1 h2 => exact ⟨_, rfl, _, _, _, _, false, rfl, .ty "int", ty, kb "tuple" "int" k_tup_int, _, rfl, iteF k⟩
theorem scIN : FnScope ["thing", "above", "below"] ["thing"] (defScope sIsN) := ⟨rfl, rfl, rfl, by decide +kernel, rfl, by decide +kernel, by decide +kernel⟩
theorem isN_not2 : ∀ {ds : List PyData}, ds.length ≠ 2 → isN (.tuple ds) = false
  | [], _ => rfl
  | [d1], _ => by cases d1 <;> rfl
  | [_, _], h => absurd rfl h
  | d1 :: d2 :: _ :: _, _ => by cases d1 <;> cases d2 <;> rfl
theorem isN_notI {a b : PyData} (h : isI a = false ∨ isI b = false) : isN (.tuple [a, b]) = false := by
  cases a <;> cases b <;> first | rfl | (rcases h with h | h <;> cases h)
theorem isI_int {d : PyData} (h : isI d = true) : ∃ i, d = .int i := by
  cases d <;> first | exact ⟨_, rfl⟩ | cases h
theorem dpAll_len {K : PySem.W.Frag} {H : Hp} : ∀ {xs : List V} {ds : List PyData}, DpAll K H xs ds → xs.length = ds.length
  | _, _, .nil => rfl
  | _, _, .cons _ t => by rw [List.length_cons, List.length_cons, dpAll_len t]
theorem ok_isN {f : Addr} {fd fdI : FuncData} (F : Fun K "is_number" "is_number" sIsN f fd) (T : TxtN P K mg C fI fNum fIsI fIsN fChk) (FI : Fun K "is_integer" "is_integer" sIsI fIsI fdI) (bI : Binds K fdI ["thing"] []) : FnG P w K mg base 2 f fd ["thing"] (spIsN K) := by
  have GI : FnG P w K mg base 1 fIsI fdI ["thing"] (spIsI K) := ok_isI FI T
  refine okG F scIN (fun vs H Q E h => ?_) (fun cdv A outer s H vs Q E hr hgd h => ?_)
  · obtain ⟨x, d, rfl, _⟩ := h
    rfl
  · obtain ⟨x, d, rfl, hd, k⟩ := h
    refine ⟨_, pss_cons (ps_if (PW.pt (pw_or (pt_not (pt_val (pe_callB call_isi (by rfl) T.isi (by decide +kernel) (pa_cons (pv 0) (pa_cons (pe_bltn (v := .ty "tuple") (by rfl) T.gtup (by decide +kernel) rfl) pa_nil)))))
        (pw_or1 (pt_cmpR op_ne (pe_callB call_len_seq (by rfl) T.len PySem.boot_len (pa_cons (pv 0) pa_nil)) pe_int (nomark _))))) (pss_one (ps_ret pe_bl)) pss_nil)
      (pss_cons (ps_asg (pv 0) (pg_tup rfl (pgs_cons (pg_name (i := 1) scIN.nd rfl (Or.inl rfl)) (pgs_cons (pg_name (i := 2) scIN.nd rfl (Or.inl rfl)) pgs_nil))))
      (pss_cons (ps_if (PW.pt (pw_or (pt_not (pt_val (pe_callG (E := fun _ => E0) GI hr hgd rfl T.gIsI T.kIsI bI .nil pass0G (pa_cons (pv 1) pa_nil)))) (pw_or1 (pt_not (pt_val (pe_callG (E := fun _ => E0) GI hr hgd rfl T.gIsI T.kIsI bI .nil pass0G (pa_cons (pv 2) pa_nil))))))) (pss_one (ps_ret pe_bl)) pss_nil)
      (pss_one (ps_ret (pe_and (pe_cmpR op_ge (pv 2) pe_int (nomark _)) (pe_one (pe_cmpR op_eq (pe_callBfun cr_gcd rfl T.gcd (pa_cons (pv 1) (pa_cons (pv 2) pa_nil))) pe_int (nomark _)))))))), ?_⟩
    have ty := dpTy hd
    cases hd with
    | non => exact ⟨_, rfl, _, _, _, _, false, rfl, .ty "tuple", ty, kb "NoneType" "tuple" k_non_tup, _, rfl, iteT (iteT k)⟩
    | bl b => exact ⟨_, rfl, _, _, _, _, false, rfl, .ty "tuple", ty, kb "bool" "tuple" k_bl_tup, _, rfl, iteT (iteT k)⟩
    | int i => exact ⟨_, rfl, _, _, _, _, false, rfl, .ty "tuple", ty, kb "int" "tuple" k_int_tup, _, rfl, iteT (iteT k)⟩
    | str x => exact ⟨_, rfl, _, _, _, _, false, rfl, .ty "tuple", ty, kb "str" "tuple" k_str_tup, _, rfl, iteT (iteT k)⟩
    | lst h1 h2 => exact ⟨_, rfl, _, _, _, _, false, rfl, .ty "tuple", ty, kb "list" "tuple" k_lst_tup, _, rfl, iteT (iteT k)⟩
    | @tup a xs ds h1 h2 =>
      refine ⟨_, rfl, _, _, _, _, true, rfl, .ty "tuple", ty, kb "tuple" "tuple" k_tup_tup, _, rfl, iteF ?_⟩
      have hl := dpAll_len h2
      refine ⟨_, rfl, a, xs, rfl, .inr h1, rfl, _, rfl, ?_⟩
      refine ite2 (fun hc => ?_) (fun hc => ?_)
      · have ne : ds.length ≠ 2 := fun z => by
          rw [hl, z] at hc
          exact absurd hc (by decide)
        rw [isN_not2 ne] at k
        exact k
      · have e2 : ds.length = 2 := by
          rcases Nat.decEq ds.length 2 with z | z
          · refine absurd ?_ hc
            have zz : ¬ ((xs.length : Int) = 2) := by omega
            simp [zz]
          · exact z
        match ds, h2, e2 with
        | [d1, d2], h2, _ =>
          cases h2 with
          | cons g1 h2 =>
            cases h2 with
            | cons g2 h2 =>
              cases h2
              refine ⟨_, rfl, a, _, rfl, h1, rfl, ?_⟩
              refine ⟨_, _, rfl, _, _, rfl, rfl, ?_⟩
              refine ⟨_, rfl, _, d1, rfl, g1, ?_⟩
              refine ⟨_, rfl, ?_⟩
              cases e1 : isI d1 with
              | false =>
                refine iteT (iteT ?_)
                rw [isN_notI (.inl e1)] at k
                exact k
              | true =>
                refine iteF ⟨_, rfl, _, d2, rfl, g2, _, rfl, ?_⟩
                cases e2 : isI d2 with
                | false =>
                  refine iteT ?_
                  rw [isN_notI (.inr e2)] at k
                  exact k
                | true =>
                  refine iteF ?_
                  obtain ⟨i1, rfl⟩ := isI_int e1
                  obtain ⟨i2, rfl⟩ := isI_int e2
                  cases g1
                  cases g2
                  refine ⟨_, rfl, _, _, rfl, rfl, _, rfl, ?_⟩
                  have hk : isN (.tuple [.int i1, .int i2]) = (decide (1 ≤ i2) && decide (((Nat.gcd i1.natAbs i2.natAbs : Nat) : Int) = 1)) := rfl
                  rw [hk] at k
                  refine ite2 (fun hb => ?_) (fun hb => ?_)
                  · refine ⟨_, rfl, _, rfl, i1, i2, rfl, rfl, ?_⟩
                    have e : decide (V.int ((Nat.gcd i1.natAbs i2.natAbs : Nat) : Int) = V.int 1) = decide (((Nat.gcd i1.natAbs i2.natAbs : Nat) : Int) = 1) := by
                      rw [dec_int, Bool.beq_eq_decide_eq]
                    rw [hb, Bool.true_and, ← e] at k
                    exact k
                  · have e : decide ((1 : Int) ≤ i2) = false := by simpa using hb
                    rw [e, Bool.false_and] at k
                    exact k
end
end K2
set_option Elab.async false
set_option linter.all false
set_option maxRecDepth 100000
set_option maxHeartbeats 4000000
namespace K2
open PySem PySem.Spec PyProof.Rows L2 RmX Rm Mth
def spNum (K : PySem.W.Frag) (C : Addr) : Sp := fun vs H Q E => ∃ x y d e, vs = [x, y] ∧ Dp K H x d ∧ Dp K H y e ∧
  (∀ a b, d = .int a → e = .int b → b ≠ 0 → a.natAbs < 2 ^ 8000 ∧ b.natAbs < 2 ^ 8000 ∧ ∀ p, H p = none → Q (.ref p) (upd H p (.tup [.int (nrm a b).1, .int (nrm a b).2]))) ∧
  ((isI d = false ∨ isI e = false ∨ e = .int 0) → Fit (.tuple [d, e]) ∧ ∀ p, H p = none → Bad C (.ref p) (upd H p (.tup [x, y])) E)
theorem same_new {H : Hp} {p : Addr} {o : HO} (n : H p = none) : Same H (upd H p o) := fun b u e => by rw [upd_ne (ne_of_none e n)]; exact e
section
variable {P : Program} {w : World} {K : PySem.W.Frag} {mg : Str → Option Value} {base : Heap} {C fI fNum fIsI fIsN fChk : Addr}
theorem scCh : FnScope ["thing"] ["thing"] (defScope sChk) := ⟨rfl, rfl, rfl, by decide +kernel, rfl, by decide +kernel, by decide +kernel⟩
theorem ok_chk {f : Addr} {fd fdN fdI : FuncData} (F : Fun K "check_number" "check_number" sChk f fd) (T : TxtN P K mg C fI fNum fIsI fIsN fChk) (FN : Fun K "is_number" "is_number" sIsN fIsN fdN) (bN : Binds K fdN ["thing"] []) (FI : Fun K "is_integer" "is_integer" sIsI fIsI fdI) (bI : Binds K fdI ["thing"] []) :
    FnG P w K mg base 3 f fd ["thing"] (spChk K C) := by
  have GN : FnG P w K mg base 2 fIsN fdN ["thing"] (spIsN K) := ok_isN FN T FI bI
  refine okG F scCh (fun vs H Q E h => ?_) (fun cdv A outer s H vs Q E hr hgd h => ?_)
  · obtain ⟨x, d, rfl, _⟩ := h
    rfl
  · obtain ⟨x, d, rfl, hd, k1, k2⟩ := h
    refine ⟨_, pss_one (ps_if (pt_not (pt_val (pe_callG (E := fun _ => E0) GN hr hgd rfl T.gIsN T.kIsN bN .nil pass0G (pa_cons (pv 0) pa_nil))))
      (pss_one (ps_raiseX (X := cxOf (L2.CX P w) P w K mg base ["thing"] "check_number" (defScope sChk) f cdv A outer s H E) rfl base_VE T.ex fn_thing hr hgd T.gC T.sup (takes_of rfl rfl rfl rfl) (pa_cons (pv 0) pa_nil))) pss_nil), ?_⟩
    refine ⟨_, rfl, x, d, rfl, hd, _, rfl, ?_⟩
    cases e : isN d with
    | true => exact iteF (k1 e)
    | false =>
      refine iteT ?_
      exact ⟨_, rfl, x, d, rfl, hd, (k2 e).1, fun dx hdx => (k2 e).2 dx hdx⟩
theorem scNu : FnScope ["above", "below", "shared"] ["above", "below"] (defScope sNum) := ⟨rfl, rfl, rfl, by decide +kernel, rfl, by decide +kernel, by decide +kernel⟩
theorem shr_log {a b : Int} (h : b ≠ 0) (hb : b.natAbs < 2 ^ 8000) : (shr a b).natAbs.log2 < 9000 := by
  have h1 : (shr a b).natAbs < 2 ^ 8000 := by
    rw [shr_abs]
    exact Nat.lt_of_le_of_lt (Nat.gcd_le_right _ (by omega)) hb
  have h2 := PySem.Flt.log2_lt_of (show 0 < 8000 by decide) h1
  omega
theorem okGD {x qual : Str} {params : Arguments} {body : List Stmt} {scope : Scope} {dvs : List V} {kws : List (Str × V)} {f : Addr} {fd : FuncData} {N ps : List Str} {k : Nat} {sp : Sp} (F : FunD K x qual params body scope dvs kws f fd) (S : FnScope N ps scope) (len : ∀ vs H Q E, sp vs H Q E → vs.length = ps.length)
    (hbody : ∀ (cdv : Value) (A : Around) (outer : List Env) (s : Shared) (H : Hp) (vs : List V) (Q : VK) (E : XK), Room k (A.deeper (envOfC qual scope s.heap.objs.size f cdv)) → A.guards = some [] → sp vs H Q E →
      ∃ t, PSs (cxOf (L2.CX P w) P w K mg base N qual scope f cdv A outer s H E) body t ∧ t { nx := fun _ H' => Q .non H', rt := Q } (start N vs) H) : FnG P w K mg base (k + 1) f fd ps sp := by
  obtain ⟨oc, od, dV, kV, doc, pm, an, cdv, ct, osl, rfl, lk, hcd, _, _⟩ := F.ex
  exact fn_ofG lk hcd S len fun A outer s H vs Q E hr hg hsp => hbody cdv A outer s H vs Q E hr hg hsp
theorem ok_num {f : Addr} {fd fdI : FuncData} (F : FunD K "number" "number" (defArgs sNum) (defBody sNum) (defScope sNum) [.int 1] [] f fd) (T : TxtN P K mg C fI fNum fIsI fIsN fChk) (FI : Fun K "is_integer" "is_integer" sIsI fIsI fdI) (bI : Binds K fdI ["thing"] []) :
    FnG P w K mg base 2 f fd ["above", "below"] (spNum K C) := by
  have GI : FnG P w K mg base 1 fIsI fdI ["thing"] (spIsI K) := ok_isI FI T
  refine okGD F scNu (fun vs H Q E h => ?_) (fun cdv A outer s H vs Q E hr hgd h => ?_)
  · obtain ⟨x, y, d, e, rfl, _⟩ := h
    rfl
  · obtain ⟨x, y, d, e, rfl, hx, hy, k1, k2⟩ := h
    refine ⟨_, pss_cons (ps_if (PW.pt (pw_or (pt_not (pt_val (pe_callG (E := fun _ => E0) GI hr hgd rfl T.gIsI T.kIsI bI .nil pass0G (pa_cons (pv 0) pa_nil)))) (pw_or (pt_not (pt_val (pe_callG (E := fun _ => E0) GI hr hgd rfl T.gIsI T.kIsI bI .nil pass0G (pa_cons (pv 1) pa_nil)))) (pw_or1 (pt_cmpR op_eq (pv 1) pe_int (nomark _))))))
        (pss_one (ps_raiseX (X := cxOf (L2.CX P w) P w K mg base ["above", "below", "shared"] "number" (defScope sNum) f cdv A outer s H E) rfl base_VE T.ex fn_thing hr hgd T.gC T.sup (takes_of rfl rfl rfl rfl) (pa_cons (pe_tup (pa_cons (pv 0) (pa_cons (pv 1) pa_nil))) pa_nil))) pss_nil)
      (pss_cons (ps_set (i := 2) scNu.nd rfl (Or.inl rfl) (pe_callBfun cr_gcd rfl T.gcd (pa_cons (pv 0) (pa_cons (pv 1) pa_nil))))
      (pss_cons (ps_if (pt_cmpR op_lt (pv 1) pe_int (nomark _)) (pss_one (ps_set (i := 2) scNu.nd rfl (Or.inl rfl) (pe_un un_neg (pv 2)))) pss_nil)
      (pss_one (ps_ret (pe_tup (pa_cons (pe_op op_fdivZ (pv 0) (pv 2)) (pa_cons (pe_op op_fdivZ (pv 1) (pv 2)) pa_nil))))))), ?_⟩
    have bad : (isI d = false ∨ isI e = false ∨ e = .int 0) → tRaiseX K C (Str.ofString "thing") (fun cls d _ H => E cls d H) (tCons (tTup (tCons (tVar 0) (tCons (tVar 1) tNil))) tNil) { nx := fun _ H' => Q .non H', rt := Q } (start ["above", "below", "shared"] [x, y]) H := fun hb => by
      refine ⟨_, rfl, _, rfl, by rw [sizeLine_eq]; show 2 ≤ 16777216; decide, fun p np => ?_⟩
      exact ⟨.ref p, _, rfl, .tup (SqT.of upd_same) (.cons (dp_same (same_new np) hx) (.cons (dp_same (same_new np) hy) .nil)), (k2 hb).1, fun dx hdx => (k2 hb).2 p np dx hdx⟩
    refine ⟨_, rfl, x, d, rfl, hx, _, rfl, ?_⟩
    cases e1 : isI d with
    | false => exact iteT (iteT (bad (.inl e1)))
    | true =>
      refine iteF ⟨_, rfl, y, e, rfl, hy, _, rfl, ?_⟩
      cases e2 : isI e with
      | false => exact iteT (iteT (bad (.inr (.inl e2))))
      | true =>
        obtain ⟨a, rfl⟩ := isI_int e1
        obtain ⟨b, rfl⟩ := isI_int e2
        cases hx
        cases hy
        refine iteF ⟨_, rfl, rfl, _, rfl, ?_⟩
        refine ite2 (fun hb => ?_) (fun hb => ?_)
        · have z : b = 0 := by
            have := of_decide_eq_true hb
            injection this
          subst z
          exact bad (.inr (.inr rfl))
        · have hb0 : b ≠ 0 := fun z => hb (by rw [z]; exact decide_eq_true rfl)
          obtain ⟨s1, s2, kq⟩ := k1 a b rfl rfl hb0
          refine ⟨_, rfl, _, rfl, a, b, rfl, _, rfl, _, _, rfl, rfl, _, rfl, ?_⟩
          refine ite2 (fun hn => ?_) (fun hn => ?_)
          · have hlt : b < 0 := of_decide_eq_true hn
            have es : shr a b = -((Nat.gcd a.natAbs b.natAbs : Nat) : Int) := if_pos hlt
            refine ⟨_, rfl, _, rfl, ?_⟩
            have h1 := shr_ne (a := a) hb0
            have h2 := shr_log (a := a) hb0 s2
            rw [es] at h1 h2
            refine ⟨_, rfl, _, rfl, _, _, rfl, rfl, ⟨h1, h2⟩, _, rfl, _, rfl, _, _, rfl, rfl, ⟨h1, h2⟩, by rw [sizeLine_eq]; show 2 ≤ 16777216; decide, fun p np => ?_⟩
            have q := kq p np
            unfold nrm at q
            rw [es] at q
            exact q
          · have hlt : ¬ b < 0 := fun z => hn (decide_eq_true z)
            have es : shr a b = ((Nat.gcd a.natAbs b.natAbs : Nat) : Int) := if_neg hlt
            have h1 := shr_ne (a := a) hb0
            have h2 := shr_log (a := a) hb0 s2
            rw [es] at h1 h2
            refine ⟨_, rfl, _, rfl, _, _, rfl, rfl, ⟨h1, h2⟩, _, rfl, _, rfl, _, _, rfl, rfl, ⟨h1, h2⟩, by rw [sizeLine_eq]; show 2 ≤ 16777216; decide, fun p np => ?_⟩
            have q := kq p np
            unfold nrm at q
            rw [es] at q
            exact q
/-! ### the arithmetic -/
theorem isN_iff {d : PyData} (h : isN d = true) : ∃ a b, d = .tuple [.int a, .int b] ∧ isNum a b := by
  unfold isN at h
  split at h
  · rename_i a b
    simp only [Bool.and_eq_true, decide_eq_true_eq] at h
    exact ⟨a, b, rfl, h.1, by omega⟩
  · cases h
theorem isN_of {a b : Int} (h : isNum a b) : isN (.tuple [.int a, .int b]) = true := by
  have hk : isN (.tuple [.int a, .int b]) = (decide (1 ≤ b) && decide (((Nat.gcd a.natAbs b.natAbs : Nat) : Int) = 1)) := rfl
  rw [hk, decide_eq_true h.1, Bool.true_and]
  exact decide_eq_true (by rw [h.2]; rfl)
theorem dp_num {H : Hp} {x : V} {a b : Int} (h : Dp K H x (.tuple [.int a, .int b])) : ∃ p, x = .ref p ∧ SqT K H p [.int a, .int b] := by
  cases h with
  | tup h1 h2 =>
    cases h2 with
    | cons g1 h2 => cases h2 with
      | cons g2 h2 => cases h2; cases g1; cases g2; exact ⟨_, rfl, h1⟩
theorem dp_mk {H : Hp} {p : Addr} {a b : Int} (h : SqT K H p [.int a, .int b]) : Dp K H (.ref p) (.tuple [.int a, .int b]) := .tup h (.cons (.int a) (.cons (.int b) .nil))
end
end K2
set_option Elab.async false
set_option linter.all false
set_option maxRecDepth 100000
set_option maxHeartbeats 4000000
set_option exponentiation.threshold 100000
namespace K2
open PySem PySem.Spec PyProof.Rows L2 RmX Rm Mth
abbrev sPos : Stmt := top 10
abbrev sPac : Stmt := top 11
abbrev sFac : Stmt := top 12
abbrev sLen : Stmt := top 13
abbrev sTxt : Stmt := top 15
abbrev sDvs : Stmt := top 20
abbrev sLI : Stmt := top 21
abbrev sLN : Stmt := top 22
abbrev sWit : Stmt := top 23
/-! ### what a call of a def needs -/
structure Cal (P : Program) (w : World) (K : PySem.W.Frag) (mg : Str → Option Value) (base : Heap) (x : Str) (f : Addr) (fd : FuncData) (k : Nat) (ps : List Str) (sp : Sp) : Prop where
  fn : FnG P w K mg base k f fd ps sp
  g : mg x = some (.ref f)
  k : PySem.W.keepIn K (.ref f) = true
  b : Binds K fd ps []
/-- a promise as one word, not opened by the unifier -/
structure Bx (p : Prop) : Prop where
  h : p
def bx (sp : Sp) : Sp := fun vs H Q E => Bx (sp vs H Q E)
theorem fn_bx {P : Program} {w : World} {K : PySem.W.Frag} {mg : Str → Option Value} {base : Heap} {k : Nat} {f : Addr} {fd : FuncData} {ps : List Str} {sp : Sp} (F : FnG P w K mg base k f fd ps sp) : FnG P w K mg base k f fd ps (bx sp) := F.imp fun _ _ _ _ q => q.h
section
variable {X : Cx} {k : Nat} {f : Addr} {fd : FuncData} {ps ks : List Str} {sp : Sp} {x : Str} {p pos : Pos} {e : Expr} {es : List Expr} {kws : List Keyword} {t tk : TA} {g : List Value → List Value → List Value} {gV : List V → List V → List V}
theorem pe_cal (c : Cal X.prog X.w X.K X.mg X.base x f fd k ps sp) (hr : Room k X.A) (hgd : X.A.guards = some []) (ha : PA X (e :: es) t) (hg : Gl X x := by rfl)
    (hdb : (x == ("__debug__" : Str)) = false := by decide) (he : starEach (e :: es) X.env = (false, eval e X.env) :: starEach es X.env := by rfl) (hpl : (backTo pos (starEach es X.env)).any (·.1) = false := by rfl) :
    PE X (.Call (.Name x p) (e :: es) [] pos) (tCallSD sp [] (fun _ => E0) t) := pe_callG c.fn hr hgd hg c.g c.k c.b .nil pass0G ha hdb he hpl
theorem pe_calK (c : Cal X.prog X.w X.K X.mg X.base x f fd k ps sp) (hb : KBinds X.K fd ps ks g gV) (hr : Room k X.A) (hgd : X.A.guards = some []) (hkw : PK X kws tk) (hg : Gl X x := by rfl)
    (hall : (backToKw pos (keywordEach kws X.env)).all (·.1.isSome) = true := by rfl) (hks : (backToKw pos (keywordEach kws X.env)).filterMap (·.1) = ks := by rfl)
    (hdb : (x == ("__debug__" : Str)) = false := by decide) (hpl : ((backTo pos (starEach [] X.env)).any (·.1) || (backToKw pos (keywordEach kws X.env)).any (·.1.isNone)) = false := by rfl) :
    PE X (.Call (.Name x p) [] kws pos) (tCallKG sp gV (fun _ => E0) tk) := pe_callKG c.fn hr hgd hg c.g c.k hb pass0G hkw hall hks hdb hpl
end
theorem sqT_same {K : PySem.W.Frag} {H H' : Hp} {a : Addr} {xs : List V} (s : Same H H') (h : SqT K H a xs) : SqT K H' a xs := by
  rcases h with (h | ⟨o, h⟩) | h
  · exact .inl (.inl (s _ _ h))
  · exact .inl (.inr ⟨o, s _ _ h⟩)
  · exact .inr h
theorem same_tr {H H1 H2 : Hp} (s : Same H H1) (s2 : Same H1 H2) : Same H H2 := fun b o e => s2 b o (s b o e)
theorem same_rf (H : Hp) : Same H H := fun _ _ e => e
theorem tup_ok {xs : List V} {H : Hp} {Q : VK} (h : ∀ p H', Same H H' → H' p = some (.tup xs) → Q (.ref p) H') : ∀ p, H p = none → Q (.ref p) (upd H p (.tup xs)) := fun p np => h p _ (same_new np) upd_same
theorem lst_ok {xs : List V} {H : Hp} {Q : VK} (hl : xs.length ≤ 100) (h : ∀ p H', Same H H' → H' p = some (.lst xs) → Q (.ref p) H') : xs.length ≤ sizeLine ∧ ∀ p, H p = none → Q (.ref p) (upd H p (.lst xs)) := ⟨by rw [sizeLine_eq]; omega, fun p np => h p _ (same_new np) upd_same⟩
theorem sh_int {i : Int} (h : i.natAbs < 2 ^ 1900) : (PyData.int i).showable = true := by
  have := PySem.Flt.log2_lt_of (show 0 < 1900 by decide) h
  simp only [PyData.showable, decide_eq_true_eq]
  omega
def RepP (K : PySem.W.Frag) (xs : List V) (H : Hp) (Q : VK) : Prop := ∃ v d, xs = [v] ∧ Dp K H v d ∧ d.showable = true ∧ d.hasDict = false ∧ d.depth ≤ 20 ∧ d.shown.length ≤ sizeLine ∧ Q (.str d.shown) H
def rRep (K : PySem.W.Frag) : List V → Hp → VK → Prop := fun xs H Q => Bx (RepP K xs H Q)
theorem rep_ok {K : PySem.W.Frag} {H : Hp} {v : V} {d : PyData} {Q : VK} (hd : Dp K H v d) (f : Fit d) (h : Q (.str d.shown) H) : Bx (RepP K [v] H Q) :=
  ⟨v, d, rfl, hd, f.1, f.2.1, f.2.2.1, Nat.le_trans f.2.2.2 (by rw [sizeLine_eq]; decide), h⟩
theorem call_rep {X : Cx} {k : Nat} (hr : Room k X.A) (hgd : X.A.guards = some []) : CallR X (.builtin "repr") (rRep X.K) := fun pins s σ H xs us Q I r h => call_reprD hr hgd pins s σ H xs us Q I r h.h
theorem same_of {H H2 : Hp} {p : Addr} {o : HO} (n : H p = none) (e : upd H p o = H2) : Same H H2 ∧ H2 p = some o := by
  subst e
  exact ⟨same_new n, upd_same⟩
def isW (t u : Int) : PyData → Bool
  | .tuple [.int a, .int b] => isN (.tuple [.int a, .int b]) && (decide (1 ≤ a) && (decide (a ≤ t) && decide (b ≤ u)))
  | _ => false
def isP : PyData → Bool
  | .tuple [.int a, .int b] => isN (.tuple [.int a, .int b]) && decide (1 ≤ a)
  | _ => false
def isZ : PyData → Bool
  | .tuple [.int a, .int b] => isN (.tuple [.int a, .int b]) && decide (a = 0)
  | _ => false
theorem two_or (d : PyData) : (∃ a b, d = .tuple [.int a, .int b]) ∨ (isN d = false ∧ (∀ t u, isW t u d = false) ∧ isP d = false ∧ isZ d = false) := by
  match d with
  | .none => exact .inr ⟨rfl, fun _ _ => rfl, rfl, rfl⟩
  | .bool _ => exact .inr ⟨rfl, fun _ _ => rfl, rfl, rfl⟩
  | .int _ => exact .inr ⟨rfl, fun _ _ => rfl, rfl, rfl⟩
  | .str _ => exact .inr ⟨rfl, fun _ _ => rfl, rfl, rfl⟩
  | .list _ => exact .inr ⟨rfl, fun _ _ => rfl, rfl, rfl⟩
  | .dict _ => exact .inr ⟨rfl, fun _ _ => rfl, rfl, rfl⟩
  | .tuple [] => exact .inr ⟨rfl, fun _ _ => rfl, rfl, rfl⟩
  | .tuple [x] => exact .inr (by cases x <;> exact ⟨rfl, fun _ _ => rfl, rfl, rfl⟩)
  | .tuple (x :: y :: z :: r) => exact .inr (by cases x <;> cases y <;> exact ⟨rfl, fun _ _ => rfl, rfl, rfl⟩)
  | .tuple [x, y] =>
    cases x <;> cases y <;> first | exact .inl ⟨_, _, rfl⟩ | exact .inr ⟨rfl, fun _ _ => rfl, rfl, rfl⟩
theorem no_n {d : PyData} (h : isN d = false) : (∀ t u, isW t u d = false) ∧ isP d = false ∧ isZ d = false := by
  rcases two_or d with ⟨a, b, rfl⟩ | ⟨_, h2⟩
  · refine ⟨fun t u => ?_, ?_, ?_⟩
    · show (isN _ && _) = false
      rw [h, Bool.false_and]
    · show (isN _ && _) = false
      rw [h, Bool.false_and]
    · show (isN _ && _) = false
      rw [h, Bool.false_and]
  · exact h2
def spDvs : Sp := fun vs H Q _ => ∃ i j : Int, vs = [.int i, .int j] ∧ i.natAbs < 2 ^ 1500 ∧ j.natAbs < 2 ^ 1500 ∧ ∀ H', Same H H' → Q (.int ((Nat.gcd i.natAbs j.natAbs : Nat) : Int)) H'
def Sz (d : PyData) : Prop := ∀ a b, d = .tuple [.int a, .int b] → a.natAbs < 2 ^ 1500 ∧ b.natAbs < 2 ^ 1500
def spLN (K : PySem.W.Frag) : Sp := fun vs H Q _ => ∃ x d, vs = [x] ∧ Dp K H x d ∧ Sz d ∧ ∀ H', Same H H' → Q (.bl (isN d)) H'
def spWit (K : PySem.W.Frag) : Sp := fun vs H Q _ => ∃ x d t u, vs = [x, .int t, .int u] ∧ Dp K H x d ∧ Sz d ∧ ∀ H', Same H H' → Q (.bl (isW t u d)) H'
def spPos (K : PySem.W.Frag) : Sp := fun vs H Q _ => ∃ x d, vs = [x] ∧ Dp K H x d ∧ Q (.bl (isP d)) H
def spB (K : PySem.W.Frag) (f : PyData → Bool) : Sp := fun vs H Q _ => ∃ x d, vs = [x] ∧ Dp K H x d ∧ Q (.bl (f d)) H
structure TxtL (mg : Str → Option Value) : Prop where
  max : mg "max" = none
  min : mg "min" = none
  range : mg "range" = none
  rep : mg "repr" = none
  str : mg "str" = none
theorem max_abs (i : Int) : (if (0 : Int) - i > i then 0 - i else i) = (i.natAbs : Int) := by
  split <;> omega
section
variable {P : Program} {w : World} {K : PySem.W.Frag} {mg : Str → Option Value} {base : Heap} {C fI fNum fIsI fIsN fChk fLI fDv fLN fFac fPos : Addr} {fdIsI fdIsN fdChk fdLI fdDv fdLN fdFac fdPos : FuncData}
theorem scDv : FnScope ["one", "other"] ["one", "other"] (defScope sDvs) := ⟨rfl, rfl, rfl, by decide +kernel, rfl, by decide +kernel, by decide +kernel⟩
theorem ok_dvs {f : Addr} {fd : FuncData} (F : Fun K "_law_divisor" "_law_divisor" sDvs f fd) (T : TxtL mg) : FnG P w K mg base 1 f fd ["one", "other"] spDvs := by
  refine okG F scDv (fun vs H Q E h => ?_) (fun cdv A outer s H vs Q E hr hgd h => ?_)
  · obtain ⟨i, j, rfl, _⟩ := h
    rfl
  · obtain ⟨i, j, rfl, zi, zj, fin⟩ := h
    refine ⟨_, pss_cons (ps_par (by rfl) scDv.nd (i := 0) (j := 1) rfl rfl (by decide) rfl rfl (pa_cons (pe_callB (call_max2 rfl) (by rfl) T.max (by decide +kernel) (pa_cons (pv 0) (pa_cons (pe_op op_sub pe_int (pv 0)) pa_nil))) (pa_cons (pe_callB (call_max2 rfl) (by rfl) T.max (by decide +kernel) (pa_cons (pv 1) (pa_cons (pe_op op_sub pe_int (pv 1)) pa_nil))) pa_nil)) (by rfl))
      (pss_cons (ps_while PassesOwn.leaving (PW.pt (pw_and (pt_cmpR op_ne (pv 0) pe_int (nomark _)) (pw_and1 (pt_cmpR op_ne (pv 1) pe_int (nomark _)))))
        (pss_one (ps_asg (pe_ifExp (pt_cmpR op_ge (pv 0) (pv 1) (nomark _)) (pe_tup (pa_cons (pe_op op_mod (pv 0) (pv 1)) (pa_cons (pv 1) pa_nil))) (pe_tup (pa_cons (pv 0) (pa_cons (pe_op op_mod (pv 1) (pv 0)) pa_nil))))
          (pg_tup rfl (pgs_cons (pg_name (i := 0) scDv.nd rfl (Or.inl rfl)) (pgs_cons (pg_name (i := 1) scDv.nd rfl (Or.inl rfl)) pgs_nil))))))
      (pss_one (ps_ret (pe_op op_add (pv 0) (pv 1))))), ?_⟩
    refine ⟨_, rfl, _, rfl, _, _, rfl, rfl, _, _, rfl, _, rfl, _, rfl, _, _, rfl, rfl, _, _, rfl, _, _, rfl, ?_⟩
    rw [max_abs, max_abs]
    refine ⟨fun m σ H' => ∃ x y : Nat, σ = [some (.int (x : Int)), some (.int (y : Int))] ∧ Nat.gcd x y = Nat.gcd i.natAbs j.natAbs ∧ m = x + y ∧ Same H H', ⟨_, i.natAbs, j.natAbs, rfl, rfl, rfl, same_rf _⟩, ?_⟩
    rintro m σ H' ⟨x, y, rfl, hg, rfl, sm⟩
    have sz : (2 : Nat) ≤ sizeLine := by rw [sizeLine_eq]; decide
    refine ⟨_, rfl, rfl, _, rfl, ?_⟩
    refine ite2 (fun hx => ?_) (fun hx => ?_)
    · have x0 : x ≠ 0 := fun z => by rw [z] at hx; exact absurd hx (by decide)
      refine ⟨_, rfl, rfl, _, rfl, ?_⟩
      refine ite2 (fun hy => ?_) (fun hy => ?_)
      · have y0 : y ≠ 0 := fun z => by rw [z] at hy; exact absurd hy (by decide)
        refine ⟨fun σ' H2 => ∃ x' y' : Nat, σ' = [some (.int (x' : Int)), some (.int (y' : Int))] ∧ Nat.gcd x' y' = Nat.gcd i.natAbs j.natAbs ∧ x' + y' < x + y ∧ Same H H2, ?_, ?_⟩
        · rintro σ' H2 ⟨x', y', rfl, g', l', s'⟩
          exact ⟨_, l', x', y', rfl, g', rfl, s'⟩
        · refine ⟨_, rfl, _, rfl, _, _, rfl, rfl, _, rfl, ?_⟩
          refine ite2 (fun hc => ?_) (fun hc => ?_)
          · have hle : (y : Int) ≤ (x : Int) := of_decide_eq_true hc
            refine ⟨_, rfl, _, rfl, _, _, rfl, rfl, (by show (0 : Int) < (y : Int); omega), _, rfl, sz, fun p np => ?_⟩
            generalize hG : upd H' p _ = H2
            obtain ⟨s2, h2⟩ := same_of np hG
            clear hG
            refine ⟨p, _, rfl, .of h2, rfl, _, _, rfl, _, _, rfl, rfl, x % y, y, rfl, ?_, ?_, same_tr sm s2⟩
            · rw [← hg, Nat.gcd_comm x y, Nat.gcd_rec y x]
            · have := Nat.mod_lt x (show 0 < y by omega)
              omega
          · have hlt : ¬ (y : Int) ≤ (x : Int) := fun z => hc (decide_eq_true z)
            refine ⟨_, rfl, _, rfl, _, rfl, _, _, rfl, rfl, (by show (0 : Int) < (x : Int); omega), sz, fun p np => ?_⟩
            generalize hG : upd H' p _ = H2
            obtain ⟨s2, h2⟩ := same_of np hG
            clear hG
            refine ⟨p, _, rfl, .of h2, rfl, _, _, rfl, _, _, rfl, rfl, x, y % x, rfl, ?_, ?_, same_tr sm s2⟩
            · rw [← hg, Nat.gcd_comm x (y % x), ← Nat.gcd_rec x y]
            · have := Nat.mod_lt y (show 0 < x by omega)
              omega
      · have y0 : y = 0 := by
          rcases Nat.decEq y 0 with z | z
          · exact absurd (by rw [show decide (V.int (y : Int) = V.int 0) = false from decide_eq_false (fun e => z (by injection e with e; omega))]; rfl) hy
          · exact z
        subst y0
        refine ⟨_, rfl, _, rfl, _, _, rfl, rfl, ?_⟩
        have e : ((x : Int) + ((0 : Nat) : Int)) = ((Nat.gcd i.natAbs j.natAbs : Nat) : Int) := by rw [← hg, Nat.gcd_zero_right]; omega
        show Q (.int ((x : Int) + ((0 : Nat) : Int))) H'
        rw [e]
        exact fin _ sm
    · have x0 : x = 0 := by
        rcases Nat.decEq x 0 with z | z
        · exact absurd (by rw [show decide (V.int (x : Int) = V.int 0) = false from decide_eq_false (fun e => z (by injection e with e; omega))]; rfl) hx
        · exact z
      subst x0
      refine ⟨_, rfl, _, rfl, _, _, rfl, rfl, ?_⟩
      have e : (((0 : Nat) : Int) + (y : Int)) = ((Nat.gcd i.natAbs j.natAbs : Nat) : Int) := by rw [← hg, Nat.gcd_zero_left]; omega
      show Q (.int (((0 : Nat) : Int) + (y : Int))) H'
      rw [e]
      exact fin _ sm
theorem scLI : FnScope ["what"] ["what"] (defScope sLI) := ⟨rfl, rfl, rfl, by decide +kernel, rfl, by decide +kernel, by decide +kernel⟩
theorem ok_LI {f : Addr} {fd : FuncData} (F : Fun K "_law_is_integer" "_law_is_integer" sLI f fd) (T : TxtN P K mg C fI fNum fIsI fIsN fChk) : FnG P w K mg base 1 f fd ["what"] (spIsI K) := by
  refine okG F scLI (fun vs H Q E h => ?_) (fun cdv A outer s H vs Q E hr hgd h => ?_)
  · obtain ⟨x, d, rfl, _⟩ := h
    rfl
  · obtain ⟨x, d, rfl, hd, k⟩ := h
    refine ⟨_, pss_one (ps_ret (pe_and (pe_callB call_isi (by rfl) T.isi (by decide +kernel) (pa_cons (pv 0) (pa_cons (pe_bltn (v := .ty "int") (by rfl) T.gint (by decide +kernel) rfl) pa_nil)))
      (pe_one (pe_not (pe_callB call_isi (by rfl) T.isi (by decide +kernel) (pa_cons (pv 0) (pa_cons (pe_bltn (v := .ty "bool") (by rfl) T.gbool (by decide +kernel) rfl) pa_nil))))))), ?_⟩
    have ty := dpTy hd
    cases hd with
    | int i =>
      refine ⟨_, rfl, _, _, _, _, true, rfl, .ty "int", ty, kb "int" "int" k_int_int, _, rfl, iteT ?_⟩
      exact ⟨_, rfl, _, _, _, _, false, rfl, .ty "bool", ty, kb "int" "bool" k_int_bl, _, rfl, k⟩
    | bl b =>
      refine ⟨_, rfl, _, _, _, _, true, rfl, .ty "int", ty, kb "bool" "int" k_bl_int, _, rfl, iteT ?_⟩
      exact ⟨_, rfl, _, _, _, _, true, rfl, .ty "bool", ty, kb "bool" "bool" k_bl_bl, _, rfl, k⟩
    | non => exact ⟨_, rfl, _, _, _, _, false, rfl, .ty "int", ty, kb "NoneType" "int" k_non_int, _, rfl, iteF k⟩
    | str x => exact ⟨_, rfl, _, _, _, _, false, rfl, .ty "int", ty, kb "str" "int" k_str_int, _, rfl, iteF k⟩
    | lst h1 h2 => exact ⟨_, rfl, _, _, _, _, false, rfl, .ty "int", ty, kb "list" "int" k_lst_int, _, rfl, iteF k⟩
    | tup h1 h2 => exact ⟨_, rfl, _, _, _, _, false, rfl, .ty "int", ty, kb "tuple" "int" k_tup_int, _, rfl, iteF k⟩
end
end K2
set_option Elab.async false
set_option linter.all false
set_option maxRecDepth 100000
set_option maxHeartbeats 4000000
set_option exponentiation.threshold 100000
namespace K2
open PySem PySem.Spec PyProof.Rows L2 RmX Rm Mth

theorem int_of {i : Int} {d : PyData} : isI d = true → ∃ i, d = .int i := isI_int
def txtOf (a b : Int) : Str := if b = 1 then ((toString a : String) : Str) else ((toString a : String) : Str) ++ (Str.ofString "/") ++ ((toString b : String) : Str)
def spTxt (K : PySem.W.Frag) (C : Addr) : Sp := fun vs H Q E => ∃ x d, vs = [x] ∧ Dp K H x d ∧ (isN d = false → Fit d ∧ Bad C x H E) ∧ (∀ a b, d = .tuple [.int a, .int b] → isN d = true → a.natAbs < 2 ^ 1500 ∧ b.natAbs < 2 ^ 1500 ∧ Q (.str (txtOf a b)) H)
theorem lg {i : Int} (h : i.natAbs < 2 ^ 1500) : i.natAbs.log2 < 1920 := by
  have := PySem.Flt.log2_lt_of (show 0 < 1500 by decide) h
  omega
theorem tx_len {i : Int} (h : i.natAbs < 2 ^ 1500) : ((toString i : String) : Str).length ≤ 2000 := by
  have e := int_text_length_le (k := 1920) (by decide) (lg h)
  rw [PySem.ofString_length]
  omega
section
variable {P : Program} {w : World} {K : PySem.W.Frag} {mg : Str → Option Value} {base : Heap} {C fI fNum fIsI fIsN fChk fLI fDv fLN fFac fPos fN : Addr} {fdIsI fdIsN fdChk fdLI fdDv fdLN fdFac fdPos fdN : FuncData}
theorem scLN : FnScope ["what"] ["what"] (defScope sLN) := ⟨rfl, rfl, rfl, by decide +kernel, rfl, by decide +kernel, by decide +kernel⟩
theorem ok_LN {f : Addr} {fd : FuncData} (F : Fun K "_law_is_number" "_law_is_number" sLN f fd) (T : TxtN P K mg C fI fNum fIsI fIsN fChk) (cLI : Cal P w K mg base "_law_is_integer" fLI fdLI 1 ["what"] (spIsI K)) (cDv : Cal P w K mg base "_law_divisor" fDv fdDv 1 ["one", "other"] spDvs) :
    FnG P w K mg base 2 f fd ["what"] (spLN K) := by
  refine okG F scLN (fun vs H Q E h => ?_) (fun cdv A outer s H vs Q E hr hgd h => ?_)
  · obtain ⟨x, d, rfl, _⟩ := h
    rfl
  · obtain ⟨x, d, rfl, hd, sz, fin⟩ := h
    have k := fin H (same_rf _)
    refine ⟨_, pss_cons (ps_if (PW.pt (pw_or (pt_not (pt_val (pe_callB call_isi (by rfl) T.isi (by decide +kernel) (pa_cons (pv 0) (pa_cons (pe_bltn (v := .ty "tuple") (by rfl) T.gtup (by decide +kernel) rfl) pa_nil))))) (pw_or (pt_cmpR op_ne (pe_callB call_len_seq (by rfl) T.len PySem.boot_len (pa_cons (pv 0) pa_nil)) pe_int (nomark _)) (pw_or (pt_not (pt_val (pe_cal cLI hr hgd (pa_cons (pe_ix ix_tup (pv 0) pe_int (fun _ _ => rfl)) pa_nil)))) (pw_or1 (pt_not (pt_val (pe_cal cLI hr hgd (pa_cons (pe_ix ix_tup (pv 0) pe_int (fun _ _ => rfl)) pa_nil))))))))) (pss_one (ps_ret pe_bl)) pss_nil)
      (pss_one (ps_ret (pe_and (pe_cmpR op_ge (pe_ix ix_tup (pv 0) pe_int (fun _ _ => rfl)) pe_int (nomark _)) (pe_one (pe_cmpR op_eq (pe_cal cDv hr hgd (pa_cons (pe_ix ix_tup (pv 0) pe_int (fun _ _ => rfl)) (pa_cons (pe_ix ix_tup (pv 0) pe_int (fun _ _ => rfl)) pa_nil))) pe_int (nomark _)))))), ?_⟩
    have ty := dpTy hd
    cases hd with
    | non => exact ⟨_, rfl, _, _, _, _, false, rfl, .ty "tuple", ty, kb "NoneType" "tuple" k_non_tup, _, rfl, iteT (iteT k)⟩
    | bl b => exact ⟨_, rfl, _, _, _, _, false, rfl, .ty "tuple", ty, kb "bool" "tuple" k_bl_tup, _, rfl, iteT (iteT k)⟩
    | int i => exact ⟨_, rfl, _, _, _, _, false, rfl, .ty "tuple", ty, kb "int" "tuple" k_int_tup, _, rfl, iteT (iteT k)⟩
    | str x => exact ⟨_, rfl, _, _, _, _, false, rfl, .ty "tuple", ty, kb "str" "tuple" k_str_tup, _, rfl, iteT (iteT k)⟩
    | lst h1 h2 => exact ⟨_, rfl, _, _, _, _, false, rfl, .ty "tuple", ty, kb "list" "tuple" k_lst_tup, _, rfl, iteT (iteT k)⟩
    | @tup a xs ds h1 h2 =>
      refine ⟨_, rfl, _, _, _, _, true, rfl, .ty "tuple", ty, kb "tuple" "tuple" k_tup_tup, _, rfl, iteF ?_⟩
      have hl := dpAll_len h2
      refine ⟨_, rfl, a, xs, rfl, .inr h1, rfl, _, rfl, ?_⟩
      refine ite2 (fun hc => ?_) (fun hc => ?_)
      · have ne : ds.length ≠ 2 := fun z => by
          rw [hl, z] at hc
          exact absurd hc (by decide)
        rw [isN_not2 ne] at k
        exact iteT k
      · have e2 : ds.length = 2 := by
          rcases Nat.decEq ds.length 2 with z | z
          · refine absurd ?_ hc
            have zz : ¬ ((xs.length : Int) = 2) := by omega
            simp [zz]
          · exact z
        match ds, h2, e2 with
        | [d1, d2], h2, _ =>
          cases h2 with
          | cons g1 h2 =>
            cases h2 with
            | cons g2 h2 =>
              cases h2
              refine ⟨_, rfl, a, _, _, _, rfl, rfl, h1, rfl, _, d1, rfl, g1, _, rfl, ?_⟩
              cases e1 : isI d1 with
              | false =>
                refine iteT (iteT ?_)
                rw [isN_notI (.inl e1)] at k
                exact k
              | true =>
                refine iteF ⟨_, rfl, a, _, _, _, rfl, rfl, h1, rfl, _, d2, rfl, g2, _, rfl, ?_⟩
                cases e2 : isI d2 with
                | false =>
                  refine iteT ?_
                  rw [isN_notI (.inr e2)] at k
                  exact k
                | true =>
                  refine iteF ?_
                  obtain ⟨i1, rfl⟩ := isI_int e1
                  obtain ⟨i2, rfl⟩ := isI_int e2
                  cases g1
                  cases g2
                  obtain ⟨z1, z2⟩ := sz i1 i2 rfl
                  refine ⟨_, rfl, a, _, _, _, rfl, rfl, h1, rfl, _, _, rfl, rfl, _, rfl, ?_⟩
                  have hk : isN (.tuple [.int i1, .int i2]) = (decide (1 ≤ i2) && decide (((Nat.gcd i1.natAbs i2.natAbs : Nat) : Int) = 1)) := rfl
                  rw [hk] at k fin
                  refine ite2 (fun hb => ?_) (fun hb => ?_)
                  · refine ⟨_, rfl, a, _, _, _, rfl, rfl, h1, rfl, _, rfl, a, _, _, _, rfl, rfl, h1, rfl, i1, i2, rfl, z1, z2, fun H2 s2 => ?_⟩
                    refine ⟨rfl, ?_⟩
                    have e : decide (V.int ((Nat.gcd i1.natAbs i2.natAbs : Nat) : Int) = V.int 1) = decide (((Nat.gcd i1.natAbs i2.natAbs : Nat) : Int) = 1) := by
                      rw [dec_int, Bool.beq_eq_decide_eq]
                    have k2 := fin H2 s2
                    rw [hb, Bool.true_and, ← e] at k2
                    exact k2
                  · have e : decide ((1 : Int) ≤ i2) = false := by simpa using hb
                    rw [e, Bool.false_and] at k
                    exact k
theorem scWi : FnScope ["what", "top", "bottom"] ["what", "top", "bottom"] (defScope sWit) := ⟨rfl, rfl, rfl, by decide +kernel, rfl, by decide +kernel, by decide +kernel⟩
theorem ok_wit {f : Addr} {fd : FuncData} (F : Fun K "_law_is_within" "_law_is_within" sWit f fd) (cLN : Cal P w K mg base "_law_is_number" fLN fdLN 2 ["what"] (spLN K)) :
    FnG P w K mg base 3 f fd ["what", "top", "bottom"] (spWit K) := by
  refine okG F scWi (fun vs H Q E h => ?_) (fun cdv A outer s H vs Q E hr hgd h => ?_)
  · obtain ⟨x, d, t, u, rfl, _⟩ := h
    rfl
  · obtain ⟨x, d, t, u, rfl, hd, sz, fin⟩ := h
    refine ⟨_, pss_one (ps_ret (pe_and (pe_cal cLN hr hgd (pa_cons (pv 0) pa_nil)) (pe_and (pe_chain op_le op_le pe_int (pe_ix ix_tup (pv 0) pe_int (fun _ _ => rfl)) (pv 1)) (pe_one (pe_cmpR op_le (pe_ix ix_tup (pv 0) pe_int (fun _ _ => rfl)) (pv 2) (nomark _)))))), ?_⟩
    refine ⟨_, rfl, x, d, rfl, hd, sz, fun H2 s2 => ⟨_, rfl, ?_⟩⟩
    have k := fin H2 s2
    cases e : isN d with
    | false =>
      rw [(no_n e).1] at k
      exact iteF k
    | true =>
      refine iteT ?_
      obtain ⟨a, b, rfl, _⟩ := isN_iff e
      obtain ⟨q, rfl, hp⟩ := dp_num (dp_same s2 hd)
      have hk : isW t u (.tuple [.int a, .int b]) = (isN (.tuple [.int a, .int b]) && (decide (1 ≤ a) && (decide (a ≤ t) && decide (b ≤ u)))) := rfl
      rw [hk, e, Bool.true_and] at k
      refine ⟨_, rfl, q, _, _, _, rfl, rfl, hp, rfl, _, _, rfl, rfl, _, rfl, ?_⟩
      refine ite2 (fun h1 => ?_) (fun h1 => ?_)
      · rw [show decide (1 ≤ a) = true from h1, Bool.true_and] at k
        refine ⟨_, rfl, _, _, rfl, rfl, _, rfl, ?_⟩
        refine ite2 (fun h2 => ?_) (fun h2 => ?_)
        · rw [show decide (a ≤ t) = true from h2, Bool.true_and] at k
          exact ⟨_, rfl, q, _, _, _, rfl, rfl, hp, rfl, _, rfl, _, _, rfl, rfl, k⟩
        · rw [show decide (a ≤ t) = false from by simpa using h2, Bool.false_and] at k
          exact k
      · rw [show decide (1 ≤ a) = false from by simpa using h1, Bool.false_and] at k
        exact ⟨_, rfl, iteF k⟩
theorem scPo : FnScope ["thing"] ["thing"] (defScope sPos) := ⟨rfl, rfl, rfl, by decide +kernel, rfl, by decide +kernel, by decide +kernel⟩
theorem ok_pos {f : Addr} {fd : FuncData} (F : Fun K "is_positive" "is_positive" sPos f fd) (cN : Cal P w K mg base "is_number" fN fdN 2 ["thing"] (spIsN K)) : FnG P w K mg base 3 f fd ["thing"] (spB K isP) := by
  refine okG F scPo (fun vs H Q E h => ?_) (fun cdv A outer s H vs Q E hr hgd h => ?_)
  · obtain ⟨x, d, rfl, _⟩ := h
    rfl
  · obtain ⟨x, d, rfl, hd, k⟩ := h
    refine ⟨_, pss_one (ps_ret (pe_and (pe_cal cN hr hgd (pa_cons (pv 0) pa_nil)) (pe_one (pe_cmpR op_ge (pe_ix ix_tup (pv 0) pe_int (fun _ _ => rfl)) pe_int (nomark _))))), ?_⟩
    refine ⟨_, rfl, x, d, rfl, hd, _, rfl, ?_⟩
    cases e : isN d with
    | false =>
      rw [(no_n e).2.1] at k
      exact iteF k
    | true =>
      refine iteT ?_
      obtain ⟨a, b, rfl, _⟩ := isN_iff e
      obtain ⟨q, rfl, hp⟩ := dp_num hd
      have hk : isP (.tuple [.int a, .int b]) = (isN (.tuple [.int a, .int b]) && decide (1 ≤ a)) := rfl
      rw [hk, e, Bool.true_and] at k
      exact ⟨_, rfl, q, _, _, _, rfl, rfl, hp, rfl, _, _, rfl, rfl, k⟩
theorem p_n {d : PyData} (h : isP d = true) : ∃ a b, d = .tuple [.int a, .int b] ∧ isN d = true ∧ 1 ≤ a := by
  rcases two_or d with ⟨a, b, rfl⟩ | ⟨_, _, h2, _⟩
  · have hk : isP (.tuple [.int a, .int b]) = (isN (.tuple [.int a, .int b]) && decide (1 ≤ a)) := rfl
    rw [hk, Bool.and_eq_true] at h
    exact ⟨a, b, rfl, h.1, of_decide_eq_true h.2⟩
  · rw [h2] at h; cases h
theorem w_p {t u : Int} {d : PyData} (h : isP d = false) : isW t u d = false := by
  rcases two_or d with ⟨a, b, rfl⟩ | ⟨_, h2, _⟩
  · have hk : isP (.tuple [.int a, .int b]) = (isN (.tuple [.int a, .int b]) && decide (1 ≤ a)) := rfl
    have hw : isW t u (.tuple [.int a, .int b]) = (isN (.tuple [.int a, .int b]) && (decide (1 ≤ a) && (decide (a ≤ t) && decide (b ≤ u)))) := rfl
    rw [hk] at h
    rw [hw, ← Bool.and_assoc, h, Bool.false_and]
  · exact h2 t u
theorem scFa : FnScope ["thing"] ["thing"] (defScope sFac) := ⟨rfl, rfl, rfl, by decide +kernel, rfl, by decide +kernel, by decide +kernel⟩
theorem ok_fac {f : Addr} {fd : FuncData} (F : Fun K "is_factor" "is_factor" sFac f fd) (cP : Cal P w K mg base "is_positive" fPos fdPos 3 ["thing"] (spB K isP)) : FnG P w K mg base 4 f fd ["thing"] (spB K (isW 60 60)) := by
  refine okG F scFa (fun vs H Q E h => ?_) (fun cdv A outer s H vs Q E hr hgd h => ?_)
  · obtain ⟨x, d, rfl, _⟩ := h
    rfl
  · obtain ⟨x, d, rfl, hd, k⟩ := h
    refine ⟨_, pss_one (ps_ret (pe_and (pe_cal cP hr hgd (pa_cons (pv 0) pa_nil)) (pe_and (pe_cmpR op_le (pe_ix ix_tup (pv 0) pe_int (fun _ _ => rfl)) pe_int (nomark _)) (pe_one (pe_cmpR op_le (pe_ix ix_tup (pv 0) pe_int (fun _ _ => rfl)) pe_int (nomark _)))))), ?_⟩
    refine ⟨_, rfl, x, d, rfl, hd, _, rfl, ?_⟩
    cases e : isP d with
    | false =>
      rw [w_p e] at k
      exact iteF k
    | true =>
      refine iteT ?_
      obtain ⟨a, b, rfl, hn, ha⟩ := p_n e
      obtain ⟨q, rfl, hp⟩ := dp_num hd
      have hk : isW 60 60 (.tuple [.int a, .int b]) = (isN (.tuple [.int a, .int b]) && (decide (1 ≤ a) && (decide (a ≤ 60) && decide (b ≤ 60)))) := rfl
      rw [hk, hn, decide_eq_true ha, Bool.true_and, Bool.true_and] at k
      refine ⟨_, rfl, q, _, _, _, rfl, rfl, hp, rfl, _, _, rfl, rfl, _, rfl, ?_⟩
      refine ite2 (fun h2 => ?_) (fun h2 => ?_)
      · rw [show decide (a ≤ 60) = true from h2, Bool.true_and] at k
        exact ⟨_, rfl, q, _, _, _, rfl, rfl, hp, rfl, _, _, rfl, rfl, k⟩
      · rw [show decide (a ≤ 60) = false from by simpa using h2, Bool.false_and] at k
        exact k
theorem scLe : FnScope ["thing"] ["thing"] (defScope sLen) := ⟨rfl, rfl, rfl, by decide +kernel, rfl, by decide +kernel, by decide +kernel⟩
theorem ok_len {f : Addr} {fd : FuncData} (F : Fun K "is_length" "is_length" sLen f fd) (cP : Cal P w K mg base "is_positive" fPos fdPos 3 ["thing"] (spB K isP)) : FnG P w K mg base 4 f fd ["thing"] (spB K (isW 999999 999)) := by
  refine okG F scLe (fun vs H Q E h => ?_) (fun cdv A outer s H vs Q E hr hgd h => ?_)
  · obtain ⟨x, d, rfl, _⟩ := h
    rfl
  · obtain ⟨x, d, rfl, hd, k⟩ := h
    refine ⟨_, pss_one (ps_ret (pe_and (pe_cal cP hr hgd (pa_cons (pv 0) pa_nil)) (pe_and (pe_cmpR op_le (pe_ix ix_tup (pv 0) pe_int (fun _ _ => rfl)) pe_int (nomark _)) (pe_one (pe_cmpR op_le (pe_ix ix_tup (pv 0) pe_int (fun _ _ => rfl)) pe_int (nomark _)))))), ?_⟩
    refine ⟨_, rfl, x, d, rfl, hd, _, rfl, ?_⟩
    cases e : isP d with
    | false =>
      rw [w_p e] at k
      exact iteF k
    | true =>
      refine iteT ?_
      obtain ⟨a, b, rfl, hn, ha⟩ := p_n e
      obtain ⟨q, rfl, hp⟩ := dp_num hd
      have hk : isW 999999 999 (.tuple [.int a, .int b]) = (isN (.tuple [.int a, .int b]) && (decide (1 ≤ a) && (decide (a ≤ 999999) && decide (b ≤ 999)))) := rfl
      rw [hk, hn, decide_eq_true ha, Bool.true_and, Bool.true_and] at k
      refine ⟨_, rfl, q, _, _, _, rfl, rfl, hp, rfl, _, _, rfl, rfl, _, rfl, ?_⟩
      refine ite2 (fun h2 => ?_) (fun h2 => ?_)
      · rw [show decide (a ≤ 999999) = true from h2, Bool.true_and] at k
        exact ⟨_, rfl, q, _, _, _, rfl, rfl, hp, rfl, _, _, rfl, rfl, k⟩
      · rw [show decide (a ≤ 999999) = false from by simpa using h2, Bool.false_and] at k
        exact k
theorem scPc : FnScope ["thing"] ["thing"] (defScope sPac) := ⟨rfl, rfl, rfl, by decide +kernel, rfl, by decide +kernel, by decide +kernel⟩
theorem ok_pac {f : Addr} {fd : FuncData} (F : Fun K "is_pace" "is_pace" sPac f fd) (cN : Cal P w K mg base "is_number" fN fdN 2 ["thing"] (spIsN K)) (cF : Cal P w K mg base "is_factor" fFac fdFac 4 ["thing"] (spB K (isW 60 60))) : FnG P w K mg base 5 f fd ["thing"] (spB K fun d => isW 60 60 d || isZ d) := by
  refine okG F scPc (fun vs H Q E h => ?_) (fun cdv A outer s H vs Q E hr hgd h => ?_)
  · obtain ⟨x, d, rfl, _⟩ := h
    rfl
  · obtain ⟨x, d, rfl, hd, k⟩ := h
    refine ⟨_, pss_one (ps_ret (pe_or (pe_cal cF hr hgd (pa_cons (pv 0) pa_nil)) (pe_one (pe_and (pe_cal cN (hr.mono (by decide)) hgd (pa_cons (pv 0) pa_nil)) (pe_one (pe_cmpR op_eq (pe_ix ix_tup (pv 0) pe_int (fun _ _ => rfl)) pe_int (nomark _))))))), ?_⟩
    refine ⟨_, rfl, x, d, rfl, hd, _, rfl, ?_⟩
    cases e : isW 60 60 d with
    | true =>
      have k' : Q (.bl (isW 60 60 d || isZ d)) H := k
      rw [e, Bool.true_or] at k'
      exact iteT k'
    | false =>
      have k' : Q (.bl (isW 60 60 d || isZ d)) H := k
      rw [e, Bool.false_or] at k'
      refine iteF ?_
      refine ⟨_, rfl, x, d, rfl, hd, _, rfl, ?_⟩
      cases e2 : isN d with
      | false =>
        rw [(no_n e2).2.2] at k'
        exact iteF k'
      | true =>
        refine iteT ?_
        obtain ⟨a, b, rfl, _⟩ := isN_iff e2
        obtain ⟨q, rfl, hp⟩ := dp_num hd
        have hk : isZ (.tuple [.int a, .int b]) = (isN (.tuple [.int a, .int b]) && decide (a = 0)) := rfl
        rw [hk, e2, Bool.true_and] at k'
        refine ⟨_, rfl, q, _, _, _, rfl, rfl, hp, rfl, rfl, ?_⟩
        have ed : decide (V.int a = V.int 0) = decide (a = 0) := by rw [dec_int, Bool.beq_eq_decide_eq]
        rw [ed]
        exact k'
theorem scTx : FnScope ["value"] ["value"] (defScope sTxt) := ⟨rfl, rfl, rfl, by decide +kernel, rfl, by decide +kernel, by decide +kernel⟩
theorem ok_txt {f : Addr} {fd : FuncData} (F : Fun K "number_text" "number_text" sTxt f fd) (TL : TxtL mg) (cC : Cal P w K mg base "check_number" fChk fdChk 3 ["thing"] (spChk K C)) : FnG P w K mg base 4 f fd ["value"] (spTxt K C) := by
  refine okG F scTx (fun vs H Q E h => ?_) (fun cdv A outer s H vs Q E hr hgd h => ?_)
  · obtain ⟨x, d, rfl, _⟩ := h
    rfl
  · obtain ⟨x, d, rfl, hd, kb, kg⟩ := h
    have tk : Takes (cxOf (L2.CX P w) P w K mg base ["value"] "number_text" (defScope sTxt) f cdv A outer s H E) (fun cls d _ H => E cls d H) := takes_of rfl rfl rfl rfl
    refine ⟨_, pss_cons (ps_expr (pe_callG (E := WE (fun cls d _ H => E cls d H)) cC.fn hr hgd rfl cC.g cC.k cC.b .nil (fun σ => passAt tk σ) (pa_cons (pv 0) pa_nil)))
      (pss_cons (ps_if (pt_cmpR op_eq (pe_ix ix_tup (pv 0) pe_int (fun _ _ => rfl)) pe_int (nomark _)) (pss_one (ps_ret (pe_callTy call_str_int (by rfl) TL.str (by decide +kernel) (pa_cons (pe_ix ix_tup (pv 0) pe_int (fun _ _ => rfl)) pa_nil)))) pss_nil)
      (pss_one (ps_ret (pe_joined (.cons (pe_fmt (pe_ix ix_tup (pv 0) pe_int (fun _ _ => rfl))) (.cons pe_str (.cons (pe_fmt (pe_ix ix_tup (pv 0) pe_int (fun _ _ => rfl))) .nil))))))), ?_⟩
    refine ⟨_, rfl, x, d, rfl, hd, fun hn => ?_, kb⟩
    obtain ⟨a, b, rfl, _⟩ := isN_iff hn
    obtain ⟨q, rfl, hp⟩ := dp_num hd
    obtain ⟨za, zb, k⟩ := kg a b rfl hn
    unfold txtOf at k
    refine ⟨_, rfl, q, _, _, _, rfl, rfl, hp, rfl, rfl, _, rfl, ?_⟩
    refine ite2 (fun h1 => ?_) (fun h1 => ?_)
    · have z : b = 1 := by
        have := of_decide_eq_true h1
        injection this
      rw [if_pos z] at k
      exact ⟨_, rfl, q, _, _, _, rfl, rfl, hp, rfl, a, rfl, lg za, k⟩
    · have z : ¬ b = 1 := fun z => h1 (by rw [z]; exact decide_eq_true rfl)
      rw [if_neg z] at k
      have l1 := tx_len za
      have l2 := tx_len zb
      have l3 : (Str.ofString "/").length = 1 := by decide +kernel
      have lz : (5000 : Nat) ≤ sizeLine := by rw [sizeLine_eq]; decide
      refine ⟨_, rfl, q, _, _, _, rfl, rfl, hp, rfl, .inr ⟨a, rfl, lg za, _, rfl, ?_, ?_⟩⟩
      · rw [Str.empty_append]; omega
      · rw [Str.empty_append]
        refine ⟨_, rfl, ?_, ?_⟩
        · rw [strLen_append]; omega
        · refine ⟨_, rfl, q, _, _, _, rfl, rfl, hp, rfl, .inr ⟨b, rfl, lg zb, _, rfl, ?_, k⟩⟩
          rw [strLen_append, strLen_append]; omega
end
end K2
set_option Elab.async false
set_option linter.all false
set_option maxRecDepth 100000
set_option maxHeartbeats 4000000
set_option exponentiation.threshold 100000
namespace K2
open PySem PySem.Spec PyProof.Rows L2 RmX Rm Mth
abbrev sInt : Stmt := top 24
abbrev sThi : Stmt := top 25
structure TxtI (K : PySem.W.Frag) (mg : Str → Option Value) (fNx : Addr) : Prop where
  gNx : mg "_law_next" = some (.ref fNx)
  kNx : PySem.W.keepIn K (.ref fNx) = true
/-- data stays, where only the draw changes -/
theorem dp_kp {K : PySem.W.Frag} {H H' : Hp} {p c : Addr} {n : Nat} (D : DrawAt H p c n) (kp : Kp p H H') : ∀ {d : PyData} {x : V}, Dp K H x d → Dp K H' x d := by
  obtain ⟨_, _, _, _, hp, _⟩ := D
  have sl : ∀ {a : Addr} {xs : List V}, SqL K H a xs → SqL K H' a xs := fun {a xs} h => by
    rcases h with (h | ⟨o, h⟩) | h
    · exact .inl (.inl (kp _ _ h (ne_of h hp (by intro z; cases z))))
    · exact .inl (.inr ⟨o, kp _ _ h (ne_of h hp (by intro z; cases z))⟩)
    · exact .inr h
  have st : ∀ {a : Addr} {xs : List V}, SqT K H a xs → SqT K H' a xs := fun {a xs} h => by
    rcases h with (h | ⟨o, h⟩) | h
    · exact .inl (.inl (kp _ _ h (ne_of h hp (by intro z; cases z))))
    · exact .inl (.inr ⟨o, kp _ _ h (ne_of h hp (by intro z; cases z))⟩)
    · exact .inr h
  intro d x h
  exact Dp.rec (motive_1 := fun x d _ => Dp K H' x d) (motive_2 := fun xs ds _ => DpAll K H' xs ds) .non .bl .int .str (fun h1 _ ih => .lst (sl h1) ih) (fun h1 _ ih => .tup (st h1) ih) .nil (fun _ _ i1 i2 => .cons i1 i2) h
theorem gStep {g r : Int} {i : Nat} (h0 : 0 ≤ g) (h1 : g.natAbs < 2 ^ (10 + 135 * i)) (r0 : 0 ≤ r) (r1 : r < 1000) : 0 ≤ g * 10 ^ 39 + r ∧ (g * 10 ^ 39 + r).natAbs < 2 ^ (10 + 135 * (i + 1)) := by
  have e : (10 : Int) ^ 39 = 1000000000000000000000000000000000000000 := by decide
  rw [e]
  have e2 : 10 + 135 * (i + 1) = (10 + 135 * i) + 135 := by omega
  rw [e2, Nat.pow_add]
  generalize hX : 2 ^ (10 + 135 * i) = X at h1 ⊢
  have hp : 1000 < X := by
    rw [← hX, Nat.pow_add]
    have := Nat.one_le_two_pow (n := 135 * i)
    omega
  omega
theorem DrawAt.neL {H : Hp} {p c a : Addr} {n : Nat} {xs : List V} (d : DrawAt H p c n) (h : H a = some (.lst xs)) : a ≠ p := by
  obtain ⟨_, _, _, _, hp, _⟩ := d
  exact ne_of h hp (by intro z; cases z)

structure Wh (d : PyData) : Prop where
  sz : Sz d
  sh : d.showable = true
  nd : d.hasDict = false
  dp : d.depth ≤ 5
  ct : cst d ≤ 20000
structure Od (d : PyData) : Prop where
  ni : isI d = false
  sz : Sz d
  sh : d.showable = true
  nd : d.hasDict = false
  dp : d.depth ≤ 2
  ct : cst d ≤ 5000
theorem od_0 : Od .none := ⟨rfl, (fun _ _ z => by cases z), by decide +kernel, by decide +kernel, by decide +kernel, by decide +kernel⟩
theorem od_1 : Od (.bool true) := ⟨rfl, (fun _ _ z => by cases z), by decide +kernel, by decide +kernel, by decide +kernel, by decide +kernel⟩
theorem od_2 : Od (.bool false) := ⟨rfl, (fun _ _ z => by cases z), by decide +kernel, by decide +kernel, by decide +kernel, by decide +kernel⟩
theorem od_3 : Od (.str (Str.ofString "1")) := ⟨rfl, (fun _ _ z => by cases z), by decide +kernel, by decide +kernel, by decide +kernel, by decide +kernel⟩
theorem od_4 : Od (.tuple [.int 1]) := ⟨rfl, (fun _ _ z => by cases z), by decide +kernel, by decide +kernel, by decide +kernel, by decide +kernel⟩
theorem od_5 : Od (.list [.int 1]) := ⟨rfl, (fun _ _ z => by cases z), by decide +kernel, by decide +kernel, by decide +kernel, by decide +kernel⟩
theorem od_6 : Od (.str (Str.ofString "")) := ⟨rfl, (fun _ _ z => by cases z), by decide +kernel, by decide +kernel, by decide +kernel, by decide +kernel⟩
theorem od_7 : Od (.tuple []) := ⟨rfl, (fun _ _ z => by cases z), by decide +kernel, by decide +kernel, by decide +kernel, by decide +kernel⟩
theorem sh_i {i : Int} (h : i.natAbs < 2 ^ 1500) : (PyData.int i).showable = true := by
  have := lg h
  simp only [PyData.showable, decide_eq_true_eq]
  omega
theorem wh2 {i j : Int} (hi : i.natAbs < 2 ^ 1500) (hj : j.natAbs < 2 ^ 1500) : Wh (.tuple [.int i, .int j]) := by
  refine ⟨fun a b e => ?_, ?_, by simp [PyData.hasDict, PyData.hasDictAll], by simp [PyData.depth, PyData.depthAll], by simp [cst, cstAll]⟩
  · cases e
    exact ⟨hi, hj⟩
  · have h1 := sh_i hi
    have h2 := sh_i hj
    simp only [PyData.showable, PyData.showableAll] at h1 h2 ⊢
    simp [h1, h2]
theorem wh3 {i j k : Int} (hi : i.natAbs < 2 ^ 1500) (hj : j.natAbs < 2 ^ 1500) (hk : k.natAbs < 2 ^ 1500) : Wh (.tuple [.int i, .int j, .int k]) := by
  refine ⟨fun a b e => (by cases e), ?_, by simp [PyData.hasDict, PyData.hasDictAll], by simp [PyData.depth, PyData.depthAll], by simp [cst, cstAll]⟩
  have h1 := sh_i hi
  have h2 := sh_i hj
  have h3 := sh_i hk
  simp only [PyData.showable, PyData.showableAll] at h1 h2 h3 ⊢
  simp [h1, h2, h3]
theorem wh1 {i : Int} (hi : i.natAbs < 2 ^ 1500) : Wh (.tuple [.int i]) := by
  refine ⟨fun a b e => (by cases e), ?_, by simp [PyData.hasDict, PyData.hasDictAll], by simp [PyData.depth, PyData.depthAll], by simp [cst, cstAll]⟩
  have h1 := sh_i hi
  simp only [PyData.showable, PyData.showableAll] at h1 ⊢
  simp [h1]
theorem whl {i j : Int} (hi : i.natAbs < 2 ^ 1500) (hj : j.natAbs < 2 ^ 1500) : Wh (.list [.int i, .int j]) := by
  refine ⟨fun a b e => (by cases e), ?_, by simp [PyData.hasDict, PyData.hasDictAll], by simp [PyData.depth, PyData.depthAll], by simp [cst, cstAll]⟩
  have h1 := sh_i hi
  have h2 := sh_i hj
  simp only [PyData.showable, PyData.showableAll] at h1 h2 ⊢
  simp [h1, h2]
theorem whi {i : Int} (hi : i.natAbs < 2 ^ 1500) : Wh (.int i) :=
  ⟨fun a b e => (by cases e), sh_i hi, rfl, by simp [PyData.depth], by simp [cst]⟩
theorem wh_o {d : PyData} (o : Od d) : Wh d := ⟨o.sz, o.sh, o.nd, by have := o.dp; omega, by have := o.ct; omega⟩
theorem wh_io {i : Int} {d : PyData} (hi : i.natAbs < 2 ^ 1500) (o : Od d) : Wh (.tuple [.int i, d]) := by
  have h1 := sh_i hi
  have h2 := o.sh
  have h3 := o.nd
  have h4 := o.dp
  have h5 := o.ct
  refine ⟨fun a b e => ?_, ?_, ?_, ?_, ?_⟩
  · have := o.ni
    cases e
    cases this
  · simp only [PyData.showable, PyData.showableAll] at h1 h2 ⊢
    simp [h1, h2]
  · simp [PyData.hasDict, PyData.hasDictAll, h3]
  · simp only [PyData.depth, PyData.depthAll]; omega
  · simp only [cst, cstAll]; omega
theorem wh_oi {i : Int} {d : PyData} (hi : i.natAbs < 2 ^ 1500) (o : Od d) : Wh (.tuple [d, .int i]) := by
  have h1 := sh_i hi
  have h2 := o.sh
  have h3 := o.nd
  have h4 := o.dp
  have h5 := o.ct
  refine ⟨fun a b e => ?_, ?_, ?_, ?_, ?_⟩
  · have := o.ni
    cases e
    cases this
  · simp only [PyData.showable, PyData.showableAll] at h1 h2 ⊢
    simp [h1, h2]
  · simp [PyData.hasDict, PyData.hasDictAll, h3]
  · simp only [PyData.depth, PyData.depthAll]; omega
  · simp only [cst, cstAll]; omega
theorem b14 {k : Nat} (h : k < 2 ^ 1400) : k < 2 ^ 1500 := Nat.lt_trans h (Nat.pow_lt_pow_right (by decide) (by decide))
theorem sm1 (i : Int) (h : i.natAbs < 1000) : i.natAbs < 2 ^ 1500 := Nat.lt_of_lt_of_le h (Nat.le_trans (show 1000 ≤ 2 ^ 10 by decide) (Nat.pow_le_pow_right (by decide) (by decide)))
theorem sm4 (i : Int) (h : i.natAbs < 2 ^ 30) : i.natAbs < 2 ^ 1400 := Nat.lt_of_lt_of_le h (Nat.pow_le_pow_right (by decide) (by decide))
theorem db {i : Int} (h : i.natAbs < 2 ^ 1400) : (2 * i).natAbs < 2 ^ 1500 := by
  have e : (2 : Nat) ^ 1401 < 2 ^ 1500 := Nat.pow_lt_pow_right (by decide) (by decide)
  have e2 : (2 : Nat) ^ 1401 = 2 * 2 ^ 1400 := by rw [Nat.pow_succ, Nat.mul_comm]
  omega
theorem w2 {i : Int} (h : i.natAbs < 2 ^ 1400) : CMulW 2 i := wide_mul (show Int.natAbs 2 < 2 ^ 2 by decide) h (by decide) (by decide) (by decide)
theorem mx {j : Int} (h : j.natAbs < 2 ^ 1400) : (if j > 1 then j else 1).natAbs < 2 ^ 1500 := by
  split
  · exact b14 h
  · exact sm1 1 (by decide)
def spInt : Sp := fun vs H Q _ => ∃ (p c : Addr) (n : Nat), vs = [.ref p] ∧ DrawAt H p c n ∧ n < 2 ^ 28 ∧
  ∀ (i : Int) (H' : Hp), i.natAbs < 2 ^ 1400 → DrawAt H' p c (n + 16) → Kp p H H' → Q (.int i) H'
theorem int_ok {p c : Addr} {n : Nat} {H : Hp} {Q : VK} {E : XK} (D : DrawAt H p c n) (hn : n < 2 ^ 28) (h : ∀ (i : Int) (H' : Hp), i.natAbs < 2 ^ 1400 → DrawAt H' p c (n + 16) → Kp p H H' → Q (.int i) H') : Bx (spInt [.ref p] H Q E) := ⟨⟨p, c, n, rfl, D, hn, h⟩⟩
def spThi (K : PySem.W.Frag) : Sp := fun vs H Q _ => ∃ (p c : Addr) (n : Nat), vs = [.ref p] ∧ DrawAt H p c n ∧ n < 2 ^ 27 ∧
  ∀ (x : V) (d : PyData) (H' : Hp), DrawAt H' p c (n + 40) → Kp p H H' → Dp K H' x d → Wh d → Q x H'
theorem kp_of {H H' : Hp} {p : Addr} (s : Same H H') : Kp p H H' := fun b o e _ => s b o e
section
variable {P : Program} {w : World} {K : PySem.W.Frag} {mg : Str → Option Value} {base : Heap} {fNx fIn : Addr} {fdNx fdIn : FuncData}
theorem scIn : FnScope ["draw", "great", "k", "some", "found"] ["draw"] (defScope sInt) := ⟨rfl, rfl, rfl, by decide +kernel, rfl, by decide +kernel, by decide +kernel⟩
theorem ok_int {f : Addr} {fd : FuncData} (F : Fun K "_law_integer" "_law_integer" sInt f fd) (TL : TxtL mg) (TI : TxtI K mg fNx) (GN : FnG P w K mg base 2 fNx fdNx ["draw", "bound"] spNext) (bN : Binds K fdNx ["draw", "bound"] []) :
    FnG P w K mg base 3 f fd ["draw"] spInt := by
  refine okG F scIn (fun vs H Q E h => ?_) (fun cdv A outer s H vs Q E hr hgd h => ?_)
  · obtain ⟨p, c, n, rfl, _⟩ := h
    rfl
  · obtain ⟨p, c, n, rfl, D, hn, kq⟩ := h
    obtain ⟨u, hu, ku⟩ : ∃ u, PSs (cxOf (L2.CX P w) P w K mg base ["draw", "great", "k", "some", "found"] "_law_integer" (defScope sInt) f cdv A outer s H E) ((defBody sInt).drop 4) u ∧ ∀ (H1 : Hp) (m : Nat) (i : Int) (x y z : Option V), DrawAt H1 p c m → m < n + 15 → Kp p H H1 → i.natAbs < 2 ^ 1400 →
        u { nx := fun _ H' => Q .non H', rt := Q } [some (.ref p), x, y, z, some (.int i)] H1 := by
      refine ⟨_, pss_one (ps_ret (pe_ifExp (pt_cmpR op_eq (pe_callG (E := fun _ => E0) GN (hr.mono (by decide)) hgd rfl TI.gNx TI.kNx bN .nil pass0G (pa_cons (pv 0) (pa_cons pe_int pa_nil))) pe_int (nomark _)) (pe_op op_sub pe_int (pv 4)) (pv 4))), ?_⟩
      intro H1 m i x y z D1 hm K1 hi
      refine ⟨_, rfl, p, c, m, _, rfl, D1, by omega, by decide, by decide, fun r H2 r0 r1 D2 K2 _ => ?_⟩
      refine ⟨rfl, _, rfl, ?_⟩
      refine ite2 (fun _ => ?_) (fun _ => ?_)
      · exact ⟨_, rfl, _, _, rfl, rfl, kq _ _ (by omega) (D2.mono (by omega)) (K1.trans K2)⟩
      · exact ⟨_, rfl, kq _ _ hi (D2.mono (by omega)) (K1.trans K2)⟩
    refine ⟨_, pss_cons (ps_set (i := 1) scIn.nd rfl (Or.inl rfl) pe_int)
      (pss_cons (ps_for PassesOwn.leaving rfl (pi_range1 rfl TL.range (pa_cons (pe_callG (E := fun _ => E0) GN (hr.mono (by decide)) hgd rfl TI.gNx TI.kNx bN .nil pass0G (pa_cons (pv 0) (pa_cons pe_int pa_nil))) pa_nil)) (pg_name (i := 2) scIn.nd rfl (Or.inl rfl)) (pss_one (ps_set (i := 1) scIn.nd rfl (Or.inl rfl) (pe_op op_add (pe_op op_mulW (pv 1) (pe_op op_pow pe_int pe_int)) (pe_callG (E := fun _ => E0) GN (hr.mono (by decide)) hgd rfl TI.gNx TI.kNx bN .nil pass0G (pa_cons (pv 0) (pa_cons pe_int pa_nil)))))))
      (pss_cons (ps_set (i := 3) scIn.nd rfl (Or.inl rfl) (pe_lst (pa_cons pe_int (pa_cons pe_int (pa_cons pe_int (pa_cons pe_int (pa_cons pe_int (pa_cons pe_int (pa_cons pe_int (pa_cons pe_int (pa_cons (pv 1) (pa_cons (pe_callG (E := fun _ => E0) GN (hr.mono (by decide)) hgd rfl TI.gNx TI.kNx bN .nil pass0G (pa_cons (pv 0) (pa_cons pe_int pa_nil))) (pa_cons (pe_op op_mul pe_int (pe_callG (E := fun _ => E0) GN (hr.mono (by decide)) hgd rfl TI.gNx TI.kNx bN .nil pass0G (pa_cons (pv 0) (pa_cons pe_int pa_nil)))) pa_nil)))))))))))))
      (pss_cons (ps_set (i := 4) scIn.nd rfl (Or.inl rfl) (pe_ix ix_list (pv 3) (pe_callG (E := fun _ => E0) GN (hr.mono (by decide)) hgd rfl TI.gNx TI.kNx bN .nil pass0G (pa_cons (pv 0) (pa_cons pe_int pa_nil))) (fun _ _ => rfl)))
      (hu)))), ?_⟩
    refine ⟨_, rfl, p, c, n, _, rfl, D, by omega, by decide, by decide, fun m H1 m0 m1 D1 K1 _ => ?_⟩
    refine ⟨m, rfl, by omega, by omega, for_range (lo := 0) (n := m.toNat) (fun i σ H' => ∃ (g : Int) (k : Option V), σ = [some (.ref p), some (.int g), k, none, none] ∧ 0 ≤ g ∧ g.natAbs < 2 ^ (10 + 135 * i) ∧ DrawAt H' p c (n + 1 + i) ∧ Kp p H H')
      ⟨_, _, rfl, by omega, by show Int.natAbs 1 < 1024; decide, D1, K1⟩ (fun i σ H' hi hP => ?_) (fun σ H' hP => ?_)⟩
    · obtain ⟨g, k, rfl, g0, g1, D', K'⟩ := hP
      have hw : CMulW g (10 ^ 39) := wide_mul (Nat.lt_of_lt_of_le g1 (Nat.pow_le_pow_right (by decide) (show 10 + 135 * i ≤ 1400 by omega))) (show Int.natAbs (10 ^ 39) < 2 ^ 140 by decide) (by decide) (by decide) (by decide)
      refine ⟨_, rfl, _, _, rfl, rfl, ⟨by decide, by decide⟩, ?_⟩
      refine ⟨_, _, rfl, rfl, hw, ?_⟩
      refine ⟨_, rfl, p, c, n + 1 + i, _, rfl, D', by omega, by decide, by decide, fun r H2 r0' r1' D2 K2 _ => ?_⟩
      have gs := gStep g0 g1 r0' r1'
      exact ⟨_, _, rfl, rfl, _, _, rfl, gs.1, gs.2, D2, K'.trans K2⟩
    · obtain ⟨g, k, rfl, g0, g1, D', K'⟩ := hP
      have hg : g.natAbs < 2 ^ 1400 := Nat.lt_of_lt_of_le g1 (Nat.pow_le_pow_right (by decide) (by omega))
      refine ⟨_, rfl, _, rfl, p, c, n + 1 + m.toNat, _, rfl, D', by omega, by decide, by decide, fun r1 H2 r10 r11 D2 K2 _ => ?_⟩
      refine ⟨_, rfl, p, c, _, _, rfl, D2, by omega, by decide, by decide, fun r2 H3 r20 r21 D3 K3 _ => ?_⟩
      refine ⟨_, _, rfl, rfl, .inl ⟨by decide, by decide⟩, ?_⟩
      refine ⟨by rw [sizeLine_eq]; show 11 ≤ 16777216; decide, fun l nn => ?_⟩
      generalize hG : upd H3 l _ = H4
      obtain ⟨s4, h4⟩ := same_of nn hG
      clear hG nn
      have D4 := D3.same s4
      refine ⟨_, rfl, _, rfl, p, c, _, _, rfl, D4, by omega, by decide, by decide, fun r H5 r0 r1' D5 K5 _ => ?_⟩
      have hl : SqL K H5 l _ := .of (K5 _ _ h4 (D4.neL h4))
      have KK : Kp p H H5 := (K'.trans (K2.trans K3)).trans ((kp_of s4).trans K5)
      have go := fun (i : Int) (hi : i.natAbs < 2 ^ 1400) (x y z : Option V) => ku H5 _ i x y z D5 (by omega) KK hi
      have sm : ∀ i : Int, i.natAbs < 2 ^ 30 → i.natAbs < 2 ^ 1400 := sm4
      have sm' : ∀ i : Int, i.natAbs < 2 ^ 30 → i.natAbs < 2 ^ 1400 := sm4
      rcases (by omega : r = 0 ∨ r = 1 ∨ r = 2 ∨ r = 3 ∨ r = 4 ∨ r = 5 ∨ r = 6 ∨ r = 7 ∨ r = 8 ∨ r = 9 ∨ r = 10) with z | z | z | z | z | z | z | z | z | z | z
      · subst z
        exact ⟨l, _, 0, _, rfl, rfl, hl, rfl, go _ (sm 0 (by decide)) _ _ _⟩
      · subst z
        exact ⟨l, _, 1, _, rfl, rfl, hl, rfl, go _ (sm 1 (by decide)) _ _ _⟩
      · subst z
        exact ⟨l, _, 2, _, rfl, rfl, hl, rfl, go _ (sm 60 (by decide)) _ _ _⟩
      · subst z
        exact ⟨l, _, 3, _, rfl, rfl, hl, rfl, go _ (sm 61 (by decide)) _ _ _⟩
      · subst z
        exact ⟨l, _, 4, _, rfl, rfl, hl, rfl, go _ (sm 999 (by decide)) _ _ _⟩
      · subst z
        exact ⟨l, _, 5, _, rfl, rfl, hl, rfl, go _ (sm 1000 (by decide)) _ _ _⟩
      · subst z
        exact ⟨l, _, 6, _, rfl, rfl, hl, rfl, go _ (sm 999999 (by decide)) _ _ _⟩
      · subst z
        exact ⟨l, _, 7, _, rfl, rfl, hl, rfl, go _ (sm 1000000 (by decide)) _ _ _⟩
      · subst z
        exact ⟨l, _, 8, _, rfl, rfl, hl, rfl, go _ hg _ _ _⟩
      · subst z
        exact ⟨l, _, 9, _, rfl, rfl, hl, rfl, go _ (sm' _ (by omega)) _ _ _⟩
      · subst z
        exact ⟨l, _, 10, _, rfl, rfl, hl, rfl, go _ (sm' _ (by omega)) _ _ _⟩
theorem scTh : FnScope ["draw", "one", "other", "odd", "some"] ["draw"] (defScope sThi) := ⟨rfl, rfl, rfl, by decide +kernel, rfl, by decide +kernel, by decide +kernel⟩
theorem thing_tail {f : Addr} {cdv : Value} {A : Around} {outer : List Env} {s : Shared} {H : Hp} {Q : VK} {E : XK} (TL : TxtL mg) (TI : TxtI K mg fNx) (hr : Room 3 (A.deeper (envOfC "_law_thing" (defScope sThi) s.heap.objs.size f cdv))) (hgd : A.guards = some []) (GN : FnG P w K mg base 2 fNx fdNx ["draw", "bound"] spNext) (bN : Binds K fdNx ["draw", "bound"] []) :
    ∃ u, PSs (cxOf (L2.CX P w) P w K mg base ["draw", "one", "other", "odd", "some"] "_law_thing" (defScope sThi) f cdv A outer s H E) ((defBody sThi).drop 2) u ∧ ∀ (G0 : Hp) (p c : Addr) (n : Nat) (i j : Int) (y : V) (d : PyData) (z : Option V) (D : DrawAt G0 p c n) (hn : n < 2 ^ 28) (ii : i.natAbs < 2 ^ 1400) (jj : j.natAbs < 2 ^ 1400) (hd : Dp K G0 y d) (o : Od d)
        (fin : ∀ (x : V) (d : PyData) (H' : Hp), DrawAt H' p c (n + 1) → Kp p G0 H' → Dp K H' x d → Wh d → Q x H'), u { nx := fun _ H' => Q .non H', rt := Q } [some (.ref p), some (.int i), some (.int j), some y, z] G0 := by
  refine ⟨_, pss_cons (ps_set (i := 4) scTh.nd rfl (Or.inl rfl) (pe_lst (pa_cons (pe_tup (pa_cons (pv 1) (pa_cons (pv 2) pa_nil))) (pa_cons (pe_tup (pa_cons (pv 1) (pa_cons (pe_callB (call_max2 rfl) (by rfl) TL.max (by decide +kernel) (pa_cons pe_int (pa_cons (pv 2) pa_nil))) pa_nil))) (pa_cons (pe_tup (pa_cons (pv 1) (pa_cons pe_int pa_nil))) (pa_cons (pe_tup (pa_cons pe_int (pa_cons (pv 2) pa_nil))) (pa_cons (pe_tup (pa_cons pe_int (pa_cons (pv 2) pa_nil))) (pa_cons (pe_tup (pa_cons (pv 1) (pa_cons (pv 3) pa_nil))) (pa_cons (pe_tup (pa_cons (pv 3) (pa_cons (pv 2) pa_nil))) pa_nil)))))))))
      (pss_cons (ps_set (i := 4) scTh.nd rfl (Or.inl rfl) (pe_op op_cat (pv 4) (pe_lst (pa_cons (pe_tup (pa_cons (pv 1) (pa_cons (pv 2) (pa_cons pe_int pa_nil)))) (pa_cons (pe_tup (pa_cons (pv 1) pa_nil)) (pa_cons (pe_lst (pa_cons (pv 1) (pa_cons (pv 2) pa_nil))) (pa_cons (pv 3) (pa_cons (pv 1) (pa_cons (pe_tup (pa_cons (pe_op op_mulW pe_int (pv 1)) (pa_cons pe_int pa_nil))) (pa_cons (pe_tup (pa_cons (pv 2) (pa_cons pe_int pa_nil))) pa_nil))))))))))
      (pss_one (ps_ret (pe_ix ix_list (pv 4) (pe_callG (E := fun _ => E0) GN (hr.mono (by decide)) hgd rfl TI.gNx TI.kNx bN .nil pass0G (pa_cons (pv 0) (pa_cons pe_int pa_nil))) (fun _ _ => rfl))))), ?_⟩
  intro G0 p c n i j y d z D hn ii jj hd o fin
  have zi := b14 ii
  have zj := b14 jj
  refine ⟨_, rfl, _, rfl, ?_⟩
  refine ⟨by rw [sizeLine_eq]; show 2 ≤ 16777216; decide, fun t1 nn => ?_⟩
  generalize hG : upd G0 t1 _ = G1
  obtain ⟨s1, h1⟩ := same_of nn hG
  clear hG nn
  refine ⟨_, rfl, _, rfl, _, _, rfl, ?_⟩
  refine ⟨by rw [sizeLine_eq]; show 2 ≤ 16777216; decide, fun t2 nn => ?_⟩
  generalize hG : upd G1 t2 _ = G2
  obtain ⟨s2, h2⟩ := same_of nn hG
  clear hG nn
  refine ⟨_, rfl, ?_⟩
  refine ⟨by rw [sizeLine_eq]; show 2 ≤ 16777216; decide, fun t3 nn => ?_⟩
  generalize hG : upd G2 t3 _ = G3
  obtain ⟨s3, h3⟩ := same_of nn hG
  clear hG nn
  refine ⟨_, rfl, ?_⟩
  refine ⟨by rw [sizeLine_eq]; show 2 ≤ 16777216; decide, fun t4 nn => ?_⟩
  generalize hG : upd G3 t4 _ = G4
  obtain ⟨s4, h4⟩ := same_of nn hG
  clear hG nn
  refine ⟨_, rfl, ?_⟩
  refine ⟨by rw [sizeLine_eq]; show 2 ≤ 16777216; decide, fun t5 nn => ?_⟩
  generalize hG : upd G4 t5 _ = G5
  obtain ⟨s5, h5⟩ := same_of nn hG
  clear hG nn
  refine ⟨_, rfl, _, rfl, ?_⟩
  refine ⟨by rw [sizeLine_eq]; show 2 ≤ 16777216; decide, fun t6 nn => ?_⟩
  generalize hG : upd G5 t6 _ = G6
  obtain ⟨s6, h6⟩ := same_of nn hG
  clear hG nn
  refine ⟨_, rfl, _, rfl, ?_⟩
  refine ⟨by rw [sizeLine_eq]; show 2 ≤ 16777216; decide, fun t7 nn => ?_⟩
  generalize hG : upd G6 t7 _ = G7
  obtain ⟨s7, h7⟩ := same_of nn hG
  clear hG nn
  refine ⟨by rw [sizeLine_eq]; show 7 ≤ 16777216; decide, fun l8 nn => ?_⟩
  generalize hG : upd G7 l8 _ = G8
  obtain ⟨s8, h8⟩ := same_of nn hG
  clear hG nn
  refine ⟨_, rfl, ?_⟩
  refine ⟨_, rfl, _, rfl, ?_⟩
  refine ⟨by rw [sizeLine_eq]; show 3 ≤ 16777216; decide, fun t9 nn => ?_⟩
  generalize hG : upd G8 t9 _ = G9
  obtain ⟨s9, h9⟩ := same_of nn hG
  clear hG nn
  refine ⟨_, rfl, ?_⟩
  refine ⟨by rw [sizeLine_eq]; show 1 ≤ 16777216; decide, fun t10 nn => ?_⟩
  generalize hG : upd G9 t10 _ = G10
  obtain ⟨s10, h10⟩ := same_of nn hG
  clear hG nn
  refine ⟨_, rfl, _, rfl, ?_⟩
  refine ⟨by rw [sizeLine_eq]; show 2 ≤ 16777216; decide, fun l11 nn => ?_⟩
  generalize hG : upd G10 l11 _ = G11
  obtain ⟨s11, h11⟩ := same_of nn hG
  clear hG nn
  refine ⟨_, rfl, _, rfl, _, rfl, _, _, rfl, rfl, w2 ii, ?_⟩
  refine ⟨by rw [sizeLine_eq]; show 2 ≤ 16777216; decide, fun t12 nn => ?_⟩
  generalize hG : upd G11 t12 _ = G12
  obtain ⟨s12, h12⟩ := same_of nn hG
  clear hG nn
  refine ⟨_, rfl, ?_⟩
  refine ⟨by rw [sizeLine_eq]; show 2 ≤ 16777216; decide, fun t13 nn => ?_⟩
  generalize hG : upd G12 t13 _ = G13
  obtain ⟨s13, h13⟩ := same_of nn hG
  clear hG nn
  refine ⟨by rw [sizeLine_eq]; show 7 ≤ 16777216; decide, fun l14 nn => ?_⟩
  generalize hG : upd G13 l14 _ = G14
  obtain ⟨s14, h14⟩ := same_of nn hG
  clear hG nn
  refine ⟨l8, l14, _, _, rfl, rfl, same_tr s9 (same_tr s10 (same_tr s11 (same_tr s12 (same_tr s13 s14)))) _ _ h8, h14, by rw [sizeLine_eq]; show 14 ≤ 16777216; decide, fun l15 nn => ?_⟩
  generalize hG : upd G14 l15 _ = G15
  obtain ⟨s15, h15⟩ := same_of nn hG
  clear hG nn
  have S15_15 : Same G15 G15 := same_rf _
  have S14_15 : Same G14 G15 := s15
  have S13_15 : Same G13 G15 := same_tr s14 S14_15
  have S12_15 : Same G12 G15 := same_tr s13 S13_15
  have S11_15 : Same G11 G15 := same_tr s12 S12_15
  have S10_15 : Same G10 G15 := same_tr s11 S11_15
  have S9_15 : Same G9 G15 := same_tr s10 S10_15
  have S8_15 : Same G8 G15 := same_tr s9 S9_15
  have S7_15 : Same G7 G15 := same_tr s8 S8_15
  have S6_15 : Same G6 G15 := same_tr s7 S7_15
  have S5_15 : Same G5 G15 := same_tr s6 S6_15
  have S4_15 : Same G4 G15 := same_tr s5 S5_15
  have S3_15 : Same G3 G15 := same_tr s4 S4_15
  have S2_15 : Same G2 G15 := same_tr s3 S3_15
  have S1_15 : Same G1 G15 := same_tr s2 S2_15
  have S0_15 : Same G0 G15 := same_tr s1 S1_15
  have S15 : Same G0 G15 := S0_15
  have S0_1 : Same G0 G1 := s1
  have S0_2 : Same G0 G2 := same_tr S0_1 s2
  have S0_3 : Same G0 G3 := same_tr S0_2 s3
  have S0_4 : Same G0 G4 := same_tr S0_3 s4
  have S0_5 : Same G0 G5 := same_tr S0_4 s5
  have S0_6 : Same G0 G6 := same_tr S0_5 s6
  have S0_7 : Same G0 G7 := same_tr S0_6 s7
  have D15 := D.same S15
  refine ⟨_, rfl, _, rfl, p, c, _, _, rfl, D15, by omega, by decide, by decide, fun r HN r0 r1 DN KN _ => ?_⟩
  have hl : SqL K HN l15 _ := .of (KN _ _ h15 (D15.neL h15))
  have mv : ∀ {d : PyData} {x : V}, Dp K G15 x d → Dp K HN x d := fun h => dp_kp D15 KN h
  have KK : Kp p G0 HN := (kp_of S15).trans KN
  rcases (by omega : r = 0 ∨ r = 1 ∨ r = 2 ∨ r = 3 ∨ r = 4 ∨ r = 5 ∨ r = 6 ∨ r = 7 ∨ r = 8 ∨ r = 9 ∨ r = 10 ∨ r = 11 ∨ r = 12 ∨ r = 13) with z | z | z | z | z | z | z | z | z | z | z | z | z | z
  · subst z
    exact ⟨l15, _, 0, _, rfl, rfl, hl, rfl, fin _ (.tuple [.int i, .int j]) _ (DN.mono (by omega)) KK (mv (dp_same S1_15 (.tup (.of h1) (.cons (.int i) (.cons (.int j) .nil))))) (wh2 zi zj)⟩
  · subst z
    exact ⟨l15, _, 1, _, rfl, rfl, hl, rfl, fin _ (.tuple [.int i, .int (if j > 1 then j else 1)]) _ (DN.mono (by omega)) KK (mv (dp_same S2_15 (.tup (.of h2) (.cons (.int i) (.cons (.int _) .nil))))) (wh2 zi (mx jj))⟩
  · subst z
    exact ⟨l15, _, 2, _, rfl, rfl, hl, rfl, fin _ (.tuple [.int i, .int 1]) _ (DN.mono (by omega)) KK (mv (dp_same S3_15 (.tup (.of h3) (.cons (.int i) (.cons (.int 1) .nil))))) (wh2 zi (sm1 1 (by decide)))⟩
  · subst z
    exact ⟨l15, _, 3, _, rfl, rfl, hl, rfl, fin _ (.tuple [.int 1, .int j]) _ (DN.mono (by omega)) KK (mv (dp_same S4_15 (.tup (.of h4) (.cons (.int 1) (.cons (.int j) .nil))))) (wh2 (sm1 1 (by decide)) zj)⟩
  · subst z
    exact ⟨l15, _, 4, _, rfl, rfl, hl, rfl, fin _ (.tuple [.int 0, .int j]) _ (DN.mono (by omega)) KK (mv (dp_same S5_15 (.tup (.of h5) (.cons (.int 0) (.cons (.int j) .nil))))) (wh2 (sm1 0 (by decide)) zj)⟩
  · subst z
    exact ⟨l15, _, 5, _, rfl, rfl, hl, rfl, fin _ (.tuple [.int i, d]) _ (DN.mono (by omega)) KK (mv (dp_same S6_15 (.tup (.of h6) (.cons (.int i) (.cons (dp_same S0_6 hd) .nil))))) (wh_io zi o)⟩
  · subst z
    exact ⟨l15, _, 6, _, rfl, rfl, hl, rfl, fin _ (.tuple [d, .int j]) _ (DN.mono (by omega)) KK (mv (dp_same S7_15 (.tup (.of h7) (.cons (dp_same S0_7 hd) (.cons (.int j) .nil))))) (wh_oi zj o)⟩
  · subst z
    exact ⟨l15, _, 7, _, rfl, rfl, hl, rfl, fin _ (.tuple [.int i, .int j, .int 1]) _ (DN.mono (by omega)) KK (mv (dp_same S9_15 (.tup (.of h9) (.cons (.int i) (.cons (.int j) (.cons (.int 1) .nil)))))) (wh3 zi zj (sm1 1 (by decide)))⟩
  · subst z
    exact ⟨l15, _, 8, _, rfl, rfl, hl, rfl, fin _ (.tuple [.int i]) _ (DN.mono (by omega)) KK (mv (dp_same S10_15 (.tup (.of h10) (.cons (.int i) .nil)))) (wh1 zi)⟩
  · subst z
    exact ⟨l15, _, 9, _, rfl, rfl, hl, rfl, fin _ (.list [.int i, .int j]) _ (DN.mono (by omega)) KK (mv (dp_same S11_15 (.lst (.of h11) (.cons (.int i) (.cons (.int j) .nil))))) (whl zi zj)⟩
  · subst z
    exact ⟨l15, _, 10, _, rfl, rfl, hl, rfl, fin _ d _ (DN.mono (by omega)) KK (mv (dp_same S15 hd)) (wh_o o)⟩
  · subst z
    exact ⟨l15, _, 11, _, rfl, rfl, hl, rfl, fin _ (.int i) _ (DN.mono (by omega)) KK (.int i) (whi zi)⟩
  · subst z
    exact ⟨l15, _, 12, _, rfl, rfl, hl, rfl, fin _ (.tuple [.int (2 * i), .int 2]) _ (DN.mono (by omega)) KK (mv (dp_same S12_15 (.tup (.of h12) (.cons (.int (2 * i)) (.cons (.int 2) .nil))))) (wh2 (db ii) (sm1 2 (by decide)))⟩
  · subst z
    exact ⟨l15, _, 13, _, rfl, rfl, hl, rfl, fin _ (.tuple [.int j, .int 60]) _ (DN.mono (by omega)) KK (mv (dp_same S13_15 (.tup (.of h13) (.cons (.int j) (.cons (.int 60) .nil))))) (wh2 zj (sm1 60 (by decide)))⟩
theorem ok_thi {f : Addr} {fd : FuncData} (F : Fun K "_law_thing" "_law_thing" sThi f fd) (TL : TxtL mg) (TI : TxtI K mg fNx) (GN : FnG P w K mg base 2 fNx fdNx ["draw", "bound"] spNext) (bN : Binds K fdNx ["draw", "bound"] []) (cI : Cal P w K mg base "_law_integer" fIn fdIn 3 ["draw"] (bx spInt)) :
    FnG P w K mg base 4 f fd ["draw"] (spThi K) := by
  refine okG F scTh (fun vs H Q E h => ?_) (fun cdv A outer s H vs Q E hr hgd h => ?_)
  · obtain ⟨p, c, n, rfl, _⟩ := h
    rfl
  · obtain ⟨p, c, n, rfl, D, hn, kq⟩ := h
    obtain ⟨u, hu, ku⟩ := thing_tail (outer := outer) (s := s) (H := H) (Q := Q) (E := E) TL TI hr hgd GN bN
    refine ⟨_, pss_cons (ps_par (by rfl) scTh.nd (i := 1) (j := 2) rfl rfl (by decide) rfl rfl (pa_cons (pe_cal cI hr hgd (pa_cons (pv 0) pa_nil)) (pa_cons (pe_cal cI hr hgd (pa_cons (pv 0) pa_nil)) pa_nil)) (by rfl))
      (pss_cons (ps_set (i := 3) scTh.nd rfl (Or.inl rfl) (pe_ix ix_list (pe_lst (pa_cons pe_non (pa_cons pe_bl (pa_cons pe_bl (pa_cons pe_str (pa_cons (pe_tup (pa_cons pe_int pa_nil)) (pa_cons (pe_lst (pa_cons pe_int pa_nil)) (pa_cons pe_str (pa_cons (pe_tup pa_nil) pa_nil))))))))) (pe_callG (E := fun _ => E0) GN (hr.mono (by decide)) hgd rfl TI.gNx TI.kNx bN .nil pass0G (pa_cons (pv 0) (pa_cons pe_int pa_nil))) (fun _ _ => rfl)))
      (hu)), ?_⟩
    refine ⟨_, rfl, int_ok D (by omega) fun i H1 hi D1 K1 => ?_⟩
    refine ⟨_, rfl, int_ok D1 (by omega) fun j H2 hj D2 K2 => ?_⟩
    refine ⟨_, _, rfl, ?_⟩
    refine ⟨by rw [sizeLine_eq]; show 1 ≤ 16777216; decide, fun t3 nn => ?_⟩
    generalize hG : upd H2 t3 _ = H3
    obtain ⟨s3, h3⟩ := same_of nn hG
    clear hG nn
    refine ⟨by rw [sizeLine_eq]; show 1 ≤ 16777216; decide, fun l4 nn => ?_⟩
    generalize hG : upd H3 l4 _ = H4
    obtain ⟨s4, h4⟩ := same_of nn hG
    clear hG nn
    refine ⟨by rw [sizeLine_eq]; show 0 ≤ 16777216; decide, fun t5 nn => ?_⟩
    generalize hG : upd H4 t5 _ = H5
    obtain ⟨s5, h5⟩ := same_of nn hG
    clear hG nn
    refine ⟨by rw [sizeLine_eq]; show 8 ≤ 16777216; decide, fun l6 nn => ?_⟩
    generalize hG : upd H5 l6 _ = H6
    obtain ⟨s6, h6⟩ := same_of nn hG
    clear hG nn
    have S6 : Same H2 H6 := same_tr s3 (same_tr s4 (same_tr s5 s6))
    have D6 := D2.same S6
    refine ⟨_, rfl, p, c, _, _, rfl, D6, by omega, by decide, by decide, fun r H7 r0 r1 D7 K7 _ => ?_⟩
    have hl : SqL K H7 l6 _ := .of (K7 _ _ h6 (D6.neL h6))
    have mv : ∀ {d : PyData} {x : V}, Dp K H5 x d → Dp K H7 x d := fun h => dp_kp D6 K7 (dp_same s6 h)
    have KK : Kp p H H7 := (K1.trans K2).trans ((kp_of S6).trans K7)
    have go := fun (y : V) (d : PyData) (hy : Dp K H7 y d) (o : Od d) (z : Option V) => ku H7 p c _ i j y d z D7 (by omega) hi hj hy o fun x d' H' D' K' hx wh => kq x d' H' (D'.mono (by omega)) (KK.trans K') hx wh
    rcases (by omega : r = 0 ∨ r = 1 ∨ r = 2 ∨ r = 3 ∨ r = 4 ∨ r = 5 ∨ r = 6 ∨ r = 7) with z | z | z | z | z | z | z | z
    · subst z
      exact ⟨l6, _, 0, _, rfl, rfl, hl, rfl, go _ .none .non od_0 _⟩
    · subst z
      exact ⟨l6, _, 1, _, rfl, rfl, hl, rfl, go _ (.bool true) (.bl true) od_1 _⟩
    · subst z
      exact ⟨l6, _, 2, _, rfl, rfl, hl, rfl, go _ (.bool false) (.bl false) od_2 _⟩
    · subst z
      exact ⟨l6, _, 3, _, rfl, rfl, hl, rfl, go _ (.str (Str.ofString "1")) (.str _) od_3 _⟩
    · subst z
      exact ⟨l6, _, 4, _, rfl, rfl, hl, rfl, go _ (.tuple [.int 1]) (mv (dp_same (same_tr s4 s5) (.tup (.of h3) (.cons (.int 1) .nil)))) od_4 _⟩
    · subst z
      exact ⟨l6, _, 5, _, rfl, rfl, hl, rfl, go _ (.list [.int 1]) (mv (dp_same s5 (.lst (.of h4) (.cons (.int 1) .nil)))) od_5 _⟩
    · subst z
      exact ⟨l6, _, 6, _, rfl, rfl, hl, rfl, go _ (.str (Str.ofString "")) (.str _) od_6 _⟩
    · subst z
      exact ⟨l6, _, 7, _, rfl, rfl, hl, rfl, go _ (.tuple []) (mv (.tup (.of h5) .nil)) od_7 _⟩
end
end K2
set_option Elab.async false
set_option linter.all false
set_option maxRecDepth 100000
set_option maxHeartbeats 4000000
set_option exponentiation.threshold 100000
namespace K2
open PySem PySem.Spec PyProof.Rows L2 RmX Rm Mth
abbrev sTol : Stmt := top 26
abbrev sQuo : Stmt := top 27
abbrev sDue : Stmt := top 28
def swG : List Value → List Value → List Value
  | [], [u, v] => [v, u]
  | _, _ => []
def swV : List V → List V → List V
  | [], [u, v] => [v, u]
  | _, _ => []
theorem kb_swap {K : PySem.W.Frag} {fd : FuncData} {x y : Str} (h : ∀ u v : Value, bindArgs fd ⟨[], [(y, u), (x, v)]⟩ = pure [(x, v), (y, u)]) : KBinds K fd [x, y] [y, x] swG swV := by
  refine ⟨fun s us ws _ hl => ?_, fun {vs us zs ws} r r2 => ?_⟩
  · match us, ws, hl with
    | [], [], hl => cases hl
    | [], [_], hl => cases hl
    | [], _ :: _ :: _ :: _, hl => cases hl
    | [], [u, v], _ => exact BindsTo.of_eq (h u v)
    | _ :: _, [], hl => cases hl
    | _ :: _, [_], hl => cases hl
    | _ :: _, [_, _], hl => cases hl
    | _ :: _, _ :: _ :: _ :: _, hl => cases hl
  · cases r with
    | nil => cases r2 with
      | nil => exact .nil
      | cons a r2 => cases r2 with
        | nil => exact .nil
        | cons b r2 => cases r2 with
          | nil => exact .cons b (.cons a .nil)
          | cons c r2 => exact .nil
    | cons a r => cases r2 with
      | nil => exact .nil
      | cons a r2 => cases r2 with
        | nil => exact .nil
        | cons b r2 => cases r2 with
          | nil => exact .nil
          | cons c r2 => exact .nil
def onG : List Value → List Value → List Value
  | [], [u] => [u]
  | _, _ => []
def onV : List V → List V → List V
  | [], [u] => [u]
  | _, _ => []
theorem kb_one {K : PySem.W.Frag} {fd : FuncData} {x : Str} (h : ∀ u : Value, bindArgs fd ⟨[], [(x, u)]⟩ = pure [(x, u)]) : KBinds K fd [x] [x] onG onV := by
  refine ⟨fun s us ws _ hl => ?_, fun {vs us zs ws} r r2 => ?_⟩
  · match us, ws, hl with
    | [], [], hl => cases hl
    | [], [u], _ => exact BindsTo.of_eq (h u)
    | [], _ :: _ :: _, hl => cases hl
    | _ :: _, [], hl => cases hl
    | _ :: _, [_], hl => cases hl
    | _ :: _, _ :: _ :: _, hl => cases hl
  · cases r with
    | nil => cases r2 with
      | nil => exact .nil
      | cons a r2 => cases r2 with
        | nil => exact .cons a .nil
        | cons b r2 => exact .nil
    | cons a r => cases r2 with
      | nil => exact .nil
      | cons a r2 => cases r2 with
        | nil => exact .nil
        | cons b r2 => exact .nil

theorem sw_rel {vs : List V} {us : List Value} {zs : List V} {ws : List Value} (r : Vals vs us) (r2 : Vals zs ws) : Vals (swV vs zs) (swG us ws) := by
  cases r with
  | nil => cases r2 with
    | nil => exact .nil
    | cons a r2 => cases r2 with
      | nil => exact .nil
      | cons b r2 => cases r2 with
        | nil => exact .cons b (.cons a .nil)
        | cons c r2 => exact .nil
  | cons a r => cases r2 with
    | nil => exact .nil
    | cons a r2 => cases r2 with
      | nil => exact .nil
      | cons b r2 => cases r2 with
        | nil => exact .nil
        | cons c r2 => exact .nil
theorem kb_swapL {K : PySem.W.Frag} {fd : FuncData} {x y : Str} (h : ∀ (s : Shared) (u v : Value), K.In s.heap → BindsTo s fd ⟨[], [(y, u), (x, v)]⟩ [(x, v), (y, u)]) : KBinds K fd [x, y] [y, x] swG swV := by
  refine ⟨fun s us ws hk hl => ?_, fun r r2 => sw_rel r r2⟩
  match us, ws, hl with
  | [], [], hl => cases hl
  | [], [_], hl => cases hl
  | [], _ :: _ :: _ :: _, hl => cases hl
  | [], [u, v], _ => exact h s u v hk
  | _ :: _, [], hl => cases hl
  | _ :: _, [_], hl => cases hl
  | _ :: _, [_, _], hl => cases hl
  | _ :: _, _ :: _ :: _ :: _, hl => cases hl
structure TxtW (K : PySem.W.Frag) (mg : Str → Option Value) (C cP cS cM : Addr) : Prop where
  gP : mg "PaceError" = some (.ref cP)
  gS : mg "StateError" = some (.ref cS)
  gM : mg "MissingError" = some (.ref cM)
  exm : PySem.W.exmAny K (.ref C) [.ref cP, .ref cS, .ref cM] = some true
  kit : PySem.W.kitOne K (.ref C) (.ref C) = some true
def tld : PyData → PyData
  | .tuple [.int a, .int b] => if isN (.tuple [.int a, .int b]) = true then .list [.str (Str.ofString "text"), .str (txtOf a b)] else .list [.str (Str.ofString "number"), .tuple [.int a, .int b]]
  | d => .list [.str (Str.ofString "number"), d]
theorem tld_eq (a b : Int) : tld (.tuple [.int a, .int b]) = if isN (.tuple [.int a, .int b]) = true then .list [.str (Str.ofString "text"), .str (txtOf a b)] else .list [.str (Str.ofString "number"), .tuple [.int a, .int b]] := rfl
theorem tld_or (d : PyData) : (∃ a b, d = .tuple [.int a, .int b]) ∨ tld d = .list [.str (Str.ofString "number"), d] := by
  match d with
  | .none => exact .inr rfl
  | .bool _ => exact .inr rfl
  | .int _ => exact .inr rfl
  | .str _ => exact .inr rfl
  | .list _ => exact .inr rfl
  | .dict _ => exact .inr rfl
  | .tuple [] => exact .inr rfl
  | .tuple [x] => exact .inr (by cases x <;> rfl)
  | .tuple (x :: y :: z :: r) => exact .inr (by cases x <;> cases y <;> rfl)
  | .tuple [x, y] => cases x <;> cases y <;> first | exact .inl ⟨_, _, rfl⟩ | exact .inr rfl
theorem tld_no {d : PyData} (h : isN d = false) : tld d = .list [.str (Str.ofString "number"), d] := by
  rcases tld_or d with ⟨a, b, rfl⟩ | h2
  · rw [tld_eq, h]
    rfl
  · exact h2
theorem tld_yes {a b : Int} (h : isN (.tuple [.int a, .int b]) = true) : tld (.tuple [.int a, .int b]) = .list [.str (Str.ofString "text"), .str (txtOf a b)] := by
  rw [tld_eq, h]
  rfl
def quo : PyData → PyData → PyData
  | .int a, .int b => if b = 0 then .list [.str (Str.ofString "number"), .tuple [.int a, .int b]] else .list [.str (Str.ofString "made"), .tuple [.int (nrm a b).1, .int (nrm a b).2]]
  | d, e => .list [.str (Str.ofString "number"), .tuple [d, e]]
theorem quo_eq (a b : Int) : quo (.int a) (.int b) = if b = 0 then .list [.str (Str.ofString "number"), .tuple [.int a, .int b]] else .list [.str (Str.ofString "made"), .tuple [.int (nrm a b).1, .int (nrm a b).2]] := rfl
theorem quo_cases (d e : PyData) : (∃ a b, d = .int a ∧ e = .int b ∧ b ≠ 0) ∨ ((isI d = false ∨ isI e = false ∨ e = .int 0) ∧ quo d e = .list [.str (Str.ofString "number"), .tuple [d, e]]) := by
  cases hd : isI d with
  | false =>
    refine .inr ⟨.inl rfl, ?_⟩
    cases d <;> first | rfl | cases hd
  | true =>
    obtain ⟨a, rfl⟩ := isI_int hd
    cases he : isI e with
    | false =>
      refine .inr ⟨.inr (.inl rfl), ?_⟩
      cases e <;> first | rfl | cases he
    | true =>
      obtain ⟨b, rfl⟩ := isI_int he
      rcases Int.decEq b 0 with z | z
      · exact .inl ⟨a, b, rfl, rfl, z⟩
      · subst z
        exact .inr ⟨.inr (.inr rfl), by rw [quo_eq, if_pos rfl]⟩
structure Qd (d : PyData) : Prop where
  bd : ∀ a, d = .int a → a.natAbs < 2 ^ 1500
  sh : d.showable = true
  nd : d.hasDict = false
  dp : d.depth ≤ 3
  ct : cst d ≤ 5000
theorem fit_of2 {d : PyData} (h1 : d.showable = true) (h2 : d.hasDict = false) (h3 : d.depth ≤ 8) (h4 : cst d ≤ 50000) : Fit d := fit_of h1 h2 (by omega) (by omega)
theorem len_n : (reprText (Str.ofString "number")).length = 8 := by decide +kernel
theorem len_m : (reprText (Str.ofString "made")).length = 6 := by decide +kernel
theorem fit_tup {d e : PyData} (a : Qd d) (b : Qd e) : Fit (.tuple [d, e]) := by
  have h1 := a.sh; have h2 := b.sh; have h3 := a.nd; have h4 := b.nd; have h5 := a.dp; have h6 := b.dp; have h7 := a.ct; have h8 := b.ct
  refine fit_of2 ?_ ?_ ?_ ?_
  · simp only [PyData.showable, PyData.showableAll, h1, h2]; rfl
  · simp only [PyData.hasDict, PyData.hasDictAll, h3, h4]; rfl
  · simp only [PyData.depth, PyData.depthAll]; omega
  · simp only [cst, cstAll]; omega
theorem fit_quo {d e : PyData} (a : Qd d) (b : Qd e) : Fit (quo d e) := by
  rcases quo_cases d e with ⟨i, j, rfl, rfl, hj⟩ | ⟨_, h⟩
  · rw [quo_eq, if_neg hj]
    have S := nrm_spec (a := i) hj
    have z1 := sh_i (Nat.lt_of_le_of_lt S.la (a.bd i rfl))
    have z2 := sh_i (Nat.lt_of_le_of_lt S.lb (b.bd j rfl))
    refine fit_of2 ?_ ?_ ?_ ?_
    · simp only [PyData.showable, PyData.showableAll] at z1 z2 ⊢
      simp [z1, z2]
    · simp [PyData.hasDict, PyData.hasDictAll]
    · simp [PyData.depth, PyData.depthAll]
    · have := len_m
      simp only [cst, cstAll]; omega
  · rw [h]
    have h1 := a.sh; have h2 := b.sh; have h3 := a.nd; have h4 := b.nd; have h5 := a.dp; have h6 := b.dp; have h7 := a.ct; have h8 := b.ct
    refine fit_of2 ?_ ?_ ?_ ?_
    · simp only [PyData.showable, PyData.showableAll, h1, h2]; rfl
    · simp only [PyData.hasDict, PyData.hasDictAll, h3, h4]; rfl
    · simp only [PyData.depth, PyData.depthAll]; omega
    · have := len_n
      simp only [cst, cstAll]; omega
theorem Wh.fit {d : PyData} (a : Wh d) : Fit d := fit_of2 a.sh a.nd (by have := a.dp; omega) (by have := a.ct; omega)
theorem Wh.fit2 {d : PyData} (a : Wh d) : Fit (.list [.str (Str.ofString "number"), d]) := by
  have h1 := a.sh; have h3 := a.nd; have h5 := a.dp; have h7 := a.ct
  refine fit_of2 ?_ ?_ ?_ ?_
  · simp only [PyData.showable, PyData.showableAll, h1]; rfl
  · simp only [PyData.hasDict, PyData.hasDictAll, h3]; rfl
  · simp only [PyData.depth, PyData.depthAll]; omega
  · have := len_n
    simp only [cst, cstAll]; omega
def spTol (K : PySem.W.Frag) : Sp := fun vs H Q _ => ∃ x d, vs = [x] ∧ Dp K H x d ∧ Wh d ∧ ∀ l H', Same H H' → Dp K H' (.ref l) (tld d) → Q (.ref l) H'
def spQuo (K : PySem.W.Frag) : Sp := fun vs H Q _ => ∃ x y d e, vs = [x, y] ∧ Dp K H x d ∧ Dp K H y e ∧ Qd d ∧ Qd e ∧ ∀ l H', Same H H' → Dp K H' (.ref l) (quo d e) → Q (.ref l) H'
section
variable {P : Program} {w : World} {K : PySem.W.Frag} {mg : Str → Option Value} {base : Heap} {C fI fNum fIsI fIsN fChk fX fLI fDv cP cS cM : Addr} {fdX fdLI fdDv : FuncData}
theorem scTo : FnScope ["what", "caught", "found", "e"] ["what"] (defScope sTol) := ⟨rfl, rfl, rfl, by decide +kernel, rfl, by decide +kernel, by decide +kernel⟩
theorem ok_tol {f : Addr} {fd : FuncData} (F : Fun K "_law_told" "_law_told" sTol f fd) (T : TxtN P K mg C fI fNum fIsI fIsN fChk) (W : TxtW K mg C cP cS cM) (cX : Cal P w K mg base "number_text" fX fdX 4 ["value"] (spTxt K C)) (kX : KBinds K fdX ["value"] ["value"] onG onV) :
    FnG P w K mg base 5 f fd ["what"] (spTol K) := by
  refine okG F scTo (fun vs H Q E h => ?_) (fun cdv A outer s H vs Q E hr hgd h => ?_)
  · obtain ⟨x, d, rfl, _⟩ := h
    rfl
  · obtain ⟨x, d, rfl, hd, wh, fin⟩ := h
    refine ⟨_, pss_cons (ps_asg (pe_tup (pa_cons pe_non (pa_cons pe_non pa_nil))) (pg_tup rfl (pgs_cons (pg_name (i := 1) scTo.nd rfl (Or.inl rfl)) (pgs_cons (pg_name (i := 2) scTo.nd rfl (Or.inl rfl)) pgs_nil))))
      (pss_cons (ps_try_keep (i := 3) (c1 := cP) (c2 := cS) (c3 := cM) rfl rfl scTo.nd rfl rfl rfl ⟨rfl, by decide, .inl W.gP⟩ ⟨rfl, by decide, .inl W.gS⟩ ⟨rfl, by decide, .inl W.gM⟩
        (fun W' pn xe tk po => pss_one (ps_set (i := 2) scTo.nd rfl (Or.inl rfl) (pe_callKG (E := WE W') cX.fn hr hgd rfl cX.g cX.k kX (fun σ => passAt tk σ) (pk_cons (pv 0) pk_nil))))
        (fun a oe pn => pss_one (ps_set (i := 1) scTo.nd rfl (Or.inl rfl) (pv 3))))
      (pss_cons (ps_if (pt_cmpR op_isN (pv 1) pe_non (nomark _)) (pss_one (ps_ret (pe_lst (pa_cons pe_str (pa_cons (pv 2) pa_nil))))) pss_nil)
      (pss_one (ps_ret (pe_ifExp (pt_val (pe_callB call_isX (by rfl) T.isi (by decide +kernel) (pa_cons (pv 1) (pa_cons (pe_glob (v := .ref C) rfl T.gC rfl) pa_nil)))) (pe_lst (pa_cons pe_str (pa_cons (pe_exf (pv 1)) pa_nil))) (pe_lst (pa_cons pe_str pa_nil))))))), ?_⟩
    generalize hH : H = HA at hd fin ⊢
    clear hH
    refine ⟨by rw [sizeLine_eq]; show 2 ≤ 16777216; decide, fun ta nn => ?_⟩
    generalize hG : upd HA ta _ = HB
    obtain ⟨sB, hB⟩ := same_of nn hG
    clear hG nn
    refine ⟨ta, _, rfl, .of hB, rfl, _, _, rfl, _, _, rfl, rfl, ?_⟩
    replace hd := dp_same sB hd
    have fin := fun l H' (s' : Same HB H') => fin l H' (same_tr sB s')
    clear hB sB
    generalize hH : HB = H at hd fin ⊢
    clear hH
    refine ⟨_, rfl, x, d, rfl, hd, fun hn => ⟨wh.fit, fun dx ndx => ?_⟩, fun a b ed hn => ?_⟩
    refine ⟨W.exm, C, dx, rfl, rfl, fun a na => ?_⟩
    refine ⟨_, rfl, na, ?_⟩
    generalize hG : upd H dx _ = H1 at na ⊢
    obtain ⟨s1, h1⟩ := same_of ndx hG
    clear hG
    generalize hG : upd H1 a _ = H2
    obtain ⟨s2, h2⟩ := same_of na hG
    clear hG
    have h1' := s2 _ _ h1
    refine ⟨_, rfl, rfl, _, rfl, ?_⟩
    refine ite2 (fun z => V.noConfusion (of_decide_eq_true z)) (fun _ => ?_)
    refine ⟨_, rfl, a, C, dx, fI, _, _, _, _, _, _, _, true, rfl, T.ex, h2, ⟨_, h1'⟩, .own C, W.kit, _, rfl, iteT ?_⟩
    refine ⟨_, rfl, a, C, dx, fI, _, _, _, _, _, rfl, T.ex, h2, h1', ?_⟩
    refine ⟨by rw [sizeLine_eq]; show 2 ≤ 16777216; decide, fun l nn => ?_⟩
    generalize hG : upd H2 l _ = H3
    obtain ⟨s3, h3⟩ := same_of nn hG
    clear hG nn
    refine fin l H3 (same_tr s1 (same_tr s2 s3)) ?_
    rw [tld_no hn]
    exact .lst (.of h3) (.cons (.str _) (.cons (dp_same (same_tr s1 (same_tr s2 s3)) hd) .nil))
    subst ed
    obtain ⟨za, zb⟩ := wh.sz a b rfl
    refine ⟨za, zb, ?_⟩
    refine ⟨_, rfl, rfl, _, rfl, iteT ?_⟩
    refine ⟨_, rfl, ?_⟩
    refine ⟨by rw [sizeLine_eq]; show 2 ≤ 16777216; decide, fun l nn => ?_⟩
    generalize hG : upd H l _ = H3
    obtain ⟨s3, h3⟩ := same_of nn hG
    clear hG nn
    refine fin l H3 s3 ?_
    rw [tld_yes hn]
    exact .lst (.of h3) (.cons (.str _) (.cons (.str _) .nil))
theorem scQu : FnScope ["one", "other", "caught", "found", "e"] ["one", "other"] (defScope sQuo) := ⟨rfl, rfl, rfl, by decide +kernel, rfl, by decide +kernel, by decide +kernel⟩
theorem ok_quo {f : Addr} {fd : FuncData} (F : Fun K "_law_quotient" "_law_quotient" sQuo f fd) (T : TxtN P K mg C fI fNum fIsI fIsN fChk) (W : TxtW K mg C cP cS cM) (cX : Cal P w K mg base "number" fX fdX 2 ["above", "below"] (spNum K C)) (kX : KBinds K fdX ["above", "below"] ["below", "above"] swG swV) :
    FnG P w K mg base 3 f fd ["one", "other"] (spQuo K) := by
  refine okG F scQu (fun vs H Q E h => ?_) (fun cdv A outer s H vs Q E hr hgd h => ?_)
  · obtain ⟨x, y, d, e, rfl, _⟩ := h
    rfl
  · obtain ⟨x, y, d, e, rfl, hd, he, qd, qe, fin⟩ := h
    refine ⟨_, pss_cons (ps_asg (pe_tup (pa_cons pe_non (pa_cons pe_non pa_nil))) (pg_tup rfl (pgs_cons (pg_name (i := 2) scQu.nd rfl (Or.inl rfl)) (pgs_cons (pg_name (i := 3) scQu.nd rfl (Or.inl rfl)) pgs_nil))))
      (pss_cons (ps_try_keep (i := 4) (c1 := cP) (c2 := cS) (c3 := cM) rfl rfl scQu.nd rfl rfl rfl ⟨rfl, by decide, .inl W.gP⟩ ⟨rfl, by decide, .inl W.gS⟩ ⟨rfl, by decide, .inl W.gM⟩
        (fun W' pn xe tk po => pss_one (ps_set (i := 3) scQu.nd rfl (Or.inl rfl) (pe_callKG (E := WE W') cX.fn hr hgd rfl cX.g cX.k kX (fun σ => passAt tk σ) (pk_cons (pv 1) (pk_cons (pv 0) pk_nil)))))
        (fun a oe pn => pss_one (ps_set (i := 2) scQu.nd rfl (Or.inl rfl) (pv 4))))
      (pss_cons (ps_if (pt_cmpR op_isN (pv 2) pe_non (nomark _)) (pss_one (ps_ret (pe_lst (pa_cons pe_str (pa_cons (pv 3) pa_nil))))) pss_nil)
      (pss_one (ps_ret (pe_ifExp (pt_val (pe_callB call_isX (by rfl) T.isi (by decide +kernel) (pa_cons (pv 2) (pa_cons (pe_glob (v := .ref C) rfl T.gC rfl) pa_nil)))) (pe_lst (pa_cons pe_str (pa_cons (pe_exf (pv 2)) pa_nil))) (pe_lst (pa_cons pe_str pa_nil))))))), ?_⟩
    generalize hH : H = HA at hd he fin ⊢
    clear hH
    refine ⟨by rw [sizeLine_eq]; show 2 ≤ 16777216; decide, fun ta nn => ?_⟩
    generalize hG : upd HA ta _ = HB
    obtain ⟨sB, hB⟩ := same_of nn hG
    clear hG nn
    refine ⟨ta, _, rfl, .of hB, rfl, _, _, rfl, _, _, rfl, rfl, ?_⟩
    replace hd := dp_same sB hd
    replace he := dp_same sB he
    have fin := fun l H' (s' : Same HB H') => fin l H' (same_tr sB s')
    clear hB sB
    generalize hH : HB = H at hd he fin ⊢
    clear hH
    refine ⟨_, rfl, _, rfl, x, y, d, e, rfl, hd, he, fun a b ed ee hb => ?_, fun hbad => ⟨fit_tup qd qe, fun t nt dx ndx => ?_⟩⟩
    · subst ed ee
      have big : ∀ {k : Nat}, k < 2 ^ 1500 → k < 2 ^ 8000 := fun h => Nat.lt_trans h (Nat.pow_lt_pow_right (by decide) (by decide))
      refine ⟨big (qd.bd a rfl), big (qe.bd b rfl), fun t nt => ?_⟩
      generalize hG : upd H t _ = H2
      obtain ⟨s2, h2⟩ := same_of nt hG
      clear hG
      refine ⟨_, rfl, rfl, _, rfl, iteT ?_⟩
      refine ⟨_, rfl, ?_⟩
      refine ⟨by rw [sizeLine_eq]; show 2 ≤ 16777216; decide, fun l nn => ?_⟩
      generalize hG : upd H2 l _ = H3
      obtain ⟨s3, h3⟩ := same_of nn hG
      clear hG nn
      refine fin l H3 (same_tr s2 s3) ?_
      rw [quo_eq, if_neg hb]
      exact .lst (.of h3) (.cons (.str _) (.cons (dp_mk (.of (s3 _ _ h2))) .nil))
    · generalize hG : upd H t _ = H0 at ndx ⊢
      obtain ⟨s0, h0⟩ := same_of nt hG
      clear hG
      refine ⟨W.exm, C, dx, rfl, rfl, fun a na => ?_⟩
      refine ⟨_, rfl, na, ?_⟩
      generalize hG : upd H0 dx _ = H1 at na ⊢
      obtain ⟨s1, h1⟩ := same_of ndx hG
      clear hG
      generalize hG : upd H1 a _ = H2
      obtain ⟨s2, h2⟩ := same_of na hG
      clear hG
      have h1' := s2 _ _ h1
      refine ⟨_, rfl, rfl, _, rfl, ?_⟩
      refine ite2 (fun z => V.noConfusion (of_decide_eq_true z)) (fun _ => ?_)
      refine ⟨_, rfl, a, C, dx, fI, _, _, _, _, _, _, _, true, rfl, T.ex, h2, ⟨_, h1'⟩, .own C, W.kit, _, rfl, iteT ?_⟩
      refine ⟨_, rfl, a, C, dx, fI, _, _, _, _, _, rfl, T.ex, h2, h1', ?_⟩
      refine ⟨by rw [sizeLine_eq]; show 2 ≤ 16777216; decide, fun l nn => ?_⟩
      generalize hG : upd H2 l _ = H3
      obtain ⟨s3, h3⟩ := same_of nn hG
      clear hG nn
      have S := same_tr s0 (same_tr s1 (same_tr s2 s3))
      refine fin l H3 S ?_
      rcases quo_cases d e with ⟨i, j, rfl, rfl, hj⟩ | ⟨_, eq⟩
      · rcases hbad with z | z | z
        · cases z
        · cases z
        · injection z with z
          exact absurd z hj
      · rw [eq]
        exact .lst (.of h3) (.cons (.str _) (.cons (.tup (.of (same_tr s1 (same_tr s2 s3) _ _ h0)) (.cons (dp_same S hd) (.cons (dp_same S he) .nil))) .nil))
theorem scDu : FnScope ["one", "other", "divisor"] ["one", "other"] (defScope sDue) := ⟨rfl, rfl, rfl, by decide +kernel, rfl, by decide +kernel, by decide +kernel⟩
theorem ok_due {f : Addr} {fd : FuncData} (F : Fun K "_law_due" "_law_due" sDue f fd) (cLI : Cal P w K mg base "_law_is_integer" fLI fdLI 1 ["what"] (spIsI K)) (cDv : Cal P w K mg base "_law_divisor" fDv fdDv 1 ["one", "other"] spDvs) :
    FnG P w K mg base 2 f fd ["one", "other"] (spQuo K) := by
  refine okG F scDu (fun vs H Q E h => ?_) (fun cdv A outer s H vs Q E hr hgd h => ?_)
  · obtain ⟨x, y, d, e, rfl, _⟩ := h
    rfl
  · obtain ⟨x, y, d, e, rfl, hd, he, qd, qe, fin⟩ := h
    refine ⟨_, pss_cons (ps_if (PW.pt (pw_or (pt_not (pt_val (pe_cal cLI hr hgd (pa_cons (pv 0) pa_nil)))) (pw_or (pt_not (pt_val (pe_cal cLI hr hgd (pa_cons (pv 1) pa_nil)))) (pw_or1 (pt_cmpR op_eq (pv 1) pe_int (nomark _)))))) (pss_one (ps_ret (pe_lst (pa_cons pe_str (pa_cons (pe_tup (pa_cons (pv 0) (pa_cons (pv 1) pa_nil))) pa_nil))))) pss_nil)
      (pss_cons (ps_set (i := 2) scDu.nd rfl (Or.inl rfl) (pe_ifExp (pt_cmpR op_gt (pv 1) pe_int (nomark _)) (pe_cal cDv hr hgd (pa_cons (pv 0) (pa_cons (pv 1) pa_nil))) (pe_op op_sub pe_int (pe_cal cDv hr hgd (pa_cons (pv 0) (pa_cons (pv 1) pa_nil))))))
      (pss_one (ps_ret (pe_lst (pa_cons pe_str (pa_cons (pe_tup (pa_cons (pe_op op_fdivZ (pv 0) (pv 2)) (pa_cons (pe_op op_fdivZ (pv 1) (pv 2)) pa_nil))) pa_nil)))))), ?_⟩
    have bad : quo d e = .list [.str (Str.ofString "number"), .tuple [d, e]] → ∀ t H2, Same H H2 → H2 t = some (.tup [x, y]) → ∀ l H3, Same H2 H3 → H3 l = some (.lst [V.str (Str.ofString "number"), .ref t]) → Q (.ref l) H3 := by
      intro eq t H2 s2 h2 l H3 s3 h3
      have S := same_tr s2 s3
      refine fin l H3 S ?_
      rw [eq]
      exact .lst (.of h3) (.cons (.str _) (.cons (.tup (.of (s3 _ _ h2)) (.cons (dp_same S hd) (.cons (dp_same S he) .nil))) .nil))
    refine ⟨_, rfl, x, d, rfl, hd, _, rfl, ?_⟩
    rcases quo_cases d e with ⟨i, j, rfl, rfl, hj⟩ | ⟨hb, eq⟩
    · refine iteF ⟨_, rfl, y, _, rfl, he, _, rfl, iteF ?_⟩
      cases hd
      cases he
      refine ⟨_, rfl, rfl, _, rfl, ?_⟩
      refine ite2 (fun z => absurd (of_decide_eq_true z) (fun z => hj (by injection z))) (fun _ => ?_)
      have zi := qd.bd i rfl
      have zj := qe.bd j rfl
      have big : ∀ {k : Nat}, k < 2 ^ 1500 → k < 2 ^ 8000 := fun h => Nat.lt_trans h (Nat.pow_lt_pow_right (by decide) (by decide))
      have h1 := shr_ne (a := i) hj
      have h2 := shr_log (a := i) hj (big zj)
      have K2 : ∀ (k : Int) (H2 : Hp), k = shr i j → Same H H2 → ∀ t H3, Same H2 H3 → H3 t = some (.tup [V.int (i.fdiv k), V.int (j.fdiv k)]) → ∀ l H4, Same H3 H4 → H4 l = some (.lst [V.str (Str.ofString "made"), .ref t]) → Q (.ref l) H4 := by
        intro k H2 ek s2 t H3 s3 h3 l H4 s4 h4
        subst ek
        refine fin l H4 (same_tr s2 (same_tr s3 s4)) ?_
        rw [quo_eq, if_neg hj]
        exact .lst (.of h4) (.cons (.str _) (.cons (dp_mk (.of (s4 _ _ h3))) .nil))
      refine ⟨_, rfl, _, _, rfl, rfl, _, rfl, ?_⟩
      refine ite2 (fun hg => ?_) (fun hg => ?_)
      · have hlt : 0 < j := of_decide_eq_true hg
        refine ⟨_, rfl, _, rfl, i, j, rfl, zi, zj, fun H2 s2 => ?_⟩
        have es : ((Nat.gcd i.natAbs j.natAbs : Nat) : Int) = shr i j := (if_neg (by omega)).symm
        rw [es]
        refine ⟨_, rfl, _, rfl, _, _, rfl, rfl, ⟨h1, h2⟩, _, rfl, _, rfl, _, _, rfl, rfl, ⟨h1, h2⟩, ?_⟩
        refine ⟨by rw [sizeLine_eq]; show 2 ≤ 16777216; decide, fun t nn => ?_⟩
        generalize hG : upd H2 t _ = H3
        obtain ⟨s3, h3⟩ := same_of nn hG
        clear hG nn
        refine ⟨by rw [sizeLine_eq]; show 2 ≤ 16777216; decide, fun l nn => ?_⟩
        generalize hG : upd H3 l _ = H4
        obtain ⟨s4, h4⟩ := same_of nn hG
        clear hG nn
        exact K2 _ H2 rfl s2 t H3 s3 h3 l H4 s4 h4
      · have hlt : j < 0 := by
          have : ¬ (0 : Int) < j := fun z => hg (decide_eq_true z)
          omega
        refine ⟨_, rfl, _, rfl, i, j, rfl, zi, zj, fun H2 s2 => ?_⟩
        refine ⟨_, _, rfl, rfl, ?_⟩
        have es : (0 : Int) - ((Nat.gcd i.natAbs j.natAbs : Nat) : Int) = shr i j := by
          have : shr i j = -((Nat.gcd i.natAbs j.natAbs : Nat) : Int) := if_pos hlt
          omega
        have hc : (0 : Int) - ((Nat.gcd i.natAbs j.natAbs : Nat) : Int) ≠ 0 ∧ ((0 : Int) - ((Nat.gcd i.natAbs j.natAbs : Nat) : Int)).natAbs.log2 < 9000 := by
          rw [es]
          exact ⟨h1, h2⟩
        refine ⟨_, rfl, _, rfl, _, _, rfl, rfl, hc, _, rfl, _, rfl, _, _, rfl, rfl, hc, ?_⟩
        refine ⟨by rw [sizeLine_eq]; show 2 ≤ 16777216; decide, fun t nn => ?_⟩
        generalize hG : upd H2 t _ = H3
        obtain ⟨s3, h3⟩ := same_of nn hG
        clear hG nn
        refine ⟨by rw [sizeLine_eq]; show 2 ≤ 16777216; decide, fun l nn => ?_⟩
        generalize hG : upd H3 l _ = H4
        obtain ⟨s4, h4⟩ := same_of nn hG
        clear hG nn
        exact K2 _ H2 es s2 t H3 s3 h3 l H4 s4 h4
    · cases ed : isI d with
      | false =>
        refine iteT (iteT ⟨_, rfl, _, rfl, ?_⟩)
        refine ⟨by rw [sizeLine_eq]; show 2 ≤ 16777216; decide, fun t nn => ?_⟩
        generalize hG : upd H t _ = H2
        obtain ⟨s2, h2⟩ := same_of nn hG
        clear hG nn
        refine ⟨by rw [sizeLine_eq]; show 2 ≤ 16777216; decide, fun l nn => ?_⟩
        generalize hG : upd H2 l _ = H3
        obtain ⟨s3, h3⟩ := same_of nn hG
        clear hG nn
        exact bad eq t H2 s2 h2 l H3 s3 h3
      | true =>
        refine iteF ⟨_, rfl, y, e, rfl, he, _, rfl, ?_⟩
        cases ee : isI e with
        | false =>
          refine iteT (iteT ⟨_, rfl, _, rfl, ?_⟩)
          refine ⟨by rw [sizeLine_eq]; show 2 ≤ 16777216; decide, fun t nn => ?_⟩
          generalize hG : upd H t _ = H2
          obtain ⟨s2, h2⟩ := same_of nn hG
          clear hG nn
          refine ⟨by rw [sizeLine_eq]; show 2 ≤ 16777216; decide, fun l nn => ?_⟩
          generalize hG : upd H2 l _ = H3
          obtain ⟨s3, h3⟩ := same_of nn hG
          clear hG nn
          exact bad eq t H2 s2 h2 l H3 s3 h3
        | true =>
          have e0 : e = .int 0 := by
            rcases hb with z | z | z
            · rw [ed] at z; cases z
            · rw [ee] at z; cases z
            · exact z
          subst e0
          cases he
          refine iteF ⟨_, rfl, rfl, _, rfl, ?_⟩
          refine iteT ⟨_, rfl, _, rfl, ?_⟩
          refine ⟨by rw [sizeLine_eq]; show 2 ≤ 16777216; decide, fun t nn => ?_⟩
          generalize hG : upd H t _ = H2
          obtain ⟨s2, h2⟩ := same_of nn hG
          clear hG nn
          refine ⟨by rw [sizeLine_eq]; show 2 ≤ 16777216; decide, fun l nn => ?_⟩
          generalize hG : upd H2 l _ = H3
          obtain ⟨s3, h3⟩ := same_of nn hG
          clear hG nn
          exact bad eq t H2 s2 h2 l H3 s3 h3
end
end K2
set_option Elab.async false
set_option linter.all false
set_option maxRecDepth 100000
set_option maxHeartbeats 4000000
set_option exponentiation.threshold 100000
namespace K2
open PySem PySem.Spec PyProof.Rows L2 RmX Rm Mth
abbrev sRig : Stmt := top 29
abbrev nR : List Str := ["what", "due", "got", "named", "is_zero", "text"]
theorem scRi : FnScope nR ["what"] (defScope sRig) := ⟨rfl, rfl, rfl, by decide +kernel, rfl, by decide +kernel, by decide +kernel⟩
structure Cals (P : Program) (w : World) (K : PySem.W.Frag) (mg : Str → Option Value) (base : Heap) (C aLN aWi aNu aFa aLe aPa aTo aNb : Addr) (dLN dWi dNu dFa dLe dPa dTo dNb : FuncData) : Prop where
  ln : Cal P w K mg base "_law_is_number" aLN dLN 2 ["what"] (bx (spLN K))
  wi : Cal P w K mg base "_law_is_within" aWi dWi 3 ["what", "top", "bottom"] (bx (spWit K))
  nu : Cal P w K mg base "is_number" aNu dNu 2 ["thing"] (spIsN K)
  fa : Cal P w K mg base "is_factor" aFa dFa 4 ["thing"] (spB K (isW 60 60))
  le : Cal P w K mg base "is_length" aLe dLe 4 ["thing"] (spB K (isW 999999 999))
  pa : Cal P w K mg base "is_pace" aPa dPa 5 ["thing"] (spB K fun d => isW 60 60 d || isZ d)
  to : Cal P w K mg base "_law_told" aTo dTo 5 ["what"] (bx (spTol K))
  nb : Cal P w K mg base "number" aNb dNb 2 ["above", "below"] (spNum K C)
  knu : KBinds K dNu ["thing"] ["thing"] onG onV
  kfa : KBinds K dFa ["thing"] ["thing"] onG onV
  kle : KBinds K dLe ["thing"] ["thing"] onG onV
  kpa : KBinds K dPa ["thing"] ["thing"] onG onV
theorem ln_ok {K : PySem.W.Frag} {H : Hp} {x : V} {d : PyData} {Q : VK} {E : XK} (hd : Dp K H x d) (sz : Sz d) (h : ∀ H', Same H H' → Q (.bl (isN d)) H') : Bx (spLN K [x] H Q E) := ⟨⟨x, d, rfl, hd, sz, h⟩⟩
theorem wi_ok {K : PySem.W.Frag} {H : Hp} {x : V} {d : PyData} {t u : Int} {Q : VK} {E : XK} (hd : Dp K H x d) (sz : Sz d) (h : ∀ H', Same H H' → Q (.bl (isW t u d)) H') : Bx (spWit K [x, .int t, .int u] H Q E) := ⟨⟨x, d, t, u, rfl, hd, sz, h⟩⟩
theorem to_ok {K : PySem.W.Frag} {H : Hp} {x : V} {d : PyData} {Q : VK} {E : XK} (hd : Dp K H x d) (wh : Wh d) (h : ∀ l H', Same H H' → Dp K H' (.ref l) (tld d) → Q (.ref l) H') : Bx (spTol K [x] H Q E) := ⟨⟨x, d, rfl, hd, wh, h⟩⟩
theorem fit_b2 (a b : Bool) : Fit (.list [.bool a, .bool b]) := fit_of2 (by cases a <;> cases b <;> decide +kernel) (by cases a <;> cases b <;> decide +kernel) (by cases a <;> cases b <;> decide +kernel) (by cases a <;> cases b <;> decide +kernel)
theorem fit_b3 (a b c : Bool) : Fit (.list [.bool a, .bool b, .bool c]) := fit_of2 (by cases a <;> cases b <;> cases c <;> decide +kernel) (by cases a <;> cases b <;> cases c <;> decide +kernel) (by cases a <;> cases b <;> cases c <;> decide +kernel) (by cases a <;> cases b <;> cases c <;> decide +kernel)
theorem ok_chars (s : String) : PyData.strOk (Str.ofString s) = true := by
  rw [PySem.Str.ofString_eq_toList]
  unfold PyData.strOk
  simp only [List.all_toArray, List.all_map, List.all_eq_true, Function.comp_apply, decide_eq_true_eq]
  intro ch _
  have h := ch.valid
  show ch.val.toNat < 0x110000
  have h2 : ch.val.toNat < 0xD800 ∨ (0xDFFF < ch.val.toNat ∧ ch.val.toNat < 0x110000) := h
  omega
theorem ok_app {a b : Str} (h1 : PyData.strOk a = true) (h2 : PyData.strOk b = true) : PyData.strOk (a ++ b) = true := by
  unfold PyData.strOk at h1 h2 ⊢
  rw [Str.cps_append, Array.all_append, h1, h2]
  rfl
theorem ok_txtOf (a b : Int) : PyData.strOk (txtOf a b) = true := by
  unfold txtOf
  split
  · exact ok_chars _
  · exact ok_app (ok_app (ok_chars _) (ok_chars _)) (ok_chars _)
theorem can_txt (a b : Int) : (PyData.list [.str (Str.ofString "text"), .str (txtOf a b)]).canLay0 = true := by
  have h := ok_txtOf a b
  have h2 := ok_chars "text"
  simp only [PyData.canLay0, PyData.canLayAll0, h, h2, Bool.and_self]
theorem shp_txt (a b : Int) : SeqAt.shaped (.list [.str (Str.ofString "text"), .str (txtOf a b)]) = true := by
  unfold SeqAt.shaped
  rw [can_txt]
  rfl
section
variable {P : Program} {w : World} {K : PySem.W.Frag} {mg : Str → Option Value} {base : Heap} {C aLN aWi aNu aFa aLe aPa aTo aNb : Addr} {dLN dWi dNu dFa dLe dPa dTo dNb : FuncData}
theorem tail7 {f : Addr} {cdv : Value} {A : Around} {outer : List Env} {s : Shared} {H : Hp} {Q : VK} {E : XK} (TL : TxtL mg) (hr : Room 5 (A.deeper (envOfC "_law_right" (defScope sRig) s.heap.objs.size f cdv))) (hgd : A.guards = some []) (c : Cals P w K mg base C aLN aWi aNu aFa aLe aPa aTo aNb dLN dWi dNu dFa dLe dPa dTo dNb) :
    ∃ u, PSs (cxOf (L2.CX P w) P w K mg base nR "_law_right" (defScope sRig) f cdv A outer s H E) ((defBody sRig).drop 7) u ∧ ∀ (H1 : Hp) (q : Addr) (a b : Int) (x1 x2 x3 x4 : Option V) (hp : SqT K H1 q [.int a, .int b]) (n : isNum a b) (wh : Wh (.tuple [.int a, .int b])) (fin : ∀ H', Same H1 H' → Q (.bl true) H'),
      u { nx := fun _ H' => Q .non H', rt := Q } [some (.ref q), x1, x2, x3, x4, some (.str (txtOf a b))] H1 := by
  refine ⟨_, pss_one (ps_ret (pe_and (pe_cmpR (op_eqD hr.units) (pe_cal c.to (hr.mono (by decide)) hgd (pa_cons (pv 0) pa_nil)) (pe_lst (pa_cons pe_str (pa_cons (pv 5) pa_nil))) (nomark _)) (pe_one (pe_cmpR op_eq (pe_callB (call_rep hr hgd) (by rfl) TL.rep (by decide +kernel) (pa_cons (pe_cal c.nb (hr.mono (by decide)) hgd (pa_cons (pe_ix ix_tup (pv 0) pe_int (fun _ _ => rfl)) (pa_cons (pe_ix ix_tup (pv 0) pe_int (fun _ _ => rfl)) pa_nil))) pa_nil)) (pe_callB (call_rep hr hgd) (by rfl) TL.rep (by decide +kernel) (pa_cons (pv 0) pa_nil)) (nomark _))))), ?_⟩
  intro H1 q a b x1 x2 x3 x4 hp n wh fin
  have en : isN (.tuple [.int a, .int b]) = true := isN_of n
  refine ⟨_, rfl, to_ok (dp_mk hp) wh fun l H2 s2 h2 => ?_⟩
  rw [tld_yes en] at h2
  refine ⟨_, rfl, ?_⟩
  refine ⟨by rw [sizeLine_eq]; show 2 ≤ 16777216; decide, fun l3 nn => ?_⟩
  generalize hG : upd H2 l3 _ = H3
  obtain ⟨s3, h3⟩ := same_of nn hG
  clear hG nn
  refine ⟨_, _, dp_same s3 h2, .lst (.of h3) (.cons (.str _) (.cons (.str _) .nil)), shp_txt a b, shp_txt a b, ?_⟩
  rw [SeqAt.eqv_refl _ (can_txt a b)]
  refine ⟨_, rfl, iteT ?_⟩
  have S3 := same_tr s2 s3
  have hp := sqT_same S3 hp
  obtain ⟨za, zb⟩ := wh.sz a b rfl
  have b0 : b ≠ 0 := by have := n.1; omega
  have big : ∀ {k : Nat}, k < 2 ^ 1500 → k < 2 ^ 8000 := fun h => Nat.lt_trans h (Nat.pow_lt_pow_right (by decide) (by decide))
  refine ⟨_, rfl, q, _, _, _, rfl, rfl, hp, rfl, _, rfl, q, _, _, _, rfl, rfl, hp, rfl, _, _, _, _, rfl, .int a, .int b, fun a' b' e1 e2 _ => ?_, fun hbad => ?_⟩
  · cases e1
    cases e2
    refine ⟨big za, big zb, fun t nt => ?_⟩
    rw [nrm_is b0 n (Int.mul_comm a b ▸ rfl : a * b = a * b)]
    generalize hG : upd H3 t _ = H4
    obtain ⟨s4, h4⟩ := same_of nt hG
    clear hG
    refine rep_ok (dp_mk (.of h4)) wh.fit ?_
    refine ⟨_, rfl, rep_ok (dp_mk (sqT_same s4 hp)) wh.fit ?_⟩
    refine ⟨rfl, ?_⟩
    rw [decide_eq_true rfl]
    exact fin _ (same_tr S3 s4)
  · rcases hbad with z | z | z
    · cases z
    · cases z
    · injection z with z
      exact absurd z b0
theorem tail5 {f : Addr} {cdv : Value} {A : Around} {outer : List Env} {s : Shared} {H : Hp} {Q : VK} {E : XK} (TL : TxtL mg) (hr : Room 5 (A.deeper (envOfC "_law_right" (defScope sRig) s.heap.objs.size f cdv))) (hgd : A.guards = some []) (c : Cals P w K mg base C aLN aWi aNu aFa aLe aPa aTo aNb dLN dWi dNu dFa dLe dPa dTo dNb) :
    ∃ u, PSs (cxOf (L2.CX P w) P w K mg base nR "_law_right" (defScope sRig) f cdv A outer s H E) ((defBody sRig).drop 5) u ∧ ∀ (H1 : Hp) (x : V) (d : PyData) (l : Addr) (x2 x3 x4 : Option V) (hd : Dp K H1 x d) (wh : Wh d) (hl : H1 l = some (.lst [.bl (isN d), .bl (isW 60 60 d), .bl (isW 999999 999 d)])) (fin : ∀ H', Same H1 H' → Q (.bl true) H'),
      u { nx := fun _ H' => Q .non H', rt := Q } [some x, some (.ref l), x2, x3, x4, none] H1 := by
  obtain ⟨u7, h7, k7⟩ := tail7 (outer := outer) (s := s) (H := H) (Q := Q) (E := E) TL hr hgd c
  refine ⟨_, pss_cons (ps_if (pt_not (pt_val (pe_ix ix_list (pv 1) pe_int (fun _ _ => rfl)))) (pss_one (ps_ret (pe_cmpR op_eq (pe_callB (call_rep hr hgd) (by rfl) TL.rep (by decide +kernel) (pa_cons (pe_cal c.to (hr.mono (by decide)) hgd (pa_cons (pv 0) pa_nil)) pa_nil)) (pe_callB (call_rep hr hgd) (by rfl) TL.rep (by decide +kernel) (pa_cons (pe_lst (pa_cons pe_str (pa_cons (pv 0) pa_nil))) pa_nil)) (nomark _)))) pss_nil)
      (pss_cons (ps_set (i := 5) scRi.nd rfl (Or.inl rfl) (pe_ifExp (pt_cmpR op_eq (pe_ix ix_tup (pv 0) pe_int (fun _ _ => rfl)) pe_int (nomark _)) (pe_callTy call_str_int (by rfl) TL.str (by decide +kernel) (pa_cons (pe_ix ix_tup (pv 0) pe_int (fun _ _ => rfl)) pa_nil)) (pe_op op_add_str (pe_op op_add_str (pe_callTy call_str_int (by rfl) TL.str (by decide +kernel) (pa_cons (pe_ix ix_tup (pv 0) pe_int (fun _ _ => rfl)) pa_nil)) pe_str) (pe_callTy call_str_int (by rfl) TL.str (by decide +kernel) (pa_cons (pe_ix ix_tup (pv 0) pe_int (fun _ _ => rfl)) pa_nil)))))
      (h7)), ?_⟩
  intro H1 x d l x2 x3 x4 hd wh hl fin
  refine ⟨_, rfl, l, _, 0, _, rfl, rfl, .of hl, rfl, _, rfl, ?_⟩
  cases e : isN d with
  | false =>
    refine iteT ?_
    refine ⟨_, rfl, to_ok hd wh fun l2 H2 s2 h2 => ?_⟩
    rw [tld_no e] at h2
    refine rep_ok h2 wh.fit2 ?_
    refine ⟨_, rfl, ?_⟩
    refine ⟨by rw [sizeLine_eq]; show 2 ≤ 16777216; decide, fun l3 nn => ?_⟩
    generalize hG : upd H2 l3 _ = H3
    obtain ⟨s3, h3⟩ := same_of nn hG
    clear hG nn
    refine rep_ok (.lst (.of h3) (.cons (.str _) (.cons (dp_same (same_tr s2 s3) hd) .nil))) wh.fit2 ?_
    refine ⟨rfl, ?_⟩
    rw [decide_eq_true rfl]
    exact fin _ (same_tr s2 s3)
  | true =>
    refine iteF ?_
    obtain ⟨a, b, rfl, n⟩ := isN_iff e
    obtain ⟨q, rfl, hp⟩ := dp_num hd
    obtain ⟨za, zb⟩ := wh.sz a b rfl
    have K7 := k7 H1 q a b (some (.ref l)) x2 x3 x4 hp n wh fin
    unfold txtOf at K7
    refine ⟨_, rfl, q, _, _, _, rfl, rfl, hp, rfl, rfl, _, rfl, ?_⟩
    refine ite2 (fun h1 => ?_) (fun h1 => ?_)
    · have z : b = 1 := by
        have := of_decide_eq_true h1
        injection this
      rw [if_pos z] at K7
      exact ⟨_, rfl, q, _, _, _, rfl, rfl, hp, rfl, a, rfl, lg za, K7⟩
    · have z : ¬ b = 1 := fun z => h1 (by rw [z]; exact decide_eq_true rfl)
      rw [if_neg z] at K7
      have l1 := tx_len za
      have l2 := tx_len zb
      have l3 : (Str.ofString "/").length = 1 := by decide +kernel
      have lz : (5000 : Nat) ≤ sizeLine := by rw [sizeLine_eq]; decide
      refine ⟨_, rfl, q, _, _, _, rfl, rfl, hp, rfl, a, rfl, lg za, _, _, rfl, rfl, ?_, ?_⟩
      · omega
      · refine ⟨_, rfl, q, _, _, _, rfl, rfl, hp, rfl, b, rfl, lg zb, _, _, rfl, rfl, ?_, K7⟩
        rw [strLen_append]; omega
theorem tail4 {f : Addr} {cdv : Value} {A : Around} {outer : List Env} {s : Shared} {H : Hp} {Q : VK} {E : XK} (TL : TxtL mg) (hr : Room 5 (A.deeper (envOfC "_law_right" (defScope sRig) s.heap.objs.size f cdv))) (hgd : A.guards = some []) (c : Cals P w K mg base C aLN aWi aNu aFa aLe aPa aTo aNb dLN dWi dNu dFa dLe dPa dTo dNb) :
    ∃ u, PSs (cxOf (L2.CX P w) P w K mg base nR "_law_right" (defScope sRig) f cdv A outer s H E) ((defBody sRig).drop 4) u ∧ ∀ (H1 : Hp) (x : V) (d : PyData) (l : Addr) (x2 x3 : Option V) (hd : Dp K H1 x d) (wh : Wh d) (hl : H1 l = some (.lst [.bl (isN d), .bl (isW 60 60 d), .bl (isW 999999 999 d)])) (fin : ∀ H', Same H1 H' → Q (.bl true) H'),
      u { nx := fun _ H' => Q .non H', rt := Q } [some x, some (.ref l), x2, x3, some (.bl (isZ d)), none] H1 := by
  obtain ⟨u5, h5, k5⟩ := tail5 (outer := outer) (s := s) (H := H) (Q := Q) (E := E) TL hr hgd c
  refine ⟨_, pss_cons (ps_if (pt_cmpR op_ne (pe_callB (call_rep hr hgd) (by rfl) TL.rep (by decide +kernel) (pa_cons (pe_lst (pa_cons (pe_cal c.pa (hr.mono (by decide)) hgd (pa_cons (pv 0) pa_nil)) (pa_cons (pe_calK c.pa c.kpa (hr.mono (by decide)) hgd (pk_cons (pv 0) pk_nil)) pa_nil))) pa_nil)) (pe_callB (call_rep hr hgd) (by rfl) TL.rep (by decide +kernel) (pa_cons (pe_op op_rep (pe_lst (pa_cons (pe_or (pe_ix ix_list (pv 1) pe_int (fun _ _ => rfl)) (pe_one (pv 4))) pa_nil)) pe_int) pa_nil)) (nomark _)) (pss_one (ps_ret pe_bl)) pss_nil)
      (h5), ?_⟩
  intro H1 x d l x2 x3 hd wh hl fin
  refine ⟨_, rfl, x, d, rfl, hd, _, rfl, x, d, rfl, hd, ?_⟩
  refine ⟨by rw [sizeLine_eq]; show 2 ≤ 16777216; decide, fun l2 nn => ?_⟩
  generalize hG : upd H1 l2 _ = H2
  obtain ⟨s2, h2⟩ := same_of nn hG
  clear hG nn
  refine rep_ok (.lst (.of h2) (.cons (.bl _) (.cons (.bl _) .nil))) (fit_b2 _ _) ?_
  refine ⟨_, rfl, l, _, 1, _, rfl, rfl, .of (s2 _ _ hl), rfl, _, rfl, ?_⟩
  cases e : isW 60 60 d with
  | true =>
    refine iteT ?_
    refine ⟨by rw [sizeLine_eq]; show 1 ≤ 16777216; decide, fun lv nn => ?_⟩
    generalize hG : upd H2 lv _ = H3
    obtain ⟨s3, h3⟩ := same_of nn hG
    clear hG nn
    refine ⟨lv, 2, [.bl true], rfl, rfl, h3, by decide, by decide, by rw [sizeLine_eq]; show 2 ≤ 16777216; decide, fun p np => ?_⟩
    generalize hG : upd H3 p _ = H4
    obtain ⟨s4, h4⟩ := same_of np hG
    clear hG
    refine rep_ok (d := .list [.bool true, .bool true]) (.lst (.of h4) (.cons (.bl _) (.cons (.bl _) .nil))) (fit_b2 _ _) ?_
    refine ⟨rfl, _, rfl, iteNS ?_ ?_⟩
    · have ev : (isW 60 60 d || isZ d) = true := by rw [e, Bool.true_or]
      show V.str (PyData.list [.bool (isW 60 60 d || isZ d), .bool (isW 60 60 d || isZ d)]).shown = _
      rw [ev]
    · have S := same_tr s2 (same_tr s3 s4)
      exact k5 _ x d l _ _ _ (dp_same S hd) wh (S _ _ hl) fun H' s' => fin H' (same_tr S s')
  | false =>
    refine iteF ⟨_, rfl, ?_⟩
    refine ⟨by rw [sizeLine_eq]; show 1 ≤ 16777216; decide, fun lv nn => ?_⟩
    generalize hG : upd H2 lv _ = H3
    obtain ⟨s3, h3⟩ := same_of nn hG
    clear hG nn
    refine ⟨lv, 2, [.bl (isZ d)], rfl, rfl, h3, by decide, by decide, by rw [sizeLine_eq]; show 2 ≤ 16777216; decide, fun p np => ?_⟩
    generalize hG : upd H3 p _ = H4
    obtain ⟨s4, h4⟩ := same_of np hG
    clear hG
    refine rep_ok (d := .list [.bool (isZ d), .bool (isZ d)]) (.lst (.of h4) (.cons (.bl _) (.cons (.bl _) .nil))) (fit_b2 _ _) ?_
    refine ⟨rfl, _, rfl, iteNS ?_ ?_⟩
    · have ev : (isW 60 60 d || isZ d) = isZ d := by rw [e, Bool.false_or]
      show V.str (PyData.list [.bool (isW 60 60 d || isZ d), .bool (isW 60 60 d || isZ d)]).shown = _
      rw [ev]
    · have S := same_tr s2 (same_tr s3 s4)
      exact k5 _ x d l _ _ _ (dp_same S hd) wh (S _ _ hl) fun H' s' => fin H' (same_tr S s')
def spRig (K : PySem.W.Frag) : Sp := fun vs H Q _ => ∃ x d, vs = [x] ∧ Dp K H x d ∧ Wh d ∧ ∀ H', Same H H' → Q (.bl true) H'
theorem ok_rig {f : Addr} {fd : FuncData} (F : Fun K "_law_right" "_law_right" sRig f fd) (TL : TxtL mg) (c : Cals P w K mg base C aLN aWi aNu aFa aLe aPa aTo aNb dLN dWi dNu dFa dLe dPa dTo dNb) : FnG P w K mg base 6 f fd ["what"] (spRig K) := by
  refine okG F scRi (fun vs H Q E h => ?_) (fun cdv A outer s H vs Q E hr hgd h => ?_)
  · obtain ⟨x, d, rfl, _⟩ := h
    rfl
  · obtain ⟨x, d, rfl, hd, wh, fin⟩ := h
    obtain ⟨u4, h4, k4⟩ := tail4 (outer := outer) (s := s) (H := H) (Q := Q) (E := E) TL hr hgd c
    refine ⟨_, pss_cons (ps_set (i := 1) scRi.nd rfl (Or.inl rfl) (pe_lst (pa_cons (pe_cal c.ln (hr.mono (by decide)) hgd (pa_cons (pv 0) pa_nil)) (pa_cons (pe_cal c.wi (hr.mono (by decide)) hgd (pa_cons (pv 0) (pa_cons pe_int (pa_cons pe_int pa_nil)))) (pa_cons (pe_cal c.wi (hr.mono (by decide)) hgd (pa_cons (pv 0) (pa_cons pe_int (pa_cons pe_int pa_nil)))) pa_nil)))))
      (pss_cons (ps_par (by rfl) scRi.nd (i := 2) (j := 3) rfl rfl (by decide) rfl rfl (pa_cons (pe_lst (pa_cons (pe_cal c.nu (hr.mono (by decide)) hgd (pa_cons (pv 0) pa_nil)) (pa_cons (pe_cal c.fa (hr.mono (by decide)) hgd (pa_cons (pv 0) pa_nil)) (pa_cons (pe_cal c.le (hr.mono (by decide)) hgd (pa_cons (pv 0) pa_nil)) pa_nil)))) (pa_cons (pe_lst (pa_cons (pe_calK c.nu c.knu (hr.mono (by decide)) hgd (pk_cons (pv 0) pk_nil)) (pa_cons (pe_calK c.fa c.kfa (hr.mono (by decide)) hgd (pk_cons (pv 0) pk_nil)) pa_nil))) pa_nil)) (by rfl))
      (pss_cons (ps_if (PW.pt (pw_or (pt_cmpR op_ne (pe_callB (call_rep hr hgd) (by rfl) TL.rep (by decide +kernel) (pa_cons (pv 2) pa_nil)) (pe_callB (call_rep hr hgd) (by rfl) TL.rep (by decide +kernel) (pa_cons (pv 1) pa_nil)) (nomark _)) (pw_or1 (pt_cmpR op_ne (pe_callB (call_rep hr hgd) (by rfl) TL.rep (by decide +kernel) (pa_cons (pe_op op_cat (pv 3) (pe_lst (pa_cons (pe_calK c.le c.kle (hr.mono (by decide)) hgd (pk_cons (pv 0) pk_nil)) pa_nil))) pa_nil)) (pe_callB (call_rep hr hgd) (by rfl) TL.rep (by decide +kernel) (pa_cons (pv 1) pa_nil)) (nomark _))))) (pss_one (ps_ret pe_bl)) pss_nil)
      (pss_cons (ps_set (i := 4) scRi.nd rfl (Or.inl rfl) (pe_and (pe_ix ix_list (pv 1) pe_int (fun _ _ => rfl)) (pe_one (pe_cmpR op_eq (pe_ix ix_tup (pv 0) pe_int (fun _ _ => rfl)) pe_int (nomark _)))))
      (h4)))), ?_⟩
    refine ⟨_, rfl, ln_ok hd wh.sz fun H1 s1 => ?_⟩
    have d1 := dp_same s1 hd
    refine ⟨_, rfl, wi_ok d1 wh.sz fun H2 s2 => ?_⟩
    have d2 := dp_same s2 d1
    refine ⟨_, rfl, wi_ok d2 wh.sz fun H3 s3 => ?_⟩
    have d3 := dp_same s3 d2
    refine ⟨by rw [sizeLine_eq]; show 3 ≤ 16777216; decide, fun l nn => ?_⟩
    generalize hG : upd H3 l _ = H4
    obtain ⟨s4, hl⟩ := same_of nn hG
    clear hG nn
    have d4 := dp_same s4 d3
    refine ⟨_, rfl, x, d, rfl, d4, _, rfl, x, d, rfl, d4, _, rfl, x, d, rfl, d4, ?_⟩
    refine ⟨by rw [sizeLine_eq]; show 3 ≤ 16777216; decide, fun g nn => ?_⟩
    generalize hG : upd H4 g _ = H5
    obtain ⟨s5, hg⟩ := same_of nn hG
    clear hG nn
    have d5 := dp_same s5 d4
    refine ⟨_, rfl, x, d, rfl, d5, _, rfl, x, d, rfl, d5, ?_⟩
    refine ⟨by rw [sizeLine_eq]; show 2 ≤ 16777216; decide, fun m nn => ?_⟩
    generalize hG : upd H5 m _ = H6
    obtain ⟨s6, hm⟩ := same_of nn hG
    clear hG nn
    have d6 := dp_same s6 d5
    refine ⟨_, _, rfl, ?_⟩
    have fb := fit_b3 (isN d) (isW 60 60 d) (isW 999999 999 d)
    have Dl : ∀ H', Same H4 H' → Dp K H' (.ref l) (.list [.bool (isN d), .bool (isW 60 60 d), .bool (isW 999999 999 d)]) := fun H' s' => .lst (.of (s' _ _ hl)) (.cons (.bl _) (.cons (.bl _) (.cons (.bl _) .nil)))
    refine ⟨_, rfl, rep_ok (.lst (.of (s6 _ _ hg)) (.cons (.bl _) (.cons (.bl _) (.cons (.bl _) .nil)))) fb ?_⟩
    refine ⟨_, rfl, rep_ok (Dl _ (same_tr s5 s6)) fb ?_⟩
    refine ⟨rfl, _, rfl, iteNS rfl ?_⟩
    refine ⟨_, rfl, _, rfl, x, d, rfl, d6, ?_⟩
    refine ⟨by rw [sizeLine_eq]; show 1 ≤ 16777216; decide, fun o nn => ?_⟩
    generalize hG : upd H6 o _ = H7
    obtain ⟨s7, ho⟩ := same_of nn hG
    clear hG nn
    refine ⟨m, o, _, _, rfl, rfl, s7 _ _ hm, ho, by rw [sizeLine_eq]; show 3 ≤ 16777216; decide, fun p np => ?_⟩
    generalize hG : upd H7 p _ = H8
    obtain ⟨s8, h8⟩ := same_of np hG
    clear hG
    refine rep_ok (d := .list [.bool (isN d), .bool (isW 60 60 d), .bool (isW 999999 999 d)]) (.lst (.of h8) (.cons (.bl _) (.cons (.bl _) (.cons (.bl _) .nil)))) fb ?_
    have S48 := same_tr s5 (same_tr s6 (same_tr s7 s8))
    refine ⟨_, rfl, rep_ok (Dl _ S48) fb ?_⟩
    refine ⟨rfl, _, rfl, iteNS rfl ?_⟩
    have S08 := same_tr s1 (same_tr s2 (same_tr s3 (same_tr s4 S48)))
    have d8 := dp_same S48 d4
    have K4 := fun (x2 x3 : Option V) => k4 H8 x d l x2 x3 d8 wh (S48 _ _ hl) fun H' s' => fin H' (same_tr S08 s')
    refine ⟨_, rfl, l, _, 0, _, rfl, rfl, .of (S48 _ _ hl), rfl, _, rfl, ?_⟩
    cases e : isN d with
    | false =>
      refine iteF ?_
      rw [(no_n e).2.2] at K4
      exact K4 _ _
    | true =>
      refine iteT ?_
      obtain ⟨a, b, rfl, n⟩ := isN_iff e
      obtain ⟨q, rfl, hp⟩ := dp_num d8
      have hk : isZ (.tuple [.int a, .int b]) = (isN (.tuple [.int a, .int b]) && decide (a = 0)) := rfl
      rw [hk, e, Bool.true_and] at K4
      refine ⟨_, rfl, q, _, _, _, rfl, rfl, hp, rfl, rfl, ?_⟩
      have ed : decide (V.int a = V.int 0) = decide (a = 0) := by rw [dec_int, Bool.beq_eq_decide_eq]
      rw [ed]
      exact K4 _ _
end
end K2
set_option Elab.async false
set_option linter.all false
set_option maxRecDepth 100000
set_option maxHeartbeats 4000000
set_option exponentiation.threshold 100000
namespace K2
open PySem PySem.Spec PyProof.Rows L2 RmX Rm Mth
abbrev sLaw : Stmt := top 30
def loopOf : Stmt → List Stmt
  | .For _ _ b _ _ => b
  | _ => []
abbrev sTurn : List Stmt := loopOf ((defBody sLaw).getD 1 (.Pass ⟨0, 0, 0, 0⟩))
abbrev nL : List Str := ["script", "draw", "turn", "what", "one", "other", "shown", "odd", "pair"]
theorem scLw : FnScope nL ["script"] (defScope sLaw) := ⟨rfl, rfl, rfl, by decide +kernel, rfl, by decide +kernel, by decide +kernel⟩
theorem qd_0 : Qd .none := ⟨(fun _ z => by cases z), by decide +kernel, by decide +kernel, by decide +kernel, by decide +kernel⟩
theorem qd_1 : Qd (.bool true) := ⟨(fun _ z => by cases z), by decide +kernel, by decide +kernel, by decide +kernel, by decide +kernel⟩
theorem qd_2 : Qd (.str (Str.ofString "1")) := ⟨(fun _ z => by cases z), by decide +kernel, by decide +kernel, by decide +kernel, by decide +kernel⟩
theorem qd_3 : Qd (.tuple [.int 1, .int 1]) := ⟨(fun _ z => by cases z), by decide +kernel, by decide +kernel, by decide +kernel, by decide +kernel⟩
theorem qd_4 : Qd (.list [.int 2]) := ⟨(fun _ z => by cases z), by decide +kernel, by decide +kernel, by decide +kernel, by decide +kernel⟩
theorem qd_i {i : Int} (h : i.natAbs < 2 ^ 1500) : Qd (.int i) := ⟨fun a e => (by cases e; exact h), sh_i h, rfl, by simp [PyData.depth], by simp [cst]⟩
theorem quo_ok {K : PySem.W.Frag} {H : Hp} {x y : V} {d e : PyData} {Q : VK} {E : XK} (hd : Dp K H x d) (he : Dp K H y e) (qd : Qd d) (qe : Qd e) (h : ∀ l H', Same H H' → Dp K H' (.ref l) (quo d e) → Q (.ref l) H') : Bx (spQuo K [x, y] H Q E) := ⟨⟨x, y, d, e, rfl, hd, he, qd, qe, h⟩⟩
theorem rig_ok {K : PySem.W.Frag} {H : Hp} {x : V} {d : PyData} {Q : VK} {E : XK} (hd : Dp K H x d) (wh : Wh d) (h : ∀ H', Same H H' → Q (.bl true) H') : Bx (spRig K [x] H Q E) := ⟨⟨x, d, rfl, hd, wh, h⟩⟩
theorem thi_ok {K : PySem.W.Frag} {p c : Addr} {n : Nat} {H : Hp} {Q : VK} {E : XK} (D : DrawAt H p c n) (hn : n < 2 ^ 27) (h : ∀ (x : V) (d : PyData) (H' : Hp), DrawAt H' p c (n + 40) → Kp p H H' → Dp K H' x d → Wh d → Q x H') : Bx (spThi K [.ref p] H Q E) := ⟨⟨p, c, n, rfl, D, hn, h⟩⟩
theorem begin_ok {K : PySem.W.Frag} {H : Hp} {a : Addr} {ns : List Int} {Q : VK} {E : XK} (hS : SqL K H a (ns.map V.int)) (hl : ns.length ≤ 63) (h : ∀ p c H', DrawAt H' p c 0 → Same H H' → Q (.ref p) H') : Bx (spBegin K [.ref a] H Q E) :=
  ⟨⟨a, ns, rfl, hS, hl, h⟩⟩
def spLaw (K : PySem.W.Frag) : Sp := fun vs H Q _ => ∃ (a : Addr) (ns : List Int), vs = [.ref a] ∧ SqL K H a (ns.map V.int) ∧ ns.length ≤ 63 ∧ ∀ H', Q (.bl true) H'
section
variable {P : Program} {w : World} {K : PySem.W.Frag} {mg : Str → Option Value} {base : Heap} {C fI fNum fIsI fIsN fChk fNx aQ aU aT aI aR aB : Addr} {fdNum fdNx dQ dU dT dI dR dB : FuncData} {v1 : Value}
theorem tail4L {f : Addr} {cdv : Value} {A : Around} {outer : List Env} {s : Shared} {H : Hp} {Q : VK} {E : XK} (TN : TxtN P K mg C fI fNum fIsI fIsN fChk) (TL : TxtL mg) (GM : FnG P w K mg base 2 fNum fdNum ["above", "below"] (spNum K C)) (bD : Binds K fdNum ["above", "below"] [v1]) (rD : Vals [V.int 1] [v1]) (cQ : Cal P w K mg base "_law_quotient" aQ dQ 3 ["one", "other"] (bx (spQuo K))) (cU : Cal P w K mg base "_law_due" aU dU 2 ["one", "other"] (bx (spQuo K))) (hr : Room 6 (A.deeper (envOfC "law" (defScope sLaw) s.heap.objs.size f cdv))) (hgd : A.guards = some []) :
    ∃ u, PSs (cxOf (L2.CX P w) P w K mg base nL "law" (defScope sLaw) f cdv A outer s H E) (sTurn.drop 4) u ∧ ∀ (D : Ends) (G0 : Hp) (i j : Int) (y : V) (d : PyData) (a0 a1 a2 a3 a6 a8 : Option V) (hi : i.natAbs < 2 ^ 1500) (hj : j.natAbs < 2 ^ 1500) (hy : Dp K G0 y d) (q : Qd d)
        (fin : ∀ (b8 : Option V) (H' : Hp), Same G0 H' → D.nx [a0, a1, a2, a3, some (.int i), some (.int j), a6, some y, b8] H'), u D [a0, a1, a2, a3, some (.int i), some (.int j), a6, some y, a8] G0 := by
  refine ⟨_, pss_cons (ps_for PassesOwn.leaving rfl (pi_list (pe_lst (pa_cons (pe_tup (pa_cons (pv 4) (pa_cons (pv 5) pa_nil))) (pa_cons (pe_tup (pa_cons (pv 4) (pa_cons (pv 7) pa_nil))) (pa_cons (pe_tup (pa_cons (pv 7) (pa_cons (pv 5) pa_nil))) (pa_cons (pe_tup (pa_cons (pv 4) (pa_cons pe_int pa_nil))) pa_nil)))))) (pg_name (i := 8) scLw.nd rfl (Or.inl rfl)) (pss_one (ps_if (pt_cmpR op_ne (pe_callB (call_rep hr hgd) (by rfl) TL.rep (by decide +kernel) (pa_cons (pe_cal cQ (hr.mono (by decide)) hgd (pa_cons (pe_ix ix_tup (pv 8) pe_int (fun _ _ => rfl)) (pa_cons (pe_ix ix_tup (pv 8) pe_int (fun _ _ => rfl)) pa_nil))) pa_nil)) (pe_callB (call_rep hr hgd) (by rfl) TL.rep (by decide +kernel) (pa_cons (pe_cal cU (hr.mono (by decide)) hgd (pa_cons (pe_ix ix_tup (pv 8) pe_int (fun _ _ => rfl)) (pa_cons (pe_ix ix_tup (pv 8) pe_int (fun _ _ => rfl)) pa_nil))) pa_nil)) (nomark _)) (pss_one (ps_ret pe_bl)) pss_nil)))
      (pss_one (ps_if (pt_cmpR op_ne (pe_callB (call_rep hr hgd) (by rfl) TL.rep (by decide +kernel) (pa_cons (pe_callG (E := fun _ => E0) GM (hr.mono (by decide)) hgd rfl TN.gNum TN.kNum bD rD pass0G (pa_cons (pv 4) pa_nil)) pa_nil)) (pe_callB (call_rep hr hgd) (by rfl) TL.rep (by decide +kernel) (pa_cons (pe_tup (pa_cons (pv 4) (pa_cons pe_int pa_nil))) pa_nil)) (nomark _)) (pss_one (ps_ret pe_bl)) pss_nil)), ?_⟩
  intro D G0 i j y d a0 a1 a2 a3 a6 a8 hi hj hy q fin
  refine ⟨_, rfl, _, rfl, ?_⟩
  refine ⟨by rw [sizeLine_eq]; show 2 ≤ 16777216; decide, fun t1 nn => ?_⟩
  generalize hG : upd G0 t1 _ = G1
  obtain ⟨s1, h1⟩ := same_of nn hG
  clear hG nn
  refine ⟨_, rfl, _, rfl, ?_⟩
  refine ⟨by rw [sizeLine_eq]; show 2 ≤ 16777216; decide, fun t2 nn => ?_⟩
  generalize hG : upd G1 t2 _ = G2
  obtain ⟨s2, h2⟩ := same_of nn hG
  clear hG nn
  refine ⟨_, rfl, _, rfl, ?_⟩
  refine ⟨by rw [sizeLine_eq]; show 2 ≤ 16777216; decide, fun t3 nn => ?_⟩
  generalize hG : upd G2 t3 _ = G3
  obtain ⟨s3, h3⟩ := same_of nn hG
  clear hG nn
  refine ⟨_, rfl, ?_⟩
  refine ⟨by rw [sizeLine_eq]; show 2 ≤ 16777216; decide, fun t4 nn => ?_⟩
  generalize hG : upd G3 t4 _ = G4
  obtain ⟨s4, h4⟩ := same_of nn hG
  clear hG nn
  refine ⟨by rw [sizeLine_eq]; show 4 ≤ 16777216; decide, fun l nn => ?_⟩
  generalize hG : upd G4 l _ = G
  obtain ⟨s5, h5⟩ := same_of nn hG
  clear hG nn
  have S4 : Same G3 G := same_tr s4 s5
  have S3 := same_tr s3 S4
  have S2 := same_tr s2 S3
  have S1 := same_tr s1 S2
  have hy' := dp_same S1 hy
  have allp : ∀ (k : Nat) (z : V), [V.ref t1, V.ref t2, V.ref t3, V.ref t4][k]? = some z → ∃ (t : Addr) (x' y' : V) (d' e' : PyData), z = .ref t ∧ G t = some (.tup [x', y']) ∧ Dp K G x' d' ∧ Dp K G y' e' ∧ Qd d' ∧ Qd e' := by
    intro k z hk
    match k, hk with
    | 0, hk =>
      injection hk with hk
      exact ⟨t1, _, _, _, _, hk.symm, S2 _ _ h1, .int i, .int j, qd_i hi, qd_i hj⟩
    | 1, hk =>
      injection hk with hk
      exact ⟨t2, _, _, _, _, hk.symm, S3 _ _ h2, .int i, hy', qd_i hi, q⟩
    | 2, hk =>
      injection hk with hk
      exact ⟨t3, _, _, _, _, hk.symm, S4 _ _ h3, hy', .int j, q, qd_i hj⟩
    | 3, hk =>
      injection hk with hk
      exact ⟨t4, _, _, _, _, hk.symm, s5 _ _ h4, .int i, .int 0, qd_i hi, qd_i (sm1 0 (by decide))⟩
    | k + 4, hk => exact absurd hk (by simp)
  refine ⟨l, rfl, ⟨_, .of h5⟩, for_list (K := K) (a := l) (xs := [V.ref t1, V.ref t2, V.ref t3, V.ref t4]) (fun k σ H' => ∃ b8 : Option V, σ = [a0, a1, a2, a3, some (.int i), some (.int j), a6, some y, b8] ∧ Same G H')
    ⟨_, rfl, same_rf _⟩ (fun k σ H' _ ⟨_, _, s'⟩ => .of (s' _ _ h5)) ?_ ?_⟩
  · rintro k z σ H' hk ⟨b8, rfl, s'⟩
    obtain ⟨t, x', y', d', e', rfl, ht, hx, hy2, q1, q2⟩ := allp k z hk
    have sq : SqT K H' t [x', y'] := .of (s' _ _ ht)
    have hx := dp_same s' hx
    have hy2 := dp_same s' hy2
    refine ⟨_, rfl, t, _, _, _, rfl, rfl, sq, rfl, _, rfl, t, _, _, _, rfl, rfl, sq, rfl, quo_ok hx hy2 q1 q2 fun l2 H2 s2 g2 => ?_⟩
    refine rep_ok g2 (fit_quo q1 q2) ?_
    have sq2 := sqT_same s2 sq
    refine ⟨_, rfl, t, _, _, _, rfl, rfl, sq2, rfl, _, rfl, t, _, _, _, rfl, rfl, sq2, rfl, quo_ok (dp_same s2 hx) (dp_same s2 hy2) q1 q2 fun l3 H3 s3 g3 => ?_⟩
    refine rep_ok g3 (fit_quo q1 q2) ?_
    exact ⟨rfl, _, rfl, iteNS rfl ⟨_, rfl, same_tr s' (same_tr s2 s3)⟩⟩
  · rintro σ H' ⟨b8, rfl, s'⟩
    have n1 : isNum i 1 := ⟨by decide, by simp⟩
    have big : ∀ {k : Nat}, k < 2 ^ 1500 → k < 2 ^ 8000 := fun h => Nat.lt_trans h (Nat.pow_lt_pow_right (by decide) (by decide))
    have o1 : (1 : Int).natAbs < 2 ^ 1500 := sm1 1 (by decide)
    refine ⟨_, rfl, _, _, _, _, rfl, .int i, .int 1, fun a' b' e1 e2 _ => ?_, fun hbad => ?_⟩
    · cases e1
      cases e2
      refine ⟨big hi, big o1, fun t nt => ?_⟩
      rw [nrm_is (by decide) n1 (rfl : i * 1 = i * 1)]
      generalize hG : upd H' t _ = H2
      obtain ⟨s2, g2⟩ := same_of nt hG
      clear hG
      refine rep_ok (d := .tuple [.int i, .int 1]) (dp_mk (.of g2)) (wh2 hi o1).fit ?_
      refine ⟨_, rfl, ?_⟩
      refine ⟨by rw [sizeLine_eq]; show 2 ≤ 16777216; decide, fun t6 nn => ?_⟩
      generalize hG : upd H2 t6 _ = H3
      obtain ⟨s3, g3⟩ := same_of nn hG
      clear hG nn
      refine rep_ok (d := .tuple [.int i, .int 1]) (dp_mk (.of g3)) (wh2 hi o1).fit ?_
      exact ⟨rfl, _, rfl, iteNS rfl (fin _ _ (same_tr S1 (same_tr s' (same_tr s2 s3))))⟩
    · rcases hbad with z | z | z
      · cases z
      · cases z
      · cases z
theorem ok_law {f : Addr} {fd : FuncData} (F : Fun K "law" "law" sLaw f fd) (TN : TxtN P K mg C fI fNum fIsI fIsN fChk) (TL : TxtL mg) (GM : FnG P w K mg base 2 fNum fdNum ["above", "below"] (spNum K C)) (bD : Binds K fdNum ["above", "below"] [v1]) (rD : Vals [V.int 1] [v1]) (cQ : Cal P w K mg base "_law_quotient" aQ dQ 3 ["one", "other"] (bx (spQuo K))) (cU : Cal P w K mg base "_law_due" aU dU 2 ["one", "other"] (bx (spQuo K))) (TI : TxtI K mg fNx) (GN : FnG P w K mg base 2 fNx fdNx ["draw", "bound"] spNext) (bN : Binds K fdNx ["draw", "bound"] [])
    (cT : Cal P w K mg base "_law_thing" aT dT 4 ["draw"] (bx (spThi K))) (cI : Cal P w K mg base "_law_integer" aI dI 3 ["draw"] (bx spInt)) (cR : Cal P w K mg base "_law_right" aR dR 6 ["what"] (bx (spRig K))) (cB : Cal P w K mg base "_law_begin" aB dB 1 ["script"] (bx (spBegin K))) : FnG P w K mg base 7 f fd ["script"] (spLaw K) := by
  refine okG F scLw (fun vs H Q E h => ?_) (fun cdv A outer s H vs Q E hr hgd h => ?_)
  · obtain ⟨a, ns, rfl, _⟩ := h
    rfl
  · obtain ⟨a, ns, rfl, hS, hl, fin⟩ := h
    obtain ⟨u4, h4, k4⟩ := tail4L (outer := outer) (s := s) (H := H) (Q := Q) (E := E) (f := f) (cdv := cdv) TN TL GM bD rD cQ cU hr hgd
    refine ⟨_, pss_cons (ps_set (i := 1) scLw.nd rfl (Or.inl rfl) (pe_cal cB (hr.mono (by decide)) hgd (pa_cons (pv 0) pa_nil)))
      (pss_cons (ps_for PassesOwn.leaving rfl (pi_range1 rfl TL.range (pa_cons (pe_callB (call_min2 rfl) (by rfl) TL.min (by decide +kernel) (pa_cons pe_int (pa_cons (pe_op op_add pe_int (pe_callB call_len_seq (by rfl) TN.len PySem.boot_len (pa_cons (pv 0) pa_nil))) pa_nil))) pa_nil)) (pg_name (i := 2) scLw.nd rfl (Or.inl rfl)) (pss_cons (ps_par3 (i := 3) (j := 4) (l := 5) (by rfl) scLw.nd rfl rfl rfl (by decide) (by decide) (by decide) rfl rfl rfl (pa_cons (pe_cal cT (hr.mono (by decide)) hgd (pa_cons (pv 1) pa_nil)) (pa_cons (pe_cal cI (hr.mono (by decide)) hgd (pa_cons (pv 1) pa_nil)) (pa_cons (pe_cal cI (hr.mono (by decide)) hgd (pa_cons (pv 1) pa_nil)) pa_nil))) (by rfl))
      (pss_cons (ps_set (i := 6) scLw.nd rfl (Or.inl rfl) (pe_callB (call_rep hr hgd) (by rfl) TL.rep (by decide +kernel) (pa_cons (pv 3) pa_nil)))
      (pss_cons (ps_if (PW.pt (pw_or (pt_not (pt_val (pe_cal cR (hr.mono (by decide)) hgd (pa_cons (pv 3) pa_nil)))) (pw_or (pt_not (pt_val (pe_cal cR (hr.mono (by decide)) hgd (pa_cons (pv 3) pa_nil)))) (pw_or1 (pt_cmpR op_ne (pe_callB (call_rep hr hgd) (by rfl) TL.rep (by decide +kernel) (pa_cons (pv 3) pa_nil)) (pv 6) (nomark _)))))) (pss_one (ps_ret pe_bl)) pss_nil)
      (pss_cons (ps_set (i := 7) scLw.nd rfl (Or.inl rfl) (pe_ix ix_list (pe_lst (pa_cons pe_non (pa_cons pe_bl (pa_cons pe_str (pa_cons (pe_tup (pa_cons pe_int (pa_cons pe_int pa_nil))) (pa_cons (pe_lst (pa_cons pe_int pa_nil)) (pa_cons (pv 5) pa_nil))))))) (pe_callG (E := fun _ => E0) GN (hr.mono (by decide)) hgd rfl TI.gNx TI.kNx bN .nil pass0G (pa_cons (pv 1) (pa_cons pe_int pa_nil))) (fun _ _ => rfl)))
      (h4))))))
      (pss_one (ps_ret pe_bl))), ?_⟩
    refine ⟨_, rfl, begin_ok hS hl fun p c H1 D1 s1 => ?_⟩
    refine ⟨_, rfl, a, _, rfl, .inl (s1.seq hS), _, _, rfl, rfl, _, _, rfl, ?_⟩
    generalize hj : (if (12 + (((ns.map V.int).length : Nat) : Int)) < 40 then (12 + (((ns.map V.int).length : Nat) : Int)) else 40) = m
    have m0 : 0 ≤ m ∧ m ≤ 40 := by
      rw [← hj]
      split <;> omega
    refine ⟨m, rfl, by omega, by omega, for_range (lo := 0) (n := m.toNat) (fun i σ H' => ∃ k2 k3 k4 k5 k6 k7 k8 : Option V, σ = [some (.ref a), some (.ref p), k2, k3, k4, k5, k6, k7, k8] ∧ DrawAt H' p c (100 * i)) ⟨_, _, _, _, _, _, _, rfl, D1⟩ (fun t σ H' ht hP => ?_) (fun σ H' hP => fin H')⟩
    obtain ⟨k2, k3, k4', k5, k6, k7, k8, rfl, D'⟩ := hP
    refine ⟨_, rfl, thi_ok D' (by omega) fun x d H2 D2 K2 hd wh => ?_⟩
    refine ⟨_, rfl, int_ok D2 (by omega) fun i H3 hi D3 K3 => ?_⟩
    refine ⟨_, rfl, int_ok D3 (by omega) fun j H4 hj D4 K4 => ?_⟩
    refine ⟨_, _, _, rfl, ?_⟩
    have d4 := dp_kp D3 K4 (dp_kp D2 K3 hd)
    refine ⟨_, rfl, rep_ok d4 wh.fit ?_⟩
    refine ⟨_, rfl, rig_ok d4 wh fun H5 s5 => ⟨_, rfl, iteF ?_⟩⟩
    have d5 := dp_same s5 d4
    refine ⟨_, rfl, rig_ok d5 wh fun H6 s6 => ⟨_, rfl, iteF ?_⟩⟩
    have d6 := dp_same s6 d5
    refine ⟨_, rfl, rep_ok d6 wh.fit ⟨_, rfl, rfl, _, rfl, iteNS rfl ?_⟩⟩
    have S6 := same_tr s5 s6
    have D6 := D4.same S6
    refine ⟨by rw [sizeLine_eq]; show 2 ≤ 16777216; decide, fun t4 nn => ?_⟩
    generalize hG : upd H6 t4 _ = H7
    obtain ⟨s7, g4⟩ := same_of nn hG
    clear hG nn
    refine ⟨by rw [sizeLine_eq]; show 1 ≤ 16777216; decide, fun l5 nn => ?_⟩
    generalize hG : upd H7 l5 _ = H8
    obtain ⟨s5, g5⟩ := same_of nn hG
    clear hG nn
    refine ⟨_, rfl, ?_⟩
    refine ⟨by rw [sizeLine_eq]; show 6 ≤ 16777216; decide, fun l6 nn => ?_⟩
    generalize hG : upd H8 l6 _ = H9
    obtain ⟨s9, g6⟩ := same_of nn hG
    clear hG nn
    have S9 := same_tr s7 (same_tr s5 s9)
    have D9 := D6.same S9
    refine ⟨_, rfl, p, c, _, _, rfl, D9, by omega, by decide, by decide, fun r HN r0 r1 DN KN _ => ?_⟩
    have hl : SqL K HN l6 _ := .of (KN _ _ g6 (D9.neL g6))
    have mv : ∀ {d : PyData} {x : V}, Dp K H8 x d → Dp K HN x d := fun h => dp_kp D9 KN (dp_same s9 h)
    have go := fun (y : V) (d : PyData) (hy : Dp K HN y d) (q : Qd d) (D : Ends) (a0 a2 a3 a6 a8 : Option V) (fin) => k4 D HN i j y d a0 (some (.ref p)) a2 a3 a6 a8 (b14 hi) (b14 hj) hy q fin
    have KD : ∀ H', Same HN H' → DrawAt H' p c (100 * (t + 1)) := fun H' s' => (DN.same s').mono (by omega)
    rcases (by omega : r = 0 ∨ r = 1 ∨ r = 2 ∨ r = 3 ∨ r = 4 ∨ r = 5) with z | z | z | z | z | z
    · subst z
      exact ⟨l6, _, 0, _, rfl, rfl, hl, rfl, go _ .none .non qd_0 _ _ _ _ _ _ fun b8 H2 s2 => ⟨_, _, _, _, _, _, _, rfl, KD _ s2⟩⟩
    · subst z
      exact ⟨l6, _, 1, _, rfl, rfl, hl, rfl, go _ (.bool true) (.bl true) qd_1 _ _ _ _ _ _ fun b8 H2 s2 => ⟨_, _, _, _, _, _, _, rfl, KD _ s2⟩⟩
    · subst z
      exact ⟨l6, _, 2, _, rfl, rfl, hl, rfl, go _ (.str (Str.ofString "1")) (.str _) qd_2 _ _ _ _ _ _ fun b8 H2 s2 => ⟨_, _, _, _, _, _, _, rfl, KD _ s2⟩⟩
    · subst z
      exact ⟨l6, _, 3, _, rfl, rfl, hl, rfl, go _ (.tuple [.int 1, .int 1]) (mv (dp_same s5 (.tup (.of g4) (.cons (.int 1) (.cons (.int 1) .nil))))) qd_3 _ _ _ _ _ _ fun b8 H2 s2 => ⟨_, _, _, _, _, _, _, rfl, KD _ s2⟩⟩
    · subst z
      exact ⟨l6, _, 4, _, rfl, rfl, hl, rfl, go _ (.list [.int 2]) (mv (.lst (.of g5) (.cons (.int 2) .nil))) qd_4 _ _ _ _ _ _ fun b8 H2 s2 => ⟨_, _, _, _, _, _, _, rfl, KD _ s2⟩⟩
    · subst z
      exact ⟨l6, _, 5, _, rfl, rfl, hl, rfl, go _ (.int j) (.int j) (qd_i (b14 hj)) _ _ _ _ _ _ fun b8 H2 s2 => ⟨_, _, _, _, _, _, _, rfl, KD _ s2⟩⟩
end
end K2
set_option Elab.async false
set_option linter.all false
set_option maxRecDepth 100000
set_option maxHeartbeats 4000000
set_option exponentiation.threshold 100000
namespace K2
open PySem PySem.Spec PyProof.Rows L2 RmX Rm Mth
theorem exm_of {K : PySem.W.Frag} {cls S : Addr} {b : Bool} (h1 : PySem.W.subIn K (.ref S) (.type "BaseException") = some true) (h2 : PySem.W.isClsIn K S = true) (h3 : PySem.W.typeIn K (.ref S) = some (.type "type")) (h4 : PySem.W.subIn K (.ref cls) (.ref S) = some b) :
    PySem.W.exmOne K (.ref cls) (.ref S) = some b := by
  have h2' : (PySem.W.clsIn K S).isSome = true := h2
  unfold PySem.W.exmOne
  rw [h1]
  show PySem.W.kitCls K (.ref cls) (.ref S) = some b
  have e : ((PySem.W.clsIn K S).isSome && PySem.W.typeIn K (.ref S) == some (.type "type")) = true := by
    rw [h2', h3]
    rfl
  exact (if_pos e).trans h4
theorem exm_three {K : PySem.W.Frag} {cls a b c : Value} {x y z : Bool} (h1 : PySem.W.exmOne K cls a = some x) (h2 : PySem.W.exmOne K cls b = some y) (h3 : PySem.W.exmOne K cls c = some z) : PySem.W.exmAny K cls [a, b, c] = some (x || (y || (z || false))) := by
  simp only [PySem.W.exmAny, h1, h2, h3]
theorem kit_same {K : PySem.W.Frag} {C : Addr} : PySem.W.kitOne K (.ref C) (.ref C) = some true := by
  unfold PySem.W.kitOne
  rw [if_pos (by simp)]
set_option maxHeartbeats 40000000 in
theorem all_mk {P : Program} {w : World} {K : PySem.W.Frag} {h : Heap} {mg : Str → Option Value} {fa C cP cS cM fI fNum tN cc cda : Addr} (X : K.In h) (G : h.Ns mainGlobals mg) (hfa : mg "law" = some (.ref fa))
    {nm q : Str} {N : Addr} {bs : List Value} {sn : List Str} {sub : List Value} {ab : Bool} {col : Option Bool} {dd : Option Addr} {m0 m1 m2 m3 m5 : Option Value}
    {oci dci pmi cti xl0 xd0 : Value} {odi ani xl1 xd1 : Option Addr} {sli xl2 xd2 : Array (Option Value)} {cdf : Array Value} {file : Str} {tf tk1 : Nat}
    {on kVn dcn pmn cdn ctn ot : Value} {on1 ann ot1 : Option Addr} {sln slt : Array (Option Value)} {tm : Nat}
    {f0 : Addr} {od0 an0 : Option Addr} {sl0 : Array (Option Value)} {oc0 kV0 dc0 pm0 cd0 ct0 : Value}
    {f1 : Addr} {od1 an1 : Option Addr} {sl1 : Array (Option Value)} {oc1 kV1 dc1 pm1 cd1 ct1 : Value}
    {f2 : Addr} {od2 an2 : Option Addr} {sl2 : Array (Option Value)} {oc2 kV2 dc2 pm2 cd2 ct2 : Value}
    {f3 : Addr} {od3 an3 : Option Addr} {sl3 : Array (Option Value)} {oc3 kV3 dc3 pm3 cd3 ct3 : Value}
    {f4 : Addr} {od4 an4 : Option Addr} {sl4 : Array (Option Value)} {oc4 kV4 dc4 pm4 cd4 ct4 : Value}
    {f5 : Addr} {od5 an5 : Option Addr} {sl5 : Array (Option Value)} {oc5 kV5 dc5 pm5 cd5 ct5 : Value}
    {f6 : Addr} {od6 an6 : Option Addr} {sl6 : Array (Option Value)} {oc6 kV6 dc6 pm6 cd6 ct6 : Value}
    {f7 : Addr} {od7 an7 : Option Addr} {sl7 : Array (Option Value)} {oc7 kV7 dc7 pm7 cd7 ct7 : Value}
    {f8 : Addr} {od8 an8 : Option Addr} {sl8 : Array (Option Value)} {oc8 kV8 dc8 pm8 cd8 ct8 : Value}
    {f9 : Addr} {od9 an9 : Option Addr} {sl9 : Array (Option Value)} {oc9 kV9 dc9 pm9 cd9 ct9 : Value}
    {f10 : Addr} {od10 an10 : Option Addr} {sl10 : Array (Option Value)} {oc10 kV10 dc10 pm10 cd10 ct10 : Value}
    {f11 : Addr} {od11 an11 : Option Addr} {sl11 : Array (Option Value)} {oc11 kV11 dc11 pm11 cd11 ct11 : Value}
    {f12 : Addr} {od12 an12 : Option Addr} {sl12 : Array (Option Value)} {oc12 kV12 dc12 pm12 cd12 ct12 : Value}
    {f13 : Addr} {od13 an13 : Option Addr} {sl13 : Array (Option Value)} {oc13 kV13 dc13 pm13 cd13 ct13 : Value}
    {f14 : Addr} {od14 an14 : Option Addr} {sl14 : Array (Option Value)} {oc14 kV14 dc14 pm14 cd14 ct14 : Value}
    {f15 : Addr} {od15 an15 : Option Addr} {sl15 : Array (Option Value)} {oc15 kV15 dc15 pm15 cd15 ct15 : Value}
    {f16 : Addr} {od16 an16 : Option Addr} {sl16 : Array (Option Value)} {oc16 kV16 dc16 pm16 cd16 ct16 : Value}
    {f17 : Addr} {od17 an17 : Option Addr} {sl17 : Array (Option Value)} {oc17 kV17 dc17 pm17 cd17 ct17 : Value}
    {f18 : Addr} {od18 an18 : Option Addr} {sl18 : Array (Option Value)} {oc18 kV18 dc18 pm18 cd18 ct18 : Value}
    {f19 : Addr} {od19 an19 : Option Addr} {sl19 : Array (Option Value)} {oc19 kV19 dc19 pm19 cd19 ct19 : Value}
    {f20 : Addr} {od20 an20 : Option Addr} {sl20 : Array (Option Value)} {oc20 kV20 dc20 pm20 cd20 ct20 : Value}
    {f21 : Addr} {od21 an21 : Option Addr} {sl21 : Array (Option Value)} {oc21 kV21 dc21 pm21 cd21 ct21 : Value}
    (aC : PySem.W.nsIn K mainGlobals "InvalidNumber" = some (some (.ref C)))
    (aP : PySem.W.nsIn K mainGlobals "PaceError" = some (some (.ref cP)))
    (aS : PySem.W.nsIn K mainGlobals "StateError" = some (some (.ref cS)))
    (aM : PySem.W.nsIn K mainGlobals "MissingError" = some (some (.ref cM)))
    (aG : PySem.W.nsIn K mainGlobals "gcd" = some (some (.builtin "math.gcd")))
    (z_len : PySem.W.nsIn K mainGlobals "len" = some none)
    (z_isinstance : PySem.W.nsIn K mainGlobals "isinstance" = some none)
    (z_int : PySem.W.nsIn K mainGlobals "int" = some none)
    (z_bool : PySem.W.nsIn K mainGlobals "bool" = some none)
    (z_tuple : PySem.W.nsIn K mainGlobals "tuple" = some none)
    (z_super : PySem.W.nsIn K mainGlobals "super" = some none)
    (z_range : PySem.W.nsIn K mainGlobals "range" = some none)
    (z_max : PySem.W.nsIn K mainGlobals "max" = some none)
    (z_min : PySem.W.nsIn K mainGlobals "min" = some none)
    (z_repr : PySem.W.nsIn K mainGlobals "repr" = some none)
    (z_str : PySem.W.nsIn K mainGlobals "str" = some none)
    (xL : K.lookup C = some (excClassObj nm q C N bs [.ref cP, .type "ValueError", .type "Exception", .type "BaseException", .type "object"] true sn sub ab col dd m0 m1 m2 m3 m5 "ValueError.__new__"))
    (e_sa : PySem.W.findIn K (.ref C) "__setattr__" = some (some (.builtin "object.__setattr__")))
    (e_ga : PySem.W.findIn K (.ref C) "__getattribute__" = some (some (.builtin "BaseException.__getattribute__")))
    (e_gg : PySem.W.findIn K (.ref C) "__getattr__" = some none)
    (e_nF : PySem.W.findIn K (.ref C) "thing" = some none)
    (e_iC : PySem.W.findIn K (.ref C) "__init__" = some (some (.ref fI)))
    (e_tI : PySem.W.typeIn K (.ref fI) = some (.type "function"))
    (e_kC : PySem.W.keepIn K (.ref C) = true)
    (e_ex : PySem.W.subIn K (.ref C) (.type "BaseException") = some true)
    (e_ty : PySem.W.typeIn K (.ref C) = some (.type "type"))
    (e_hd : PySem.W.hasDictIn K C = true)
    (e_su : PySem.W.ks_superIn K C C "__init__" = some (some (.builtin "ValueError.__init__")))
    (e_hB : PySem.W.subIn K (.ref C) (.type "ValueError") = some true)
    (e_me : PySem.W.mroIn K C (.ref C) = some true)
    (e_op : PySem.W.nsIn K cStatics "thirdparty.any" = some none)
    (e_ca : PySem.W.findIn K (.ref C) "__class__" = some (some (.builtin "object.__class__")))
    (e_cn : PySem.W.specialIn K (.builtin "object.__class__") "__get__" = some (some (.builtin "getset_descriptor.__get__")))
    (e_ct : PySem.W.takesIn K (.builtin "object.__class__") = some true)
    (e_cm : PySem.W.mroIn K C (.type "object") = some true)
    (i_l : K.lookup fI = some ⟨oci, odi, .func (PySem.W.fnX "__init__" "InvalidNumber.__init__" (iA "thing" ⟨11, 17, 11, 21⟩ ⟨11, 23, 11, 28⟩) (iB "thing" "not a number that fits here: " ⟨12, 8, 12, 13⟩ ⟨12, 8, 12, 15⟩ ⟨12, 8, 12, 24⟩ ⟨12, 27, 12, 56⟩ ⟨12, 57, 12, 62⟩ ⟨12, 56, 12, 65⟩ ⟨12, 25, 12, 66⟩ ⟨12, 8, 12, 67⟩ ⟨12, 8, 12, 67⟩ ⟨13, 8, 13, 12⟩ ⟨13, 8, 13, 18⟩ ⟨13, 21, 13, 26⟩ ⟨13, 8, 13, 26⟩) (iS "thing") [("__class__", cc)] .none .none dci pmi ani (.ref cda) cti), sli⟩)
    (i_c : PySem.W.codeIn K (.ref cda) "InvalidNumber.__init__" = true)
    (i_cc : K.lookup cc = some ⟨xl0, xl1, .cell (some (.ref C)), xl2⟩)
    (i_cd : K.lookup cda = some ⟨xd0, xd1, .fields cdf, xd2⟩)
    (i_f2 : cdf[2]? = some (.str file tf))
    (i_fe : ((P.main.file : Str) == file) = true)
    (i_top : (P.main.scope.names.lookup ("super" : Str)).isSome = false)
    (s_bP : PySem.W.subIn K (.ref cP) (.type "BaseException") = some true)
    (s_iP : PySem.W.isClsIn K cP = true)
    (s_tP : PySem.W.typeIn K (.ref cP) = some (.type "type"))
    (s_sP : PySem.W.subIn K (.ref C) (.ref cP) = some true)
    (s_bS : PySem.W.subIn K (.ref cS) (.type "BaseException") = some true)
    (s_iS : PySem.W.isClsIn K cS = true)
    (s_tS : PySem.W.typeIn K (.ref cS) = some (.type "type"))
    (s_sS : PySem.W.subIn K (.ref C) (.ref cS) = some false)
    (s_bM : PySem.W.subIn K (.ref cM) (.type "BaseException") = some true)
    (s_iM : PySem.W.isClsIn K cM = true)
    (s_tM : PySem.W.typeIn K (.ref cM) = some (.type "type"))
    (s_sM : PySem.W.subIn K (.ref C) (.ref cM) = some false)
    (n_a : PySem.W.nsIn K mainGlobals "number" = some (some (.ref fNum)))
    (n_l : K.lookup fNum = some ⟨on, on1, .func (PySem.W.fnOf "number" "number" (defArgs sNum) (defBody sNum) (defScope sNum) (.ref tN) kVn dcn pmn ann cdn ctn), sln⟩)
    (n_t : K.lookup tN = some ⟨ot, ot1, .seq #[.int 1 tk1] tm, slt⟩)
    (n_c : PySem.W.codeIn K cdn "number" = true)
    (n_k : PySem.W.keepIn K (.ref fNum) = true)
    (a0 : PySem.W.nsIn K mainGlobals "is_integer" = some (some (.ref f0)))
    (l0 : K.lookup f0 = some ⟨oc0, od0, .func (PySem.W.fnOf "is_integer" "is_integer" (defArgs sIsI) (defBody sIsI) (defScope sIsI) .none kV0 dc0 pm0 an0 cd0 ct0), sl0⟩)
    (c0 : PySem.W.codeIn K cd0 "is_integer" = true)
    (k0 : PySem.W.keepIn K (.ref f0) = true)
    (a1 : PySem.W.nsIn K mainGlobals "is_number" = some (some (.ref f1)))
    (l1 : K.lookup f1 = some ⟨oc1, od1, .func (PySem.W.fnOf "is_number" "is_number" (defArgs sIsN) (defBody sIsN) (defScope sIsN) .none kV1 dc1 pm1 an1 cd1 ct1), sl1⟩)
    (c1 : PySem.W.codeIn K cd1 "is_number" = true)
    (k1 : PySem.W.keepIn K (.ref f1) = true)
    (a2 : PySem.W.nsIn K mainGlobals "is_positive" = some (some (.ref f2)))
    (l2 : K.lookup f2 = some ⟨oc2, od2, .func (PySem.W.fnOf "is_positive" "is_positive" (defArgs sPos) (defBody sPos) (defScope sPos) .none kV2 dc2 pm2 an2 cd2 ct2), sl2⟩)
    (c2 : PySem.W.codeIn K cd2 "is_positive" = true)
    (k2 : PySem.W.keepIn K (.ref f2) = true)
    (a3 : PySem.W.nsIn K mainGlobals "is_pace" = some (some (.ref f3)))
    (l3 : K.lookup f3 = some ⟨oc3, od3, .func (PySem.W.fnOf "is_pace" "is_pace" (defArgs sPac) (defBody sPac) (defScope sPac) .none kV3 dc3 pm3 an3 cd3 ct3), sl3⟩)
    (c3 : PySem.W.codeIn K cd3 "is_pace" = true)
    (k3 : PySem.W.keepIn K (.ref f3) = true)
    (a4 : PySem.W.nsIn K mainGlobals "is_factor" = some (some (.ref f4)))
    (l4 : K.lookup f4 = some ⟨oc4, od4, .func (PySem.W.fnOf "is_factor" "is_factor" (defArgs sFac) (defBody sFac) (defScope sFac) .none kV4 dc4 pm4 an4 cd4 ct4), sl4⟩)
    (c4 : PySem.W.codeIn K cd4 "is_factor" = true)
    (k4 : PySem.W.keepIn K (.ref f4) = true)
    (a5 : PySem.W.nsIn K mainGlobals "is_length" = some (some (.ref f5)))
    (l5 : K.lookup f5 = some ⟨oc5, od5, .func (PySem.W.fnOf "is_length" "is_length" (defArgs sLen) (defBody sLen) (defScope sLen) .none kV5 dc5 pm5 an5 cd5 ct5), sl5⟩)
    (c5 : PySem.W.codeIn K cd5 "is_length" = true)
    (k5 : PySem.W.keepIn K (.ref f5) = true)
    (a6 : PySem.W.nsIn K mainGlobals "check_number" = some (some (.ref f6)))
    (l6 : K.lookup f6 = some ⟨oc6, od6, .func (PySem.W.fnOf "check_number" "check_number" (defArgs sChk) (defBody sChk) (defScope sChk) .none kV6 dc6 pm6 an6 cd6 ct6), sl6⟩)
    (c6 : PySem.W.codeIn K cd6 "check_number" = true)
    (k6 : PySem.W.keepIn K (.ref f6) = true)
    (a7 : PySem.W.nsIn K mainGlobals "number_text" = some (some (.ref f7)))
    (l7 : K.lookup f7 = some ⟨oc7, od7, .func (PySem.W.fnOf "number_text" "number_text" (defArgs sTxt) (defBody sTxt) (defScope sTxt) .none kV7 dc7 pm7 an7 cd7 ct7), sl7⟩)
    (c7 : PySem.W.codeIn K cd7 "number_text" = true)
    (k7 : PySem.W.keepIn K (.ref f7) = true)
    (a8 : PySem.W.nsIn K mainGlobals "_law_begin" = some (some (.ref f8)))
    (l8 : K.lookup f8 = some ⟨oc8, od8, .func (PySem.W.fnOf "_law_begin" "_law_begin" (defArgs sBegin) (defBody sBegin) (defScope sBegin) .none kV8 dc8 pm8 an8 cd8 ct8), sl8⟩)
    (c8 : PySem.W.codeIn K cd8 "_law_begin" = true)
    (k8 : PySem.W.keepIn K (.ref f8) = true)
    (a9 : PySem.W.nsIn K mainGlobals "_law_mixed" = some (some (.ref f9)))
    (l9 : K.lookup f9 = some ⟨oc9, od9, .func (PySem.W.fnOf "_law_mixed" "_law_mixed" (defArgs sMixed) (defBody sMixed) (defScope sMixed) .none kV9 dc9 pm9 an9 cd9 ct9), sl9⟩)
    (c9 : PySem.W.codeIn K cd9 "_law_mixed" = true)
    (k9 : PySem.W.keepIn K (.ref f9) = true)
    (a10 : PySem.W.nsIn K mainGlobals "_law_next" = some (some (.ref f10)))
    (l10 : K.lookup f10 = some ⟨oc10, od10, .func (PySem.W.fnOf "_law_next" "_law_next" (defArgs sNext) (defBody sNext) (defScope sNext) .none kV10 dc10 pm10 an10 cd10 ct10), sl10⟩)
    (c10 : PySem.W.codeIn K cd10 "_law_next" = true)
    (k10 : PySem.W.keepIn K (.ref f10) = true)
    (a11 : PySem.W.nsIn K mainGlobals "_law_divisor" = some (some (.ref f11)))
    (l11 : K.lookup f11 = some ⟨oc11, od11, .func (PySem.W.fnOf "_law_divisor" "_law_divisor" (defArgs sDvs) (defBody sDvs) (defScope sDvs) .none kV11 dc11 pm11 an11 cd11 ct11), sl11⟩)
    (c11 : PySem.W.codeIn K cd11 "_law_divisor" = true)
    (k11 : PySem.W.keepIn K (.ref f11) = true)
    (a12 : PySem.W.nsIn K mainGlobals "_law_is_integer" = some (some (.ref f12)))
    (l12 : K.lookup f12 = some ⟨oc12, od12, .func (PySem.W.fnOf "_law_is_integer" "_law_is_integer" (defArgs sLI) (defBody sLI) (defScope sLI) .none kV12 dc12 pm12 an12 cd12 ct12), sl12⟩)
    (c12 : PySem.W.codeIn K cd12 "_law_is_integer" = true)
    (k12 : PySem.W.keepIn K (.ref f12) = true)
    (a13 : PySem.W.nsIn K mainGlobals "_law_is_number" = some (some (.ref f13)))
    (l13 : K.lookup f13 = some ⟨oc13, od13, .func (PySem.W.fnOf "_law_is_number" "_law_is_number" (defArgs sLN) (defBody sLN) (defScope sLN) .none kV13 dc13 pm13 an13 cd13 ct13), sl13⟩)
    (c13 : PySem.W.codeIn K cd13 "_law_is_number" = true)
    (k13 : PySem.W.keepIn K (.ref f13) = true)
    (a14 : PySem.W.nsIn K mainGlobals "_law_is_within" = some (some (.ref f14)))
    (l14 : K.lookup f14 = some ⟨oc14, od14, .func (PySem.W.fnOf "_law_is_within" "_law_is_within" (defArgs sWit) (defBody sWit) (defScope sWit) .none kV14 dc14 pm14 an14 cd14 ct14), sl14⟩)
    (c14 : PySem.W.codeIn K cd14 "_law_is_within" = true)
    (k14 : PySem.W.keepIn K (.ref f14) = true)
    (a15 : PySem.W.nsIn K mainGlobals "_law_integer" = some (some (.ref f15)))
    (l15 : K.lookup f15 = some ⟨oc15, od15, .func (PySem.W.fnOf "_law_integer" "_law_integer" (defArgs sInt) (defBody sInt) (defScope sInt) .none kV15 dc15 pm15 an15 cd15 ct15), sl15⟩)
    (c15 : PySem.W.codeIn K cd15 "_law_integer" = true)
    (k15 : PySem.W.keepIn K (.ref f15) = true)
    (a16 : PySem.W.nsIn K mainGlobals "_law_thing" = some (some (.ref f16)))
    (l16 : K.lookup f16 = some ⟨oc16, od16, .func (PySem.W.fnOf "_law_thing" "_law_thing" (defArgs sThi) (defBody sThi) (defScope sThi) .none kV16 dc16 pm16 an16 cd16 ct16), sl16⟩)
    (c16 : PySem.W.codeIn K cd16 "_law_thing" = true)
    (k16 : PySem.W.keepIn K (.ref f16) = true)
    (a17 : PySem.W.nsIn K mainGlobals "_law_told" = some (some (.ref f17)))
    (l17 : K.lookup f17 = some ⟨oc17, od17, .func (PySem.W.fnOf "_law_told" "_law_told" (defArgs sTol) (defBody sTol) (defScope sTol) .none kV17 dc17 pm17 an17 cd17 ct17), sl17⟩)
    (c17 : PySem.W.codeIn K cd17 "_law_told" = true)
    (k17 : PySem.W.keepIn K (.ref f17) = true)
    (a18 : PySem.W.nsIn K mainGlobals "_law_quotient" = some (some (.ref f18)))
    (l18 : K.lookup f18 = some ⟨oc18, od18, .func (PySem.W.fnOf "_law_quotient" "_law_quotient" (defArgs sQuo) (defBody sQuo) (defScope sQuo) .none kV18 dc18 pm18 an18 cd18 ct18), sl18⟩)
    (c18 : PySem.W.codeIn K cd18 "_law_quotient" = true)
    (k18 : PySem.W.keepIn K (.ref f18) = true)
    (a19 : PySem.W.nsIn K mainGlobals "_law_due" = some (some (.ref f19)))
    (l19 : K.lookup f19 = some ⟨oc19, od19, .func (PySem.W.fnOf "_law_due" "_law_due" (defArgs sDue) (defBody sDue) (defScope sDue) .none kV19 dc19 pm19 an19 cd19 ct19), sl19⟩)
    (c19 : PySem.W.codeIn K cd19 "_law_due" = true)
    (k19 : PySem.W.keepIn K (.ref f19) = true)
    (a20 : PySem.W.nsIn K mainGlobals "_law_right" = some (some (.ref f20)))
    (l20 : K.lookup f20 = some ⟨oc20, od20, .func (PySem.W.fnOf "_law_right" "_law_right" (defArgs sRig) (defBody sRig) (defScope sRig) .none kV20 dc20 pm20 an20 cd20 ct20), sl20⟩)
    (c20 : PySem.W.codeIn K cd20 "_law_right" = true)
    (k20 : PySem.W.keepIn K (.ref f20) = true)
    (a21 : PySem.W.nsIn K mainGlobals "law" = some (some (.ref f21)))
    (l21 : K.lookup f21 = some ⟨oc21, od21, .func (PySem.W.fnOf "law" "law" (defArgs sLaw) (defBody sLaw) (defScope sLaw) .none kV21 dc21 pm21 an21 cd21 ct21), sl21⟩)
    (c21 : PySem.W.codeIn K cd21 "law" = true)
    (k21 : PySem.W.keepIn K (.ref f21) = true) :
    ∃ fd : FuncData, (∀ (s : Shared) (u : Value), BindsTo s fd ⟨[u], []⟩ [("script", u)]) ∧ ∀ base : Heap, K.In base → base.Ns mainGlobals mg → FnG P w K mg base 7 fa fd ["script"] (spLaw K) := by
  have e := hfa.symm.trans (PySem.W.mg_of X G a21)
  cases e
  have ex : ExT P K mg C fI "thing" "ValueError" "ValueError.__new__" "ValueError.__init__" [.type "ValueError", .type "Exception", .type "BaseException", .type "object"] :=
    { cls := ⟨nm, q, N, bs, _, sn, sub, ab, col, dd, m0, m1, m2, m3, m5, xL, by with_unfolding_all rfl⟩, sa := e_sa, ga := e_ga, gg := e_gg, noF := e_nF, iC := e_iC, tI := e_tI, kC := e_kC, exC := e_ex, tyC := e_ty, hdC := e_hd, sup := e_su, hB := e_hB, self := e_me, opq := e_op, nsup := z_super, ca := e_ca, cn := e_cn, ct := e_ct, cm := e_cm,
      fn := ⟨_, _, _, _, _, _, _, _, _, _, _, _, _, _, _, _, _, _, _, _, _, _, _, _, _, _, rfl, i_l, i_c, by decide +kernel, ⟨_, _, _, i_cc⟩, ⟨_, _, _, _, _, _, i_cd, i_f2, i_fe⟩⟩, top := i_top }
  have F0 := fun_mk (st := sIsI) l0 c0 k0
  have b0 := F0.binds (ps := ["thing"]) fun _ _ _ _ _ _ us hl => match us, hl with | [_], _ => rfl
  have F1 := fun_mk (st := sIsN) l1 c1 k1
  have b1 := F1.binds (ps := ["thing"]) fun _ _ _ _ _ _ us hl => match us, hl with | [_], _ => rfl
  have F2 := fun_mk (st := sPos) l2 c2 k2
  have b2 := F2.binds (ps := ["thing"]) fun _ _ _ _ _ _ us hl => match us, hl with | [_], _ => rfl
  have F3 := fun_mk (st := sPac) l3 c3 k3
  have b3 := F3.binds (ps := ["thing"]) fun _ _ _ _ _ _ us hl => match us, hl with | [_], _ => rfl
  have F4 := fun_mk (st := sFac) l4 c4 k4
  have b4 := F4.binds (ps := ["thing"]) fun _ _ _ _ _ _ us hl => match us, hl with | [_], _ => rfl
  have F5 := fun_mk (st := sLen) l5 c5 k5
  have b5 := F5.binds (ps := ["thing"]) fun _ _ _ _ _ _ us hl => match us, hl with | [_], _ => rfl
  have F6 := fun_mk (st := sChk) l6 c6 k6
  have b6 := F6.binds (ps := ["thing"]) fun _ _ _ _ _ _ us hl => match us, hl with | [_], _ => rfl
  have F7 := fun_mk (st := sTxt) l7 c7 k7
  have b7 := F7.binds (ps := ["value"]) fun _ _ _ _ _ _ us hl => match us, hl with | [_], _ => rfl
  have F8 := fun_mk (st := sBegin) l8 c8 k8
  have b8 := F8.binds (ps := ["script"]) fun _ _ _ _ _ _ us hl => match us, hl with | [_], _ => rfl
  have F9 := fun_mk (st := sMixed) l9 c9 k9
  have b9 := F9.binds (ps := ["cell", "k"]) fun _ _ _ _ _ _ us hl => match us, hl with | [_, _], _ => rfl
  have F10 := fun_mk (st := sNext) l10 c10 k10
  have b10 := F10.binds (ps := ["draw", "bound"]) fun _ _ _ _ _ _ us hl => match us, hl with | [_, _], _ => rfl
  have F11 := fun_mk (st := sDvs) l11 c11 k11
  have b11 := F11.binds (ps := ["one", "other"]) fun _ _ _ _ _ _ us hl => match us, hl with | [_, _], _ => rfl
  have F12 := fun_mk (st := sLI) l12 c12 k12
  have b12 := F12.binds (ps := ["what"]) fun _ _ _ _ _ _ us hl => match us, hl with | [_], _ => rfl
  have F13 := fun_mk (st := sLN) l13 c13 k13
  have b13 := F13.binds (ps := ["what"]) fun _ _ _ _ _ _ us hl => match us, hl with | [_], _ => rfl
  have F14 := fun_mk (st := sWit) l14 c14 k14
  have b14 := F14.binds (ps := ["what", "top", "bottom"]) fun _ _ _ _ _ _ us hl => match us, hl with | [_, _, _], _ => rfl
  have F15 := fun_mk (st := sInt) l15 c15 k15
  have b15 := F15.binds (ps := ["draw"]) fun _ _ _ _ _ _ us hl => match us, hl with | [_], _ => rfl
  have F16 := fun_mk (st := sThi) l16 c16 k16
  have b16 := F16.binds (ps := ["draw"]) fun _ _ _ _ _ _ us hl => match us, hl with | [_], _ => rfl
  have F17 := fun_mk (st := sTol) l17 c17 k17
  have b17 := F17.binds (ps := ["what"]) fun _ _ _ _ _ _ us hl => match us, hl with | [_], _ => rfl
  have F18 := fun_mk (st := sQuo) l18 c18 k18
  have b18 := F18.binds (ps := ["one", "other"]) fun _ _ _ _ _ _ us hl => match us, hl with | [_, _], _ => rfl
  have F19 := fun_mk (st := sDue) l19 c19 k19
  have b19 := F19.binds (ps := ["one", "other"]) fun _ _ _ _ _ _ us hl => match us, hl with | [_, _], _ => rfl
  have F20 := fun_mk (st := sRig) l20 c20 k20
  have b20 := F20.binds (ps := ["what"]) fun _ _ _ _ _ _ us hl => match us, hl with | [_], _ => rfl
  have F21 := fun_mk (st := sLaw) l21 c21 k21
  have FN : FunD K "number" "number" (defArgs sNum) (defBody sNum) (defScope sNum) [.int 1] [] fNum _ := ⟨⟨_, _, _, _, _, _, _, _, _, _, rfl, n_l, n_c, .inr ⟨(fun z => nomatch z), tN, _, [.int 1 tk1], tm, rfl, n_t, rfl, .cons ⟨tk1, rfl⟩ .nil⟩, .inl rfl⟩, n_k⟩
  obtain ⟨ds, rds, bN⟩ := FN.binds1 (ps := ["above", "below"]) 2 1 (fun z => nomatch z) rfl fun T kV doc pm an cdv ct us its hu hi => match us, its, hu, hi with
    | [u, v], [d], _, _ => ⟨_, rfl, rfl⟩
  cases rds
  obtain ⟨ds, rds, bD⟩ := FN.binds1 (ps := ["above", "below"]) 1 0 (fun z => nomatch z) rfl fun T kV doc pm an cdv ct us its hu hi => match us, its, hu, hi with
    | [u], [d], _, _ => ⟨_, rfl, rfl⟩
  cases rds with
  | cons rd1 rdn =>
  cases rdn
  have kNum : KBinds K _ ["above", "below"] ["below", "above"] swG swV := kb_swapL (fd := PySem.W.fnOf "number" "number" (defArgs sNum) (defBody sNum) (defScope sNum) (.ref tN) kVn dcn pmn ann cdn ctn) fun s u v hk => BindsTo.of_looks fun M => by
    obtain ⟨k, e1, e2⟩ : ∃ k, bindArgs (PySem.W.fnOf "number" "number" (defArgs sNum) (defBody sNum) (defScope sNum) (.ref tN) kVn dcn pmn ann cdn ctn) ⟨[], [((Str.ofString "below" : Str), u), ((Str.ofString "above" : Str), v)]⟩ = seqItems? (.ref tN) >>= k ∧ k (some #[Value.int 1 tk1]) = pure [((Str.ofString "above" : Str), v), ((Str.ofString "below" : Str), u)] := ⟨_, rfl, rfl⟩
    rw [e1]
    exact looks_items hk n_t rfl (PySem.W.Looks.of_pure e2)
  have TN : TxtN P K mg C fI fNum f0 f1 f6 := ⟨ex, PySem.W.mg_of X G aC, PySem.W.mg_none_of X G z_super, PySem.W.mg_none_of X G z_len, PySem.W.mg_none_of X G z_isinstance, PySem.W.mg_none_of X G z_int, PySem.W.mg_none_of X G z_bool, PySem.W.mg_none_of X G z_tuple, PySem.W.mg_of X G aG,
    PySem.W.mg_of X G n_a, n_k, (PySem.W.mg_of X G a0), k0, (PySem.W.mg_of X G a1), k1, (PySem.W.mg_of X G a6), k6⟩
  have TD : TxtD K mg f9 := ⟨PySem.W.mg_none_of X G z_len, (PySem.W.mg_of X G a9), k9⟩
  have TI : TxtI K mg f10 := ⟨(PySem.W.mg_of X G a10), k10⟩
  have TL : TxtL mg := ⟨PySem.W.mg_none_of X G z_max, PySem.W.mg_none_of X G z_min, PySem.W.mg_none_of X G z_range, PySem.W.mg_none_of X G z_repr, PySem.W.mg_none_of X G z_str⟩
  have TW : TxtW K mg C cP cS cM := ⟨PySem.W.mg_of X G aP, PySem.W.mg_of X G aS, PySem.W.mg_of X G aM, exm_three (exm_of s_bP s_iP s_tP s_sP) (exm_of s_bS s_iS s_tS s_sS) (exm_of s_bM s_iM s_tM s_sM), kit_same⟩
  have kOne : ∀ (nm : Str) (st : Stmt) (f : Addr) (fd : FuncData) (x : Str), Fun K nm nm st f fd → (∀ (kV doc pm cdv ct : Value) (an : Option Addr) (u : Value), bindArgs (PySem.W.fnOf nm nm (defArgs st) (defBody st) (defScope st) .none kV doc pm an cdv ct) ⟨[], [(x, u)]⟩ = pure [(x, u)]) → KBinds K fd [x] [x] onG onV := by
    intro nm st f fd x F h
    obtain ⟨oc, od, kV, doc, pm, an, cdv, ct, osl, rfl, lk, hcd⟩ := F.ex
    exact kb_one fun u => h _ _ _ _ _ _ u
  refine ⟨PySem.W.fnOf "law" "law" (defArgs sLaw) (defBody sLaw) (defScope sLaw) .none kV21 dc21 pm21 an21 cd21 ct21, fun s u => .of_eq rfl, fun base _ _ => ?_⟩
  have GX : FnG P w K mg base 2 f10 _ ["draw", "bound"] spNext := ok_next F10 TD F9 b9
  have GM : FnG P w K mg base 2 fNum _ ["above", "below"] (spNum K C) := ok_num FN TN F0 b0
  have cM0 : Cal P w K mg base "number" fNum _ 2 ["above", "below"] (spNum K C) := ⟨GM, PySem.W.mg_of X G n_a, n_k, bN⟩
  have cNu : Cal P w K mg base "is_number" _ _ 2 ["thing"] (spIsN K) := ⟨ok_isN F1 TN F0 b0, (PySem.W.mg_of X G a1), k1, b1⟩
  have cCh : Cal P w K mg base "check_number" _ _ 3 ["thing"] (spChk K C) := ⟨ok_chk F6 TN F1 b1 F0 b0, (PySem.W.mg_of X G a6), k6, b6⟩
  have cLI : Cal P w K mg base "_law_is_integer" _ _ 1 ["what"] (spIsI K) := ⟨ok_LI F12 TN, (PySem.W.mg_of X G a12), k12, b12⟩
  have cDv : Cal P w K mg base "_law_divisor" _ _ 1 ["one", "other"] spDvs := ⟨ok_dvs F11 TL, (PySem.W.mg_of X G a11), k11, b11⟩
  have GLN : FnG P w K mg base 2 _ _ ["what"] (spLN K) := ok_LN F13 TN cLI cDv
  have cLN : Cal P w K mg base "_law_is_number" _ _ 2 ["what"] (spLN K) := ⟨GLN, (PySem.W.mg_of X G a13), k13, b13⟩
  have cLNb : Cal P w K mg base "_law_is_number" _ _ 2 ["what"] (bx (spLN K)) := ⟨fn_bx GLN, (PySem.W.mg_of X G a13), k13, b13⟩
  have cWi : Cal P w K mg base "_law_is_within" _ _ 3 ["what", "top", "bottom"] (bx (spWit K)) := ⟨fn_bx (ok_wit F14 cLN), (PySem.W.mg_of X G a14), k14, b14⟩
  have cPo : Cal P w K mg base "is_positive" _ _ 3 ["thing"] (spB K isP) := ⟨ok_pos F2 cNu, (PySem.W.mg_of X G a2), k2, b2⟩
  have cFa : Cal P w K mg base "is_factor" _ _ 4 ["thing"] (spB K (isW 60 60)) := ⟨ok_fac F4 cPo, (PySem.W.mg_of X G a4), k4, b4⟩
  have cLe : Cal P w K mg base "is_length" _ _ 4 ["thing"] (spB K (isW 999999 999)) := ⟨ok_len F5 cPo, (PySem.W.mg_of X G a5), k5, b5⟩
  have cPa : Cal P w K mg base "is_pace" _ _ 5 ["thing"] (spB K fun d => isW 60 60 d || isZ d) := ⟨ok_pac F3 cNu cFa, (PySem.W.mg_of X G a3), k3, b3⟩
  have cTx : Cal P w K mg base "number_text" _ _ 4 ["value"] (spTxt K C) := ⟨ok_txt F7 TL cCh, (PySem.W.mg_of X G a7), k7, b7⟩
  have cTo : Cal P w K mg base "_law_told" _ _ 5 ["what"] (bx (spTol K)) := ⟨fn_bx (ok_tol F17 TN TW cTx (kOne _ _ _ _ _ F7 fun _ _ _ _ _ _ _ => rfl)), (PySem.W.mg_of X G a17), k17, b17⟩
  have cQu : Cal P w K mg base "_law_quotient" _ _ 3 ["one", "other"] (bx (spQuo K)) := ⟨fn_bx (ok_quo F18 TN TW cM0 kNum), (PySem.W.mg_of X G a18), k18, b18⟩
  have cDu : Cal P w K mg base "_law_due" _ _ 2 ["one", "other"] (bx (spQuo K)) := ⟨fn_bx (ok_due F19 cLI cDv), (PySem.W.mg_of X G a19), k19, b19⟩
  have CC : Cals P w K mg base C _ _ _ _ _ _ _ _ _ _ _ _ _ _ _ _ := ⟨cLNb, cWi, cNu, cFa, cLe, cPa, cTo, cM0, kOne _ _ _ _ _ F1 (fun _ _ _ _ _ _ _ => rfl), kOne _ _ _ _ _ F4 (fun _ _ _ _ _ _ _ => rfl), kOne _ _ _ _ _ F5 (fun _ _ _ _ _ _ _ => rfl), kOne _ _ _ _ _ F3 (fun _ _ _ _ _ _ _ => rfl)⟩
  have cRi : Cal P w K mg base "_law_right" _ _ 6 ["what"] (bx (spRig K)) := ⟨fn_bx (ok_rig F20 TL CC), (PySem.W.mg_of X G a20), k20, b20⟩
  have cIn : Cal P w K mg base "_law_integer" _ _ 3 ["draw"] (bx spInt) := ⟨fn_bx (ok_int F15 TL TI GX b10), (PySem.W.mg_of X G a15), k15, b15⟩
  have cTh : Cal P w K mg base "_law_thing" _ _ 4 ["draw"] (bx (spThi K)) := ⟨fn_bx (ok_thi F16 TL TI GX b10 cIn), (PySem.W.mg_of X G a16), k16, b16⟩
  have cB : Cal P w K mg base "_law_begin" _ _ 1 ["script"] (bx (spBegin K)) := ⟨fn_bx (ok_begin F8), (PySem.W.mg_of X G a8), k8, b8⟩
  exact ok_law F21 TN TL GM bD (.cons rd1 .nil) cQu cDu TI GX b10 cTh cIn cRi cB
theorem walk {l : PySem.W.OpenLaw} {q : Program} {loose : List Str} {XP : (Str → Option Value) → Heap → Prop} {YP : World → Heap → Prop} {d : DefRec} {K : Params → PySem.W.Frag} (hn : l.most = some 63) (hdf : d.params.defaults = [])
    (own : ∀ (w : World) (h : Heap), YP w h → (K w.params).In h)
    (F : ∀ (w : World) (mg : Str → Option Value) (fa : Addr) (h : Heap), (K w.params).In h → h.Ns mainGlobals mg → mg d.name = some (.ref fa) →
      ∃ fd : FuncData, (∀ (s : Shared) (u : Value), BindsTo s fd ⟨[u], []⟩ [("script", u)]) ∧ ∀ base : Heap, (K w.params).In base → base.Ns mainGlobals mg → FnG l.prog w (K w.params) mg base 7 fa fd ["script"] (spLaw (K w.params))) :
    PySem.W.WalkO q loose XP YP l.row.toRowW d [] (fun f vs => PySem.call f vs) :=
  walk_ofG (n := 63) (k := 7) (x := "script") (sp := spLaw) hn (by decide) hdf ⟨rfl, by decide, by decide⟩ own F fun _ _ a ns hl hS => ⟨a, ns, rfl, hS, hl, fun _ => rfl⟩
end K2
set_option Elab.async false
set_option linter.all false
open PySem PySem.W PyProof.Rows
set_option maxRecDepth 100000 in
set_option maxHeartbeats 0 in
theorem PySem.Challenge.cw_roompace_k02_numbers_recognized_holds : PySem.Challenge.rw_roompace_k02_numbers_recognized.Holds := by
  w_on; o_law; k_head; (case hw => w_witness2)
  k_fill
  refine K2.walk (l := PySem.Challenge.rw_roompace_k02_numbers_recognized) rfl rfl (fun w h Y => PySem.W.kIn_of Y) ?F
  case F =>
    intro w mg fa h KX G hmg
    refine' K2.all_mk KX G hmg ?aC ?aP ?aS ?aM ?aG ?z_len ?z_isinstance ?z_int ?z_bool ?z_tuple ?z_super ?z_range ?z_max ?z_min ?z_repr ?z_str ?xL ?e_sa ?e_ga ?e_gg ?e_nF ?e_iC ?e_tI ?e_kC ?e_ex ?e_ty ?e_hd ?e_su ?e_hB ?e_me ?e_op ?e_ca ?e_cn ?e_ct ?e_cm ?i_l ?i_c ?i_cc ?i_cd ?i_f2 ?i_fe ?i_top ?s_bP ?s_iP ?s_tP ?s_sP ?s_bS ?s_iS ?s_tS ?s_sS ?s_bM ?s_iM ?s_tM ?s_sM ?n_a ?n_l ?n_t ?n_c ?n_k ?a0 ?l0 ?c0 ?k0 ?a1 ?l1 ?c1 ?k1 ?a2 ?l2 ?c2 ?k2 ?a3 ?l3 ?c3 ?k3 ?a4 ?l4 ?c4 ?k4 ?a5 ?l5 ?c5 ?k5 ?a6 ?l6 ?c6 ?k6 ?a7 ?l7 ?c7 ?k7 ?a8 ?l8 ?c8 ?k8 ?a9 ?l9 ?c9 ?k9 ?a10 ?l10 ?c10 ?k10 ?a11 ?l11 ?c11 ?k11 ?a12 ?l12 ?c12 ?k12 ?a13 ?l13 ?c13 ?k13 ?a14 ?l14 ?c14 ?k14 ?a15 ?l15 ?c15 ?k15 ?a16 ?l16 ?c16 ?k16 ?a17 ?l17 ?c17 ?k17 ?a18 ?l18 ?c18 ?k18 ?a19 ?l19 ?c19 ?k19 ?a20 ?l20 ?c20 ?k20 ?a21 ?l21 ?c21 ?k21
    (case aC => k_is)
    (case aP => k_is)
    (case aS => k_is)
    (case aM => k_is)
    (case aG => k_is)
    (case z_len => k_is)
    (case z_isinstance => k_is)
    (case z_int => k_is)
    (case z_bool => k_is)
    (case z_tuple => k_is)
    (case z_super => k_is)
    (case z_range => k_is)
    (case z_max => k_is)
    (case z_min => k_is)
    (case z_repr => k_is)
    (case z_str => k_is)
    (case xL => k_is)
    (case e_sa => k_is)
    (case e_ga => k_is)
    (case e_gg => k_is)
    (case e_nF => k_is)
    (case e_iC => k_is)
    (case e_tI => k_is)
    (case e_kC => k_is)
    (case e_ex => k_is)
    (case e_ty => k_is)
    (case e_hd => k_is)
    (case e_su => ks_is)
    (case e_hB => k_is)
    (case e_me => k_is)
    (case e_op => k_is)
    (case e_ca => k_is)
    (case e_cn => k_is)
    (case e_ct => k_is)
    (case e_cm => k_is)
    (case i_l => k_is)
    (case i_c => k_is)
    (case i_cc => k_is)
    (case i_cd => k_is)
    (case i_f2 => rfl)
    (case i_fe => (first | rfl | decide))
    (case i_top => (first | rfl | decide))
    (case s_bP => k_is)
    (case s_iP => k_is)
    (case s_tP => k_is)
    (case s_sP => k_is)
    (case s_bS => k_is)
    (case s_iS => k_is)
    (case s_tS => k_is)
    (case s_sS => k_is)
    (case s_bM => k_is)
    (case s_iM => k_is)
    (case s_tM => k_is)
    (case s_sM => k_is)
    (case n_a => k_is)
    (case n_l => k_is)
    (case n_t => k_is)
    (case n_c => k_is)
    (case n_k => k_is)
    (case a0 => k_is)
    (case l0 => k_is)
    (case c0 => k_is)
    (case k0 => k_is)
    (case a1 => k_is)
    (case l1 => k_is)
    (case c1 => k_is)
    (case k1 => k_is)
    (case a2 => k_is)
    (case l2 => k_is)
    (case c2 => k_is)
    (case k2 => k_is)
    (case a3 => k_is)
    (case l3 => k_is)
    (case c3 => k_is)
    (case k3 => k_is)
    (case a4 => k_is)
    (case l4 => k_is)
    (case c4 => k_is)
    (case k4 => k_is)
    (case a5 => k_is)
    (case l5 => k_is)
    (case c5 => k_is)
    (case k5 => k_is)
    (case a6 => k_is)
    (case l6 => k_is)
    (case c6 => k_is)
    (case k6 => k_is)
    (case a7 => k_is)
    (case l7 => k_is)
    (case c7 => k_is)
    (case k7 => k_is)
    (case a8 => k_is)
    (case l8 => k_is)
    (case c8 => k_is)
    (case k8 => k_is)
    (case a9 => k_is)
    (case l9 => k_is)
    (case c9 => k_is)
    (case k9 => k_is)
    (case a10 => k_is)
    (case l10 => k_is)
    (case c10 => k_is)
    (case k10 => k_is)
    (case a11 => k_is)
    (case l11 => k_is)
    (case c11 => k_is)
    (case k11 => k_is)
    (case a12 => k_is)
    (case l12 => k_is)
    (case c12 => k_is)
    (case k12 => k_is)
    (case a13 => k_is)
    (case l13 => k_is)
    (case c13 => k_is)
    (case k13 => k_is)
    (case a14 => k_is)
    (case l14 => k_is)
    (case c14 => k_is)
    (case k14 => k_is)
    (case a15 => k_is)
    (case l15 => k_is)
    (case c15 => k_is)
    (case k15 => k_is)
    (case a16 => k_is)
    (case l16 => k_is)
    (case c16 => k_is)
    (case k16 => k_is)
    (case a17 => k_is)
    (case l17 => k_is)
    (case c17 => k_is)
    (case k17 => k_is)
    (case a18 => k_is)
    (case l18 => k_is)
    (case c18 => k_is)
    (case k18 => k_is)
    (case a19 => k_is)
    (case l19 => k_is)
    (case c19 => k_is)
    (case k19 => k_is)
    (case a20 => k_is)
    (case l20 => k_is)
    (case c20 => k_is)
    (case k20 => k_is)
    (case a21 => k_is)
    (case l21 => k_is)
    (case c21 => k_is)
    (case k21 => k_is)
