import PyProof.Rows.All
import Wide.All
import OpenK.AllK
import Wide.FinOn
import HandS.Words
import HandS.ForMost
import HandS.IsInst
import HandS.TupAny
import HandS.Style
import HandS.Conv
import HandS.Codes
import KE.SortData
import HandS.SortKw
import HandS.EndTab
import HandS.NestedK
import HandS.Zip
import KE.DataCmp
import HandS.HeadHook4
import HandS.HeadEnd
import HandS.Head2
import HandS.CallRecv
import PySem.Challenge.RW_pathfolios_k03_like_and_keys
set_option Elab.async false
set_option linter.all false
set_option maxRecDepth 100000
set_option maxHeartbeats 4000000
/-! Defs called where no repr is under way: the promises of HandS with one premise more about what runs around. -/
namespace Dat
open PySem PySem.Spec PyProof.Rows L2

/-- nothing that guards against itself is under way -/
abbrev Gd (A : Around) : Prop := A.guards = some []
theorem Gd.deeper {A : Around} {env : Env} (g : Gd A) : Gd (A.deeper env) := g

structure FnG (P : Program) (w : World) (K : PySem.W.Frag) (mg : Str → Option Value) (base : Heap) (k : Nat) (f : Addr) (fd : FuncData) (ps : List Str) (sp : Sp) : Prop where
  len : ∀ vs H Q E, sp vs H Q E → vs.length = ps.length
  run : ∀ (A : Around) (outer : List Env) (s : Shared) (H : Hp) (args : Args) (us : List Value) (vs : List V) (Q : VK) (E : XK),
    Gd A → Room k A → Env0 P w K mg base A outer s H → BindsTo s fd args (ps.zip us) → Vals vs us → sp vs H Q E →
    codeAny (model P w) A (.call (.ref f) args) (CR CX0 outer P w H s Q E) s

section
variable {P : Program} {w : World} {K : PySem.W.Frag} {mg : Str → Option Value} {base : Heap}
theorem FnG.mono {j k : Nat} {f : Addr} {fd : FuncData} {ps : List Str} {sp : Sp} (F : FnG P w K mg base j f fd ps sp) (h : j ≤ k) : FnG P w K mg base k f fd ps sp :=
  ⟨F.len, fun A outer s H args us vs Q E g hr => F.run A outer s H args us vs Q E g (hr.mono h)⟩

/-- a def of the text, its code object told -/
structure FunC (K : PySem.W.Frag) (x qual : Str) (st : Stmt) (f : Addr) (fd : FuncData) (cd : Value) : Prop where
  ex : ∃ (oc : Value) (od : Option Addr) (kV doc pm : Value) (an : Option Addr) (ct : Value) (osl : Array (Option Value)),
    fd = PySem.W.fnOf x qual (defArgs st) (defBody st) (defScope st) .none kV doc pm an cd ct ∧ K.lookup f = some ⟨oc, od, .func fd, osl⟩ ∧ PySem.W.codeIn K cd qual = true
  kp : PySem.W.keepIn K (.ref f) = true
theorem FunC.fn {x qual : Str} {st : Stmt} {f : Addr} {fd : FuncData} {cd : Value} (F : FunC K x qual st f fd cd) : Fun K x qual st f fd := by
  obtain ⟨oc, od, kV, doc, pm, an, ct, osl, e, lk, hcd⟩ := F.ex
  exact ⟨⟨oc, od, kV, doc, pm, an, cd, ct, osl, e, lk, hcd⟩, F.kp⟩
theorem _root_.L2.Fun.code {x qual : Str} {st : Stmt} {f : Addr} {fd : FuncData} (F : Fun K x qual st f fd) : ∃ cd, FunC K x qual st f fd cd := by
  obtain ⟨oc, od, kV, doc, pm, an, cdv, ct, osl, e, lk, hcd⟩ := F.ex
  exact ⟨cdv, ⟨oc, od, kV, doc, pm, an, ct, osl, e, lk, hcd⟩, F.kp⟩

/-- a def of the text by its body, nothing guarded around -/
theorem fnGC {x qual : Str} {st : Stmt} {f : Addr} {fd : FuncData} {N ps : List Str} {k : Nat} {sp : Sp}
    {cdv : Value} (F : FunC K x qual st f fd cdv) (S : FnScope N ps (defScope st))
    (len : ∀ vs H Q E, sp vs H Q E → vs.length = ps.length)
    (body : ∀ (A : Around) (outer : List Env) (s : Shared) (H : Hp) (vs : List V) (Q : VK) (E : XK),
      Gd A → Room k (A.deeper (envOfC qual (defScope st) s.heap.objs.size f cdv)) → sp vs H Q E →
      ∃ t, PSs (cxOf CX0 P w K mg base N qual (defScope st) f cdv A outer s H E).nox (defBody st) t ∧
        t { nx := fun _ H' => Q .non H', rt := Q } (start N vs) H) :
    FnG P w K mg base (k + 1) f fd ps sp := by
  obtain ⟨oc, od, kV, doc, pm, an, ct, osl, e, lk, hcd⟩ := F.ex
  subst e
  refine ⟨len, ?_⟩
  intro A outer s H args us vs Q E gd hr e0 hb rel want
  have keep : ∀ b o, base.get? b = some o → s.heap.get? b = some o := fun b o q => (e0.bs b o q).1
  have inS := e0.mod.kin.keeps keep
  have kinds : ∀ y ∈ ps.zip us, (defScope st).names.lookup y.1 = some .local ∨
      ((defScope st).names.lookup y.1 = some .cell ∧
        ((cellsFrom (s.heap.objs.size + 1) (defScope st).names []).lookup y.1).isSome = true) := by
    rintro ⟨n, v⟩ hy
    cases S.par n (List.of_mem_zip hy).1 with
    | inl q => exact Or.inl q
    | inr q => exact Or.inr ⟨q, PySem.W.cellsFrom_some _ _ _ (Or.inl q)⟩
  refine codeAny_call_function hr.depth (inS _ _ lk) rfl S.co S.gen rfl
    (PySem.W.codeRec_of inS hcd) (hb _ _ _ _ ?_)
  refine wpAny_newFunctionEnv_cells S.kind kinds fun env he s1 x => ?_
  subst he
  refine ⟨(e0.mod.nolimit.keeps keep).keeps x.toInCall.keep, codeAny_func ?_⟩
  obtain ⟨t, ht, hq⟩ := body A outer s H vs Q E gd (hr.deeper _) want
  have I := inv_start (CX := CX0) (cd := cdv) (f := f) (qual := qual) (N := N) (E := E) S hr.hd e0 (len _ _ _ _ want) rel x
  have done : ∀ {σ' : L2.St} {H' : Hp} {v : V} {u : Value} {s' : Shared},
      Inv (cxOf CX0 P w K mg base N qual (defScope st) f cdv A outer s H E) [] σ' H' s' →
      RelV v u → Q v H' → CE outer P w H s Q u s' :=
    fun J rv q => ⟨_, _, J.os, J.bare, J.base, J.hok, rv, q⟩
  refine wpAny_mono (ht.nox.run [] s1 (start N vs) H _ I hq) ?_ (fun e s' hs => hs)
  intro fl s' hs
  cases fl with
  | next => obtain ⟨σ', H', J, q⟩ := hs; exact done (v := V.non) (u := Value.none) J rfl q
  | ret u => obtain ⟨v, σ', H', J, rv, q⟩ := hs; exact done J rv q
  | brk => obtain ⟨_, _, _, q⟩ := hs; exact q.elim
  | cont => obtain ⟨_, _, _, q⟩ := hs; exact q.elim

theorem fnG {x qual : Str} {st : Stmt} {f : Addr} {fd : FuncData} {N ps : List Str} {k : Nat} {sp : Sp}
    (F : Fun K x qual st f fd) (S : FnScope N ps (defScope st))
    (len : ∀ vs H Q E, sp vs H Q E → vs.length = ps.length)
    (body : ∀ (cdv : Value) (A : Around) (outer : List Env) (s : Shared) (H : Hp) (vs : List V) (Q : VK) (E : XK),
      Gd A → Room k (A.deeper (envOfC qual (defScope st) s.heap.objs.size f cdv)) → sp vs H Q E →
      ∃ t, PSs (cxOf CX0 P w K mg base N qual (defScope st) f cdv A outer s H E).nox (defBody st) t ∧
        t { nx := fun _ H' => Q .non H', rt := Q } (start N vs) H) :
    FnG P w K mg base (k + 1) f fd ps sp := by
  obtain ⟨cdv, FC⟩ := F.code
  exact fnGC FC S len (body cdv)

/-- a def that may be called by its name; dvs: the defaults that fill up -/
structure CalG (P : Program) (w : World) (K : PySem.W.Frag) (mg : Str → Option Value) (base : Heap) (k : Nat) (x : Str) (sp : Sp) (dvs : List V) : Prop where
  ex : ∃ (f : Addr) (fd : FuncData) (ps : List Str) (ds : List Value),
    FnG P w K mg base k f fd ps sp ∧ mg x = some (.ref f) ∧ PySem.W.keepIn K (.ref f) = true ∧ Binds K fd ps ds ∧ Vals dvs ds
theorem CalG.mono {j k : Nat} {x : Str} {sp : Sp} {dvs : List V} (c : CalG P w K mg base j x sp dvs) (h : j ≤ k) : CalG P w K mg base k x sp dvs := by
  obtain ⟨f, fd, ps, ds, F, r⟩ := c.ex
  exact ⟨f, fd, ps, ds, F.mono h, r⟩
/-- what the top has of a def -/
structure DefG (K : PySem.W.Frag) (mg : Str → Option Value) (x : Str) (st : Stmt) : Prop where
  ex : ∃ (f : Addr) (fd : FuncData), Fun K x x st f fd ∧ mg x = some (.ref f)
theorem calG {x : Str} {st : Stmt} {N ps : List Str} {k : Nat} {sp : Sp} (D : DefG K mg x st) (S : FnScope N ps (defScope st))
    (b : ∀ f fd, Fun K x x st f fd → Binds K fd ps [])
    (len : ∀ vs H Q E, sp vs H Q E → vs.length = ps.length)
    (body : ∀ (f : Addr) (cdv : Value) (A : Around) (outer : List Env) (s : Shared) (H : Hp) (vs : List V) (Q : VK) (E : XK),
      Gd A → Room k (A.deeper (envOfC x (defScope st) s.heap.objs.size f cdv)) → sp vs H Q E →
      ∃ t, PSs (cxOf CX0 P w K mg base N x (defScope st) f cdv A outer s H E).nox (defBody st) t ∧
        t { nx := fun _ H' => Q .non H', rt := Q } (start N vs) H) :
    CalG P w K mg base (k + 1) x sp [] := by
  obtain ⟨f, fd, F, hm⟩ := D.ex
  exact ⟨f, fd, ps, [], fnG F S len (body f), hm, F.kp, b f fd F, .nil⟩
/-- .. its code object told: for defs that make lambdas -/
structure DefC (K : PySem.W.Frag) (mg : Str → Option Value) (x : Str) (st : Stmt) (cd : Value) : Prop where
  ex : ∃ (f : Addr) (fd : FuncData), FunC K x x st f fd cd ∧ mg x = some (.ref f)
theorem calGC {x : Str} {st : Stmt} {cd : Value} {N ps : List Str} {k : Nat} {sp : Sp} (D : DefC K mg x st cd) (S : FnScope N ps (defScope st))
    (b : ∀ f fd, Fun K x x st f fd → Binds K fd ps [])
    (len : ∀ vs H Q E, sp vs H Q E → vs.length = ps.length)
    (body : ∀ (f : Addr) (A : Around) (outer : List Env) (s : Shared) (H : Hp) (vs : List V) (Q : VK) (E : XK),
      Gd A → Room k (A.deeper (envOfC x (defScope st) s.heap.objs.size f cd)) → sp vs H Q E →
      ∃ t, PSs (cxOf CX0 P w K mg base N x (defScope st) f cd A outer s H E).nox (defBody st) t ∧
        t { nx := fun _ H' => Q .non H', rt := Q } (start N vs) H) :
    CalG P w K mg base (k + 1) x sp [] := by
  obtain ⟨f, fd, F, hm⟩ := D.ex
  exact ⟨f, fd, ps, [], fnGC F S len (body f), hm, F.kp, b f fd F.fn, .nil⟩
end

section
variable {X : Cx} {k j : Nat} {x : Str} {sp : Sp} {dvs : List V} {p pos : Pos} {e : Expr} {es : List Expr} {t : TA}
theorem pe_cG (c : CalG X.prog X.w X.K X.mg X.base k x sp dvs) (gd : Gd X.A) (hr : Room j X.A) (hk : k ≤ j) (hg : Gl X x) (ha : PA X (e :: es) t)
    (hdb : (x == ("__debug__" : Str)) = false := by decide)
    (he : starEach (e :: es) X.env = (false, eval e X.env) :: starEach es X.env := by rfl)
    (hpl : (backTo pos (starEach es X.env)).any (·.1) = false := by rfl) :
    PE X (.Call (.Name x p) (e :: es) [] pos) (tCall sp dvs E0 t) := by
  obtain ⟨f, fd, ps, ds, F, hm, kp, b, d⟩ := c.ex
  refine ⟨fun pins s σ H Q I h => wpAny_Call_Name_kw (ld_glob I hg hm ?_ hdb)⟩
  refine PySem.W.callWith_K (h₀ := X.base) I.ok.mod.kin kp ?_ he hpl
  refine thn (ha.run pos pins s σ H _ I h) ?_
  rintro us s1 ⟨vs, H1, I1, rv, q⟩
  have want : sp (vs ++ dvs) H1 Q E0 := q
  have rel : Vals (vs ++ dvs) (us ++ ds) := rv.append d
  have ln : (us ++ ds).length = ps.length := by rw [← rel.length]; exact F.len _ _ _ _ want
  refine ⟨I1.kIn, wpAny_call (codeAny_mono (F.run X.A X.stack s1 H1 ⟨us, []⟩ (us ++ ds) (vs ++ dvs) Q E0 gd (hr.mono hk) I1.env0 (b s1 us I1.kIn ln) rel want) ?_)⟩
  intro r s' hq
  cases r with
  | error e => exact False.elim hq
  | ok fl =>
    cases fl with
    | ret u => exact I1.after hq
    | next => exact False.elim hq
    | brk => exact False.elim hq
    | cont => exact False.elim hq
end
end Dat

set_option Elab.async false
set_option linter.all false
set_option maxRecDepth 100000
set_option maxHeartbeats 4000000
/-! Data over the abstract heap: what stays, what is read, what repr tells. -/
namespace Dat
open PySem PySem.Spec PyProof.Rows L2

/-! ### what stays but at S -/
def Kp (S : List Addr) (H H' : Hp) : Prop := ∀ a o, H a = some o → a ∉ S → H' a = some o
theorem Kp.refl (S : List Addr) (H : Hp) : Kp S H H := fun _ _ h _ => h
theorem Kp.trans {S : List Addr} {H H1 H2 : Hp} (a : Kp S H H1) (b : Kp S H1 H2) : Kp S H H2 := fun c o h n => b c o (a c o h n) n
theorem Kp.wide {S S' : List Addr} {H H1 : Hp} (a : Kp S H H1) (h : ∀ x ∈ S, x ∈ S') : Kp S' H H1 := fun c o e n => a c o e fun z => n (h c z)
theorem Kp.same {H H1 : Hp} (a : Kp [] H H1) : Same H H1 := fun c o e => a c o e (by simp)
theorem Kp.of {S : List Addr} {H H1 : Hp} (a : Same H H1) : Kp S H H1 := fun c o e _ => a c o e
theorem Kp.new {S : List Addr} {H : Hp} {p : Addr} {o : HO} (h : H p = none) : Kp S H (upd H p o) := fun a u e _ => by
  rw [upd_ne (ne_of_none e h)]
  exact e
theorem Kp.set {S : List Addr} {H : Hp} {p : Addr} {o : HO} (h : p ∈ S) : Kp S H (upd H p o) := fun a u e n => by
  have z : a ≠ p := fun z => n (by rw [z]; exact h)
  rw [upd_ne z]
  exact e
/-- an address that H does not know may be left out -/
theorem Kp.drop {S : List Addr} {H H1 : Hp} {p : Addr} (a : Kp (p :: S) H H1) (h : H p = none) : Kp S H H1 := fun c o e n =>
  a c o e (by
    intro z
    rcases List.mem_cons.mp z with z | z
    · exact ne_of_none e h z
    · exact n z)
theorem Kp.at {S : List Addr} {H H1 : Hp} {p : Addr} {o : HO} (a : Kp S H H1) (h : H p = some o) (n : p ∉ S) : H1 p = some o := a p o h n
/-- what is new behind was new ahead -/
theorem Kp.free {S : List Addr} {H H1 : Hp} {p : Addr} (a : Kp S H H1) (h : H1 p = none) (n : p ∉ S) : H p = none := by
  cases q : H p with
  | none => rfl
  | some o =>
    rw [a p o q n] at h
    cases h
theorem same_new {H : Hp} {p : Addr} {o : HO} (h : H p = none) : Same H (upd H p o) := fun b x e => by
  rw [upd_ne (ne_of_none e h)]
  exact e

/-! ### tuples of tuples, no lists: no store turns them -/
mutual
def tupD : PyData → Bool
  | .none => true
  | .bool _ => true
  | .int _ => true
  | .str _ => true
  | .list _ => false
  | .tuple xs => tupDs xs
  | .dict _ => false
def tupDs : List PyData → Bool
  | [] => true
  | x :: xs => tupD x && tupDs xs
end
theorem tupD_tuple (xs : List PyData) : tupD (.tuple xs) = tupDs xs := by simp [tupD]
theorem tupDs_cons (x : PyData) (xs : List PyData) : tupDs (x :: xs) = (tupD x && tupDs xs) := by simp [tupDs]
theorem tupDs_all {xs : List PyData} : tupDs xs = true ↔ ∀ x ∈ xs, tupD x = true := by
  induction xs with
  | nil => simp [tupDs]
  | cons x xs ih => simp [tupDs, ih]
theorem tupDs_append (xs ys : List PyData) : tupDs (xs ++ ys) = (tupDs xs && tupDs ys) := by
  induction xs with
  | nil => simp [tupDs]
  | cons x xs ih => simp [tupDs, ih, Bool.and_assoc]

/-- the tuples are read on -/
def TupK (H H' : Hp) : Prop := ∀ a xs, Rd H a (.tup xs) → Rd H' a (.tup xs)
theorem TupK.refl (H : Hp) : TupK H H := fun _ _ h => h
theorem TupK.trans {H H1 H2 : Hp} (a : TupK H H1) (b : TupK H1 H2) : TupK H H2 := fun c xs h => b c xs (a c xs h)
theorem TupK.of {H H' : Hp} (e : Same H H') : TupK H H' := fun a xs h => by
  rcases h with h | ⟨o, h⟩
  · exact .inl (e _ _ h)
  · exact .inr ⟨o, e _ _ h⟩
/-- at each place of S a list (or something that isn't known) -/
def LstAt (H : Hp) (a : Addr) : Prop := ∀ xs, ¬ Rd H a (.tup xs)
theorem LstAt.lst {H : Hp} {a : Addr} {xs : List V} (h : H a = some (.lst xs)) : LstAt H a := fun ys r => by
  rcases r with r | ⟨o, r⟩ <;> rw [h] at r <;> cases r
theorem LstAt.none {H : Hp} {a : Addr} (h : H a = none) : LstAt H a := fun ys r => by
  rcases r with r | ⟨o, r⟩ <;> rw [h] at r <;> cases r
theorem Kp.tup {S : List Addr} {H H' : Hp} (k : Kp S H H') (hS : ∀ a ∈ S, LstAt H a) : TupK H H' := fun a xs h => by
  have n : a ∉ S := fun z => hS a z xs h
  rcases h with h | ⟨o, h⟩
  · exact .inl (k _ _ h n)
  · exact .inr ⟨o, k _ _ h n⟩
theorem SqT.tk {K : PySem.W.Frag} {H H' : Hp} {a : Addr} {xs : List V} (e : TupK H H') (h : SqT K H a xs) : SqT K H' a xs := by
  rcases h with h | h
  · exact .inl (e _ _ h)
  · exact .inr h
theorem SqT.same {K : PySem.W.Frag} {H H' : Hp} {a : Addr} {xs : List V} (e : Same H H') (h : SqT K H a xs) : SqT K H' a xs := SqT.tk (TupK.of e) h

section
variable {K : PySem.W.Frag} {H H' : Hp}
mutual
theorem dp_tk (e : TupK H H') : ∀ (d : PyData) (v : V), tupD d = true → Dp K H v d → Dp K H' v d
  | .none, _, _, h => by cases h; exact .non
  | .bool _, _, _, h => by cases h; exact .bl _
  | .int _, _, _, h => by cases h; exact .int _
  | .str _, _, _, h => by cases h; exact .str _
  | .list _, _, t, _ => by simp [tupD] at t
  | .dict _, _, t, _ => by simp [tupD] at t
  | .tuple ds, _, t, h => by
    cases h with
    | tup hs ha => exact .tup (SqT.tk e hs) (dpAll_tk e ds _ (by simpa [tupD] using t) ha)
theorem dpAll_tk (e : TupK H H') : ∀ (ds : List PyData) (vs : List V), tupDs ds = true → DpAll K H vs ds → DpAll K H' vs ds
  | [], _, _, h => by cases h; exact .nil
  | d :: ds, _, t, h => by
    have t' : tupD d = true ∧ tupDs ds = true := by simpa [tupDs] using t
    cases h with
    | cons h1 h2 => exact .cons (dp_tk e d _ t'.1 h1) (dpAll_tk e ds _ t'.2 h2)
end
mutual
theorem dp_same (e : Same H H') : ∀ (d : PyData) (v : V), Dp K H v d → Dp K H' v d
  | .none, _, h => by cases h; exact .non
  | .bool _, _, h => by cases h; exact .bl _
  | .int _, _, h => by cases h; exact .int _
  | .str _, _, h => by cases h; exact .str _
  | .list ds, _, h => by
    cases h with
    | lst hs ha => exact .lst (e.seq hs) (dpAll_same e ds _ ha)
  | .dict _, _, h => by cases h
  | .tuple ds, _, h => by
    cases h with
    | tup hs ha => exact .tup (SqT.same e hs) (dpAll_same e ds _ ha)
theorem dpAll_same (e : Same H H') : ∀ (ds : List PyData) (vs : List V), DpAll K H vs ds → DpAll K H' vs ds
  | [], _, h => by cases h; exact .nil
  | d :: ds, _, h => by
    cases h with
    | cons h1 h2 => exact .cons (dp_same e d _ h1) (dpAll_same e ds _ h2)
end
theorem _root_.L2.Dp.on {v : V} {d : PyData} (h : Dp K H v d) (e : Same H H') : Dp K H' v d := dp_same e d v h
theorem _root_.L2.Dp.tk {v : V} {d : PyData} (h : Dp K H v d) (t : tupD d = true) (e : TupK H H') : Dp K H' v d := dp_tk e d v t h
theorem _root_.L2.DpAll.on {vs : List V} {ds : List PyData} (h : DpAll K H vs ds) (e : Same H H') : DpAll K H' vs ds := dpAll_same e ds vs h
theorem _root_.L2.DpAll.tk {vs : List V} {ds : List PyData} (h : DpAll K H vs ds) (t : tupDs ds = true) (e : TupK H H') : DpAll K H' vs ds := dpAll_tk e ds vs t h
theorem dpa_len : ∀ {vs : List V} {ds : List PyData}, DpAll K H vs ds → vs.length = ds.length
  | _, _, .nil => rfl
  | _, _, .cons _ t => by rw [List.length_cons, List.length_cons, dpa_len t]
theorem dpa_get : ∀ {vs : List V} {ds : List PyData} {i : Nat} {d : PyData}, DpAll K H vs ds → ds[i]? = some d → ∃ v, vs[i]? = some v ∧ Dp K H v d
  | _, _, _, _, .nil, e => by simp at e
  | _, _, 0, _, .cons r _, e => by simp at e; subst e; exact ⟨_, rfl, r⟩
  | _, _, i + 1, d, .cons _ t, e => by
    obtain ⟨v, h1, h2⟩ := dpa_get (i := i) (d := d) t (by simpa using e)
    exact ⟨v, by simpa using h1, h2⟩
theorem dpa_getV : ∀ {vs : List V} {ds : List PyData} {i : Nat} {v : V}, DpAll K H vs ds → vs[i]? = some v → ∃ d, ds[i]? = some d ∧ Dp K H v d
  | _, _, _, _, .nil, e => by simp at e
  | _, _, 0, _, .cons r _, e => by simp at e; subst e; exact ⟨_, rfl, r⟩
  | _, _, i + 1, v, .cons _ t, e => by
    obtain ⟨d, h1, h2⟩ := dpa_getV (i := i) (v := v) t (by simpa using e)
    exact ⟨d, by simpa using h1, h2⟩
theorem dpa_app : ∀ {vs ws : List V} {ds es : List PyData}, DpAll K H vs ds → DpAll K H ws es → DpAll K H (vs ++ ws) (ds ++ es)
  | _, _, _, _, .nil, h => h
  | _, _, _, _, .cons a t, h => .cons a (dpa_app t h)
theorem _root_.L2.DpAll.one {v : V} {d : PyData} (h : Dp K H v d) : DpAll K H [v] [d] := .cons h .nil
theorem dpAll_ints : ∀ ns : List Int, DpAll K H (ns.map V.int) (ns.map PyData.int)
  | [] => .nil
  | n :: ns => .cons (.int n) (dpAll_ints ns)
/-- a new tuple of data -/
theorem dp_new {p : Addr} {vs : List V} {ds : List PyData} (h : DpAll K H vs ds) (hp : H p = none) : Dp K (upd H p (.tup vs)) (.ref p) (.tuple ds) :=
  .tup (SqT.of upd_same) (h.on (same_new hp))
theorem dp_newL {p : Addr} {vs : List V} {ds : List PyData} (h : DpAll K H vs ds) (hp : H p = none) : Dp K (upd H p (.lst vs)) (.ref p) (.list ds) :=
  .lst (SqL.of upd_same) (h.on (same_new hp))
theorem _root_.L2.Dp.tupE {v : V} {ds : List PyData} (h : Dp K H v (.tuple ds)) : ∃ a vs, v = .ref a ∧ SqT K H a vs ∧ DpAll K H vs ds := by
  cases h with
  | tup hs ha => exact ⟨_, _, rfl, hs, ha⟩
theorem _root_.L2.Dp.lstE {v : V} {ds : List PyData} (h : Dp K H v (.list ds)) : ∃ a vs, v = .ref a ∧ SqL K H a vs ∧ DpAll K H vs ds := by
  cases h with
  | lst hs ha => exact ⟨_, _, rfl, hs, ha⟩
theorem _root_.L2.Dp.intE {v : V} {i : Int} (h : Dp K H v (.int i)) : v = .int i := by cases h; rfl
theorem _root_.L2.Dp.blE {v : V} {b : Bool} (h : Dp K H v (.bool b)) : v = .bl b := by cases h; rfl
theorem _root_.L2.Dp.strE {v : V} {x : Str} (h : Dp K H v (.str x)) : v = .str x := by cases h; rfl
end

/-! ### what type() tells of data -/
def tyN : PyData → String
  | .none => "NoneType"
  | .bool _ => "bool"
  | .int _ => "int"
  | .str _ => "str"
  | .list _ => "list"
  | .tuple _ => "tuple"
  | .dict _ => "dict"
theorem ty_of {K : PySem.W.Frag} {H : Hp} {v : V} {d : PyData} (h : Dp K H v d) : TyX K H v (.type (tyN d)) := by
  cases h with
  | non => exact .base .non
  | bl b => exact .base (.bl b)
  | int i => exact .base (.int i)
  | str x => exact .base (.str x)
  | lst hs _ =>
    rcases hs with (h | ⟨o, h⟩) | ⟨o, its, n, h1, h2, _⟩
    · exact .base (.lst h)
    · exact .base (.frz h)
    · exact .kList h1 h2
  | tup hs _ =>
    rcases hs with (h | ⟨o, h⟩) | ⟨o, its, n, h1, h2, _⟩
    · exact .base (.tup h)
    · exact .fTuple h
    · exact .kTuple h1 h2
/-- isinstance(x, T), T written -/
theorem isi_of {K : PySem.W.Frag} {H : Hp} {Q : VK} {v : V} {d : PyData} {T : String} {b : Bool} (h : Dp K H v d) (hk : PySem.W.kitOne K (.type (tyN d)) (.type T) = some b) (q : Q (.bl b) H) :
    rIsi K [v, .ty T] H Q := ⟨v, .ty T, .type (tyN d), .type T, b, rfl, .ty T, ty_of h, hk, q⟩

/-! ### repr -/
def rReprD (K : PySem.W.Frag) : List V → Hp → VK → Prop := fun xs H Q => ∃ v d, xs = [v] ∧ Dp K H v d ∧ d.showable = true ∧ d.depth ≤ 60 ∧ d.shown.length ≤ sizeLine ∧ Q (.str d.shown) H
mutual
theorem noDict_of {K : PySem.W.Frag} {H : Hp} : ∀ (d : PyData) (v : V), Dp K H v d → d.hasDict = false
  | .none, _, _ => by simp only [PyData.hasDict]
  | .bool _, _, _ => by simp only [PyData.hasDict]
  | .int _, _, _ => by simp only [PyData.hasDict]
  | .str _, _, _ => by simp only [PyData.hasDict]
  | .list ds, _, h => by
    cases h with
    | lst _ ha => simp only [PyData.hasDict]; exact noDicts_of ds _ ha
  | .tuple ds, _, h => by
    cases h with
    | tup _ ha => simp only [PyData.hasDict]; exact noDicts_of ds _ ha
  | .dict _, _, h => by cases h
theorem noDicts_of {K : PySem.W.Frag} {H : Hp} : ∀ (ds : List PyData) (vs : List V), DpAll K H vs ds → PyData.hasDictAll ds = false
  | [], _, _ => by simp only [PyData.hasDictAll]
  | d :: ds, _, h => by
    cases h with
    | cons h1 h2 => simp only [PyData.hasDictAll, noDict_of d _ h1, noDicts_of ds _ h2, Bool.or_self]
end
theorem call_reprD {X : Cx} (gd : Gd X.A) (hu : X.A.units + 64 < cLine) : CallR X (.builtin "repr") (rReprD X.K) := by
  intro pins s σ H xs us Q I r h
  obtain ⟨v, d, rfl, hd, hs, hz, hl, q⟩ := h
  obtain ⟨u, rfl, rv⟩ := Vals.one r
  have nd := noDict_of d v hd
  obtain ⟨as, rd⟩ := Dp.reads I d v u hd rv
  have fin : ∀ (h' : Heap) (tk : Tok) (t : Tok), (∀ b o, s.heap.get? b = some o → h'.get? b = some o) → EP X pins σ Q (.str d.shown t) { s with heap := h', toks := tk } :=
    fun h' tk t k => ⟨.str d.shown, H, I.kept k, ⟨t, rfl⟩, q⟩
  cases hd with
  | non => cases rv; exact PySem.P.repr_of_none (by have z := fin s.heap (s.toks + 1) s.toks (fun _ _ e => e); simpa only [PyData.shown] using z)
  | bl b => cases rv; exact PySem.P.repr_of_bool (by have z := fin s.heap (s.toks + 1) s.toks (fun _ _ e => e); simpa only [PyData.shown] using z)
  | int i =>
    obtain ⟨t, rfl⟩ := rv
    exact PySem.P.repr_of_int (by simpa [PyData.showable] using hs) (by have z := fin s.heap (s.toks + 1) s.toks (fun _ _ e => e); simpa only [PyData.shown] using z)
  | str x =>
    obtain ⟨t, rfl⟩ := rv
    exact PySem.P.repr_of_str (by have z := fin s.heap (s.toks + 1) s.toks (fun _ _ e => e); simpa only [PyData.shown] using z) (by simpa only [PyData.shown] using hl)
  | lst _ _ =>
    cases rv
    exact repr_of_reads' rd hs (PyData.noDict_hsm nd) gd (by omega) (fun _ _ e => e) (fun h' u tk k => fin h' tk u k) hl
  | tup _ _ =>
    cases rv
    exact repr_of_reads' rd hs (PyData.noDict_hsm nd) gd (by omega) (fun _ _ e => e) (fun h' u tk k => fin h' tk u k) hl
end Dat

set_option Elab.async false
set_option linter.all false
set_option maxRecDepth 100000
set_option maxHeartbeats 4000000
/-! Keys that can be ordered: alike ones, or pairs of a number and a thing, alike where the numbers are. -/
namespace Dat
open PySem PySem.Spec PyProof.Rows L2 PySem.W

structure SortK (kz : List PyData) : Prop where
  key : ∀ {h : Heap} {v : Value} {d : PyData} {as : List Addr}, d ∈ kz → Reads h v d as → (dataKind h kz).keyOf v = some (keyToks d)
  srt : ∀ {P : Program} {w : World} {A : Around} {s : Shared} {vs : List Value}, EachIs (fun v d => ∃ as, Reads s.heap v d as) vs kz → (∀ d ∈ kz, A.units + d.depth < cLine) → SortsAt P w A s (dataKind s.heap kz) vs
theorem SortK.data {kz : List PyData} (hal : AllAlike kz) (hso : Sortable kz) : SortK kz := ⟨fun hd r => dataKind_some hal hd r, fun e hu => SortsAt.data e hal hso hu⟩
theorem SortK.keys {kz : List PyData} (S : SortK kz) {h : Heap} {vs : List Value} (e : EachIs (fun v d => ∃ as, Reads h v d as) vs kz) : EachIs (fun v d => (dataKind h kz).keyOf v = some (keyToks d)) vs kz :=
  (each_mem e).mono fun _ _ ⟨⟨_, r⟩, hd⟩ => S.key hd r

/-- pairs of a number and a thing, alike where the numbers are -/
structure RankK (kz : List PyData) : Prop where
  pair : ∀ d ∈ kz, ∃ (i : Int) (e : PyData), d = .tuple [.int i, e] ∧ e ≠ .none
  same : ∀ (i : Int) (e e' : PyData), .tuple [.int i, e] ∈ kz → .tuple [.int i, e'] ∈ kz → alike e e' = true
theorem reads_pair {h : Heap} {v : Value} {i : Int} {e : PyData} {as : List Addr} (r : Reads h v (.tuple [.int i, e]) as) : ∃ (a : Addr) (o : Obj) (n : Nat) (t : Tok) (u : Value) (bs : List Addr), v = .ref a ∧ h.get? a = some o ∧ o.cls = .type "tuple" ∧ o.data = .seq #[.int i t, u] n ∧ Reads h u e bs := by
  cases r with
  | @tuple a o xs n _ _ h1 h2 h3 h4 =>
    generalize q : xs.toList = l at h4
    cases h4 with
    | cons r1 r2 =>
      cases r1
      cases r2 with
      | cons r3 r4 =>
        cases r4
        have ex := congrArg List.toArray q
        rw [Array.toArray_toList] at ex
        exact ⟨a, o, n, _, _, _, rfl, h1, h2, by rw [h3, ex], r3⟩
theorem SortK.rank {kz : List PyData} (R : RankK kz) : SortK kz := by
  refine ⟨fun {h v d as} hd r => ?_, fun {P w A s vs} e hu => ?_⟩
  · have q : ∃ d, d ∈ kz ∧ ∃ as, Reads h v d as := ⟨d, hd, as, r⟩
    have ek : (dataKind h kz).keyOf v = some (keyToks q.choose) := by
      show (open Classical in if q : ∃ d, d ∈ kz ∧ ∃ as, Reads h v d as then some (keyToks q.choose) else none) = _
      rw [dif_pos q]
    obtain ⟨h1, as', h2⟩ := q.choose_spec
    rw [ek]
    generalize q.choose = d' at *
    obtain ⟨i, x, rfl, _⟩ := R.pair _ hd
    obtain ⟨i', x', rfl, _⟩ := R.pair _ h1
    obtain ⟨a, o, n, t, u, bs, rfl, g1, _, g2, g3⟩ := reads_pair r
    obtain ⟨a', o', n', t', u', bs', ea, k1, _, k2, k3⟩ := reads_pair h2
    cases ea
    rw [g1] at k1
    cases k1
    rw [g2] at k2
    cases k2
    rw [alike_unique _ _ _ _ _ (R.same _ _ _ hd h1) g3 k3]
  · have key : ∀ {h : Heap} {v : Value} {d : PyData} {as : List Addr}, d ∈ kz → Reads h v d as → ∃ k, (dataKind h kz).keyOf v = some k := fun {h v d as} hd r => by
      have q : ∃ d, d ∈ kz ∧ ∃ as, Reads h v d as := ⟨d, hd, as, r⟩
      refine ⟨keyToks q.choose, ?_⟩
      show (open Classical in if q : ∃ d, d ∈ kz ∧ ∃ as, Reads h v d as then some (keyToks q.choose) else none) = _
      rw [dif_pos q]
      rfl
    refine ⟨fun v hv => ?_, tuples' true, ?_, fun h2 E Q hq => ?_⟩
    · obtain ⟨d, hd, as, r⟩ := e.left v hv
      exact key hd r
    · intro E x y a b Q ha hb hq
      obtain ⟨d, as, hd, ra, rfl⟩ := dataKind_inv ha
      obtain ⟨d', as', hd', rb, rfl⟩ := dataKind_inv hb
      have hroom : A.units + min d.depth d'.depth < cLine := Nat.lt_of_le_of_lt (Nat.add_le_add_left (Nat.min_le_left _ _) _) (hu d hd)
      obtain ⟨i, x1, rfl, n1⟩ := R.pair _ hd
      obtain ⟨j, x2, rfl, n2⟩ := R.pair _ hd'
      have hq' : Q (dataLt (.tuple [.int i, x1]) (.tuple [.int j, x2])) s := hq
      rw [dataLt_tuple] at hq'
      cases ra with
      | @tuple l o xs n _ _ h1 h2 h3 h4 =>
        cases rb with
        | @tuple l' o' xs' n' _ _ k1 k2 k3 k4 =>
          have e1 : xs.size = 2 := by simpa using SeqAt.ReadsAll.length _ _ _ h4
          have e2 : xs'.size = 2 := by simpa using SeqAt.ReadsAll.length _ _ _ k4
          refine kat_lt h1 h3 k1 k3 ?_
          generalize q1 : xs.toList = l1 at h4
          generalize q2 : xs'.toList = l2 at k4
          cases h4 with
          | cons r1 r2 =>
            cases k4 with
            | cons p1 p2 =>
              rw [List.zip_cons_cons]
              have hr2 : A.units + min (PyData.depthAll [.int i, x1]) (PyData.depthAll [.int j, x2]) < cLine := by have q := SeqAt.room_in hroom; omega
              have lij : alike (.int i) (.int j) = true := by simp [alike]
              refine kat_cons (eqAt_alike (.int i) (.int j) A s _ _ _ _ r1 p1 lij (SeqAt.room_head hr2) P w _ _ ?_)
              cases hx : PyData.eqv (.int i) (.int j) with
              | true =>
                rw [dataLt_all_yes lij hx] at hq'
                have eij : i = j := by simpa [PyData.eqv] using hx
                subst eij
                exact kat_yes (katLex_alike [x1] [x2] 1 _ _ _ _ r2 p2 (by simp [alikeAll, R.same i x1 x2 hd hd']) (SeqAt.room_tail hr2) (fun _ z => absurd z (by decide)) (by rw [e1, e2]; rfl) hq')
              | false =>
                rw [dataLt_all_no lij hx] at hq'
                exact kat_no (oneLt_alike (fun _ t z => by cases z) r1 p1 lij (by simp) (SeqAt.room_head hr2) hq')
    · obtain ⟨fs, t1, t2, t3⟩ := each_katTups e fun d hd => by
        obtain ⟨i, x, rfl, _⟩ := R.pair _ hd
        exact ⟨_, _, rfl⟩
      refine kat_kind (T := dataType (.int 0)) t1 (by omega) (fun f hf => ?_) (by rfl) hq
      obtain ⟨x, r, as, m1, m2⟩ := t3 f hf
      obtain ⟨i, x', ex, _⟩ := R.pair _ m1
      cases ex
      exact looks_reads (d := .int i) m2
end Dat

set_option Elab.async false
set_option linter.all false
set_option maxRecDepth 100000
set_option maxHeartbeats 4000000
/-! sorted(xs, key=f): f any value whose calls keep the layer's invariant and hand back data that can be ordered. -/
namespace Dat
open PySem PySem.Spec PyProof.Rows L2 PySem.W

/-- what a call of f does, two builtins deep, by values; p0: pins that are known of f -/
def KeyR (X : Cx) (p0 : List (Addr × Obj)) (f : Value) (r : V → Hp → VK → Prop) : Prop :=
  ∀ (pins : List (Addr × Obj)) (s : Shared) (σ : L2.St) (H : Hp) (x : V) (v : Value) (Q : VK), Inv X (p0 ++ pins) σ H s → RelV x v → r x H Q →
    wpAny (model X.prog X.w) X.A.in1.in1 (call f [v]) (EP X (p0 ++ pins) σ Q) (fun _ _ => False) s

theorem vals_each {R : V → Value → Prop} : ∀ {xs : List V} {us : List Value}, Paired R xs us → EachIs (fun u x => R x u) us xs
  | _, _, .nil => .nil
  | _, _, .cons r t => .cons r (vals_each t)
theorem each_vals : ∀ {us : List Value} {ps : List (V × PyData)}, EachIs (fun u p => RelV p.1 u) us ps → Vals (ps.map Prod.fst) us
  | _, _, .nil => .nil
  | _, _, .cons r t => .cons r (each_vals t)
theorem each_zip {xs : List V} : ∀ {us : List Value} {kz : List PyData}, Vals xs us → kz.length = xs.length → EachIs (fun u (p : V × PyData) => RelV p.1 u) us (xs.zip kz) := by
  induction xs with
  | nil =>
    intro us kz r _
    cases r
    exact .nil
  | cons x xs ih =>
    intro us kz r hl
    cases r with
    | cons r t =>
      cases kz with
      | nil => cases hl
      | cons k kz => exact .cons r (ih t (by simpa using hl))
theorem reads_each {X : Cx} {pins : List (Addr × Obj)} {σ : L2.St} {H : Hp} {s : Shared} (I : Inv X pins σ H s) : ∀ {ds : List PyData} {vs : List V} {us : List Value}, DpAll X.K H vs ds → Vals vs us →
    EachIs (fun u d => ∃ as, Reads s.heap u d as) us ds
  | [], _, _, h, r => by
    cases h
    cases r
    exact .nil
  | d :: ds, _, _, h, r => by
    cases h with
    | cons h1 h2 =>
      cases r with
      | cons r1 r2 => exact .cons (Dp.reads I d _ _ h1 r1) (reads_each I h2 r2)
/-- the list that sorted gives -/
def keyed (xs : List V) (kz : List PyData) : List V := ((xs.zip kz).mergeSort (dataLe false Prod.snd)).map Prod.fst

section
variable {X : Cx} {p0 pins : List (Addr × Obj)} {σ : L2.St} {H : Hp} {s : Shared} {a : Addr} {xs : List V} {kz : List PyData} {f : Value} {r : V → Hp → VK → Prop} {Q : VK}

/-- one pin more for an untracked new list -/
theorem pin_list {P1 : List (Addr × Obj)} {b : Addr} {items : Array Value} {n : Nat} (I : Inv X P1 σ H s) (hb : s.heap.get? b = some (seqObj "list" items n)) (hn : H b = none) (hL : b ≠ X.env.locals) (hf : b ∉ X.fs) :
    Inv X (P1 ++ [(b, seqObj "list" items n)]) σ H s := by
  refine I.pins_of ?_
  intro p hp
  rcases List.mem_append.mp hp with q | q
  · exact I.pin p (List.mem_append_right _ q)
  · rw [List.mem_singleton.mp q]
    exact ⟨hb, hn, hL, hf, fun v z => by cases z⟩
theorem pin_less {P1 P2 : List (Addr × Obj)} (I : Inv X (P1 ++ P2) σ H s) : Inv X P1 σ H s :=
  I.pins_of fun p hp => I.pin p (List.mem_append_right _ (List.mem_append_left _ hp))

theorem sorted_key (I : Inv X (p0 ++ pins) σ H s) (hc : X.calm = true) (hu : X.A.units + 64 < cLine) (hf : KeyR X p0 f r)
    (ht : ∀ a', Builtin.«list.sort» ⟨[.ref a'], [(Str.ofString "key", f)]⟩ = ksk_tree a' f false)
    (hs : SqL X.K H a xs) (hk : kz.length = xs.length) (hso : SortK kz) (hd : ∀ d ∈ kz, d.depth ≤ 40)
    (key : ∀ (i : Nat) (x : V) (k : PyData), xs[i]? = some x → kz[i]? = some k → ∀ H1, Same H H1 → r x H1 fun y H2 => Same H1 H2 ∧ Dp X.K H2 y k)
    (q : ∀ (D : Addr) (H' : Hp), Same H H' → H D = none → H' D = some (.lst (keyed xs kz)) → Q (.ref D) H') :
    wpAny (model X.prog X.w) X.A (call (.builtin "sorted") [.ref a] [(Str.ofString "key", f)]) (EP X (p0 ++ pins) σ Q) X.xe s := by
  obtain ⟨its, rv, hl, hz⟩ := I.list hs
  have lenI : its.length = xs.length := rv.length.symm
  refine sorted_of_sort hl.isList (by omega) (ksk_s1 _ _) (fun _ => ksk_l1 _ _) fun E' => ?_
  rw [ht]
  -- the copy, emptied; the items held; the keys' list
  have hA := copyHeap_at s.heap its
  have lt0 : s.heap.objs.size + 1 < (copyHeap s.heap its).objs.size := Heap.lt_size hA
  have sb := Heap.SameBut.update (copyHeap s.heap its) (s.heap.objs.size + 1) (Obj.mapSeq fun _ => (#[] : Array Value))
  obtain ⟨e1, hA1⟩ : ∃ e1, ((copyHeap s.heap its).update (s.heap.objs.size + 1) (Obj.mapSeq fun _ => (#[] : Array Value))).get? (s.heap.objs.size + 1) = some (seqObj "list" #[] e1) :=
    ⟨_, get?_update_seq hA fun _ => #[]⟩
  unfold ksk_tree
  refine wpAny_bind (listItems_at hA rfl (wpAny_bind (listUpdate_at hA rfl ?_ (by rw [List.size_toArray]; omega) (Nat.zero_le _))))
  refine wpAny_bind (seqEpoch_at hA1 rfl (wpAny_bind (wpAny_newTuple ?_ (by show its.length ≤ _; omega))))
  refine wpAny_bind (wpAny_newList (wpAny_holding ?_) (Nat.zero_le _))
  generalize hg : (copyHeap s.heap its).update (s.heap.objs.size + 1) (Obj.mapSeq fun _ => (#[] : Array Value)) = g at *
  have hKS : (g.push (seqObj "tuple" its.toArray 0)).objs.size = g.objs.size + 1 := by rw [size_push']
  have gsz : (copyHeap s.heap its).objs.size = g.objs.size := by rw [← hg, Heap.size_update]
  have old : ∀ b u, s.heap.get? b = some u → ((g.push (seqObj "tuple" its.toArray 0)).push (seqObj "list" #[] 0)).get? b = some u := fun b u e => by
    have nb : b ≠ s.heap.objs.size + 1 := Nat.ne_of_lt (Nat.lt_succ_of_lt (Heap.lt_size e))
    exact Heap.get?_push_of_some _ (Heap.get?_push_of_some _ ((sb.2 b nb).trans (copyHeap_old e)))
  generalize hA' : s.heap.objs.size + 1 = A' at *
  generalize hS' : (g.push (seqObj "tuple" its.toArray 0)).objs.size = S' at *
  have geA : s.heap.objs.size ≤ A' := by omega
  have geS : s.heap.objs.size ≤ S' := by omega
  have neAS : S' ≠ A' := by omega
  have gA : ((g.push (seqObj "tuple" its.toArray 0)).push (seqObj "list" #[] 0)).get? A' = some (seqObj "list" #[] e1) := Heap.get?_push_of_some _ (Heap.get?_push_of_some _ hA1)
  have gS : ((g.push (seqObj "tuple" its.toArray 0)).push (seqObj "list" #[] 0)).get? S' = some (seqObj "list" #[] 0) := by
    rw [← hS']
    exact Heap.get?_push_size _ rfl
  have nL : ∀ b, s.heap.objs.size ≤ b → b ≠ X.env.locals := fun b hb z => absurd I.lt (by rw [← z]; exact Nat.not_lt_of_le hb)
  have hp0 : ∀ b, s.heap.objs.size ≤ b → ∀ p ∈ X.pn ++ (p0 ++ pins), p.1 ≠ b := fun b hb p hp z => by
    have e := (I.pin p hp).1
    rw [z] at e
    exact absurd (Heap.lt_size e) (Nat.not_lt_of_le hb)
  -- the invariant over the new heap
  have I0 : Inv X (p0 ++ (pins ++ [(S', seqObj "list" #[] 0), (A', seqObj "list" #[] e1)])) σ H { s with heap := (g.push (seqObj "tuple" its.toArray 0)).push (seqObj "list" #[] 0) } := by
    have J := I.kept (t' := s.toks) old
    refine J.pins_of fun p hp => ?_
    rw [← List.append_assoc] at hp
    rcases List.mem_append.mp hp with z | z
    · exact J.pin p (List.mem_append_right _ z)
    · rcases List.mem_cons.mp z with z | z
      · rw [z]
        exact ⟨gS, I.hok.fresh geS, nL _ geS, I.nofs geS, fun v z => by cases z⟩
      · rw [List.mem_singleton.mp z]
        exact ⟨gA, I.hok.fresh geA, nL _ geA, I.nofs geA, fun v z => by cases z⟩
  have sz0 : X.s_0.heap.objs.size ≤ s.heap.objs.size := I.sz
  unfold ksk_rest
  refine wpAny_bind (wpAny_rule ?_)
  rw [← Array.forIn_toList]
  simp only [List.toList_toArray]
  refine wpAny_bind (ksk_fold (fun i s' => ∃ (kA : Array Value) (e : Nat) (H1 : Hp) (ks : List V), Inv X (p0 ++ (pins ++ [(S', seqObj "list" kA e), (A', seqObj "list" #[] e1)])) σ H1 s' ∧ Same H H1 ∧
    Vals ks kA.toList ∧ DpAll X.K H1 ks (kz.take i) ∧ s.heap.objs.size ≤ s'.heap.objs.size) its 0 _ ⟨#[], 0, H, [], I0, Same.refl H, .nil, by rw [List.take_zero]; exact .nil, ?_⟩ ?step ?done)
  case step =>
    rintro j x s' hx ⟨kA, e, H1, ks, I1, sm, kv, kd, hsz⟩
    simp only [Nat.zero_add] at kd ⊢
    have hj : j < its.length := (List.getElem?_eq_some_iff.mp hx).1
    have hxj : xs[j]? = some (xs[j]'(by omega)) := List.getElem?_eq_getElem _
    have hkj : kz[j]? = some (kz[j]'(by omega)) := List.getElem?_eq_getElem _
    obtain ⟨u0, hu0, rx⟩ := rv.get hxj
    have eu : u0 = x := Option.some.inj (hu0.symm.trans hx)
    subst eu
    have hkA : kA.size ≤ its.length := by
      have l1 : kA.size = ks.length := (Array.length_toList).symm.trans kv.length.symm
      have l2 : ks.length = (kz.take j).length := dpa_len kd
      have l3 : (kz.take j).length ≤ kz.length := List.length_take_le' _ _
      omega
    refine wpAny_bind (wpAny_attempt (wpAny_mono (hf _ s' σ H1 _ u0 _ I1 rx (key j _ _ hxj hkj H1 sm)) ?_ (fun _ _ z => z.elim)))
    rintro u s2 ⟨y, H2, I2, ry, sm2, dy⟩
    have memS : (S', seqObj "list" kA e) ∈ X.pn ++ (p0 ++ (pins ++ [(S', seqObj "list" kA e), (A', seqObj "list" #[] e1)])) := by simp
    have memA : (A', seqObj "list" #[] e1) ∈ X.pn ++ (p0 ++ (pins ++ [(S', seqObj "list" kA e), (A', seqObj "list" #[] e1)])) := by simp
    obtain ⟨atS, freeS, nLS, nfS, _⟩ := I2.pin _ memS
    obtain ⟨atA, freeA, nLA, nfA, _⟩ := I2.pin _ memA
    have sb2 := Heap.SameBut.update s2.heap S' (Obj.mapSeq (·.push u))
    obtain ⟨c2, hc2⟩ : ∃ c2, (s2.heap.update S' (Obj.mapSeq (·.push u))).get? S' = some (seqObj "list" (kA.push u) c2) := ⟨_, get?_update_seq atS (·.push u)⟩
    refine wpAny_bind (listUpdate_at atS rfl ?_ (by omega) (by rw [Array.size_push]; omega))
    have J1 : Inv X (p0 ++ pins) σ H2 s2 := I2.pins_of fun p hp => I2.pin p (by
      rcases List.mem_append.mp hp with z | z
      · exact List.mem_append_right _ (List.mem_append_left _ z)
      · exact List.mem_append_right _ (List.mem_append_right _ (List.mem_append_left _ z)))
    have ncell : ∀ (x : Str) (c : Addr), X.env.cells.lookup x = some c → c ≠ S' := fun x c hc z => by
      obtain ⟨v, o, ho, hdd⟩ := I2.cell x c hc
      rw [z, atS] at ho
      cases ho
      cases hdd
    have J2 := J1.turned (h' := s2.heap.update S' (Obj.mapSeq (·.push u))) (t' := s2.toks) (it := S') (fun b o hb ho => (sb2.2 b hb).trans ho) freeS nLS (Or.inr (Nat.le_trans sz0 geS)) ncell (hp0 S' geS)
    refine wpAny_pure ⟨rfl, kA.push u, c2, H2, ks ++ [y], ?_, sm.trans sm2, ?_, ?_, ?_⟩
    · refine J2.pins_of fun p hp => ?_
      rw [← List.append_assoc] at hp
      rcases List.mem_append.mp hp with z | z
      · exact J2.pin p (List.mem_append_right _ z)
      · rcases List.mem_cons.mp z with z | z
        · rw [z]
          exact ⟨hc2, freeS, nLS, nfS, fun v z => by cases z⟩
        · rw [List.mem_singleton.mp z]
          exact ⟨(sb2.2 A' neAS.symm).trans atA, freeA, nLA, nfA, fun v z => by cases z⟩
    · rw [Array.toList_push]
      exact kv.append (.cons ry .nil)
    · rw [List.take_add_one, hkj]
      exact dpa_app (kd.on sm2) (DpAll.one dy)
    · show s.heap.objs.size ≤ (s2.heap.update S' (Obj.mapSeq (·.push u))).objs.size
      rw [Heap.size_update]
      have l1 := Heap.lt_size atS
      exact Nat.le_trans geS (Nat.le_of_lt l1)
  case done =>
    rintro s' ⟨kA, e, H1, ks, I1, sm, kv, kd, hsz⟩
    have ek : kz.take (0 + its.length) = kz := List.take_of_length_le (by omega)
    rw [ek] at kd
    have memS : (S', seqObj "list" kA e) ∈ X.pn ++ (p0 ++ (pins ++ [(S', seqObj "list" kA e), (A', seqObj "list" #[] e1)])) := by simp
    have memA : (A', seqObj "list" #[] e1) ∈ X.pn ++ (p0 ++ (pins ++ [(S', seqObj "list" kA e), (A', seqObj "list" #[] e1)])) := by simp
    obtain ⟨atS, freeS, nLS, nfS, _⟩ := I1.pin _ memS
    obtain ⟨atA, freeA, nLA, nfA, _⟩ := I1.pin _ memA
    have hkA : kA.size = its.length := by
      have l1 : kA.size = ks.length := (Array.length_toList).symm.trans kv.length.symm
      have l2 : ks.length = kz.length := dpa_len kd
      omega
    obtain ⟨m, F⟩ := I1.fr
    have b0 : ∀ b, s.heap.objs.size ≤ b → X.base.get? b = none := fun b hb => Heap.get?_none_of_le (Nat.le_trans I.ok.bsz (Nat.le_trans sz0 hb))
    have N : News X.base X.env.locals s'.heap (((allNews X.base s'.heap X.env.locals).filter fun p => decide (p.1 ≠ S' ∧ p.1 ≠ A')) ++ [(S', seqObj "list" kA e), (A', seqObj "list" #[] e1)]) := fun p hp => by
      rcases List.mem_append.mp hp with z | z
      · exact news_all p (List.mem_filter.mp z).1
      · rcases List.mem_cons.mp z with z | z
        · rw [z]
          exact ⟨atS, nLS, b0 _ geS⟩
        · rw [List.mem_singleton.mp z]
          exact ⟨atA, nLA, b0 _ geA⟩
    have hnS : ∀ p ∈ (allNews X.base s'.heap X.env.locals).filter (fun p => decide (p.1 ≠ S' ∧ p.1 ≠ A')), p.1 ≠ S' := fun p hp => (of_decide_eq_true (List.mem_filter.mp hp).2).1
    have hnA : ∀ p ∈ (allNews X.base s'.heap X.env.locals).filter (fun p => decide (p.1 ≠ S' ∧ p.1 ≠ A')), p.1 ≠ A' := fun p hp => (of_decide_eq_true (List.mem_filter.mp hp).2).2
    have er := reads_each I1 kd kv
    refine wpAny_bind (listItems_at atS rfl ?_)
    refine key_end (κ := dataKind s'.heap kz) (vs := its) F N neAS hnS hnA (hso.srt er fun d hd' => ?_) hkA (by omega) fun h3 tk3 c F3 N3 => ⟨rfl, ?_⟩
    · have := hd d hd'
      show X.A.units + 1 + 1 + d.depth < cLine
      omega
    have zk : (xs.zip kz).map Prod.snd = kz := List.map_snd_zip (by omega)
    have eo : EachIs (fun (u : Value) (p : V × PyData) => RelV p.1 u) (sortVals (dataKind s'.heap kz) false kA.toList its) ((xs.zip kz).mergeSort (dataLe false Prod.snd)) :=
      sortVals_each (κ := dataKind s'.heap kz) (fun p : V × PyData => keyToks p.2) (each_zip rv hk) (each_of_map (R := fun v d => (dataKind s'.heap kz).keyOf v = some (keyToks d)) Prod.snd (by rw [zk]; exact hso.keys er))
    have vo : Vals (keyed xs kz) (sortVals (dataKind s'.heap kz) false kA.toList its) := each_vals eo
    generalize sortVals (dataKind s'.heap kz) false kA.toList its = out at *
    have keep3 : ∀ b o, b ≠ X.env.locals → b ≠ S' → b ≠ A' → s'.heap.get? b = some o → h3.get? b = some o := fun b o n1 n2 n3 ho => by
      cases qb : X.base.get? b with
      | some u =>
        have := I1.bk b u qb
        rw [ho] at this
        cases this
        exact F3.keep b _ qb
      | none =>
        exact (N3 (b, o) (List.mem_cons_of_mem _ (List.mem_filter.mpr ⟨mem_allNews n1 qb ho, decide_eq_true ⟨n2, n3⟩⟩))).1
    have at3 := (N3 (A', seqObj "list" out.toArray c) List.mem_cons_self).1
    have lenK : (keyed xs kz).length ≤ sizeLine := by
      unfold keyed
      rw [List.length_map, List.length_mergeSort, List.length_zip]
      omega
    have J1 : Inv X (p0 ++ pins) σ H1 s' := I1.pins_of fun p hp => I1.pin p (by
      rcases List.mem_append.mp hp with z | z
      · exact List.mem_append_right _ (List.mem_append_left _ z)
      · exact List.mem_append_right _ (List.mem_append_right _ (List.mem_append_left _ z)))
    have ncell : ∀ (b : Addr) (items : Array Value) (n : Nat), s'.heap.get? b = some (seqObj "list" items n) → ∀ (x : Str) (c : Addr), X.env.cells.lookup x = some c → c ≠ b := fun b items n hb x c hc z => by
      obtain ⟨v, o, ho, hdd⟩ := I1.cell x c hc
      rw [z, hb] at ho
      cases ho
      cases hdd
    have known : ∀ b u, H1 b = some u → b ≠ A' := fun b u e => ne_of_none e freeA
    have up : ∀ b u, H1 b = some u → upd H1 A' (.lst (keyed xs kz)) b = some u := fun b u e => by rw [upd_ne (known b u e)]; exact e
    have fin : Inv X (p0 ++ pins) σ (upd H1 A' (.lst (keyed xs kz))) { s' with heap := h3, gens := s'.gens, drawn := s'.drawn, toks := tk3 } := by
      refine J1.step (ch := [S', A']) ?_ ?_ ?_ ?_ ?_ (fun b ys e => up b _ e) (fun b o u e => up b _ e) (fun b ps e => ⟨#[], by rw [up b _ e]; simp⟩) ?_ ?_ J1.bare
      · intro b hb
        rcases List.mem_cons.mp hb with z | z
        · rw [z]
          exact ⟨Or.inr (Nat.le_trans sz0 geS), nLS, ncell _ _ _ atS, hp0 _ geS⟩
        · rw [List.mem_singleton.mp z]
          exact ⟨Or.inr (Nat.le_trans sz0 geA), nLA, ncell _ _ _ atA, hp0 _ geA⟩
      · intro b o n1 _ n2 e _
        exact keep3 b o n1 (fun z => n2 (by simp [z])) (fun z => n2 (by simp [z])) e
      · intro b o n1 _ n2 e _
        exact ⟨o.slots, keep3 b o n1 (fun z => n2 (by simp [z])) (fun z => n2 (by simp [z])) e⟩
      · intro b o n2 e n
        have nA : b ≠ A' := fun z => n2 (by simp [z])
        rw [upd_ne nA]
        exact n
      · intro b o n2 e
        by_cases hb : b = X.env.locals
        · obtain ⟨ob, _, _, hob, _⟩ := F3.ns
          rw [hb]
          exact ⟨ob, hob⟩
        · exact ⟨o, keep3 b o hb (fun z => n2 (by simp [z])) (fun z => n2 (by simp [z])) e⟩
      · intro m2 hm2
        have em : m2 = m := funext fun x => hm2.agree F.ns x
        rw [em]
        exact F3.ns
      · intro b u e
        by_cases hb : b = A'
        · rw [hb, upd_same] at e
          cases e
          rw [hb]
          exact ⟨lenK, out, c, vo, at3⟩
        · rw [upd_ne hb] at e
          refine (J1.hok b u e).stay (fun d v hd hq => ?_) (fun d hq => up d _ hq) (fun d ys hq => up d _ hq)
          have tr : ∃ w, H1 d = some w := hd.elim (fun z => ⟨u, by rw [z]; exact e⟩) (fun z => ⟨_, z⟩)
          obtain ⟨w, hw⟩ := tr
          refine keep3 d v ?_ ?_ (known d w hw) hq
          · intro z
            rw [z, J1.free] at hw
            cases hw
          · intro z
            rw [z, freeS] at hw
            cases hw
    exact ⟨.ref A', _, fin, rfl, q A' _ (sm.trans (same_new freeA)) (I.hok.fresh geA) upd_same⟩
  show s.heap.objs.size ≤ ((g.push (seqObj "tuple" its.toArray 0)).push (seqObj "list" #[] 0)).objs.size
  exact Nat.le_trans geS (Nat.le_of_lt (Heap.lt_size gS))
end
end Dat

set_option Elab.async false
set_option linter.all false
set_option maxRecDepth 100000
set_option maxHeartbeats 4000000
/-! A lambda with one parameter, as a value; as the key of a sort. -/
namespace Dat
open PySem PySem.Spec PyProof.Rows L2 PySem.W LamX

theorem boot_sorted_ : bootBuiltins "sorted" = some (.builtin "sorted") := by decide +kernel
section
variable {X : Cx}
/-- the call of a lambda with one parameter that captures nothing: by its body, as a def's -/
theorem lam_key {f c' : Addr} {pm ctv : Value} {params : Arguments} {body : Expr} {scope : Scope} {p : Str} {tb : TE} {k : Nat} {clo : List (Str × Addr)} (S : FnScope [p] [p] scope) (gd : Gd X.A) (hr : Room (k + 3) X.A) (hclo : clo = [])
    (hbind : ∀ (u pm cv ctv : Value), bindArgs (kla_fn "<lambda>" (X.env.qual ++ "<lambda>") params body scope clo pm cv ctv) ⟨[u], []⟩ = pure [(p, u)])
    (hbody : ∀ (f : Addr) (cd : Value) (A : Around) (outer : List Env) (s : Shared) (H : Hp) (E : XK), Gd A → Room k (A.deeper (envOfC (X.env.qual ++ "<lambda>") scope s.heap.objs.size f cd)) →
      PE (cxOf CX0 X.prog X.w X.K X.mg X.base [p] (X.env.qual ++ "<lambda>") scope f cd A outer s H E).nox body tb) :
    KeyR X [(f, kla_obj "<lambda>" (X.env.qual ++ "<lambda>") params body scope clo pm c' ctv)] (.ref f) (fun x H Q => H c' = some (CodeO c' (X.env.qual ++ "<lambda>")) ∧ tb [some x] H Q) := by
  intro pins s σ H x v Q I rx h
  obtain ⟨hc, ht⟩ := h
  have of1 := (I.pin (f, kla_obj "<lambda>" (X.env.qual ++ "<lambda>") params body scope clo pm c' ctv) (by simp)).1
  obtain ⟨⟨oc, vs, t, hoc, hdc, hvc⟩, _, _⟩ := I.hok c' _ hc
  have hr2 : Room (k + 1) X.A.in1.in1 := hr.in1.in1
  have e0 := I.env0.in1.in1
  have kinds : ∀ y ∈ [(p, v)], scope.names.lookup y.1 = some .local ∨ (scope.names.lookup y.1 = some .cell ∧ ((cellsFrom (s.heap.objs.size + 1) scope.names []).lookup y.1).isSome = true) := by
    intro y hy
    rw [List.mem_singleton.mp hy]
    rcases S.par p (by simp) with z | z
    · exact Or.inl z
    · exact Or.inr ⟨z, cellsFrom_some _ _ _ (Or.inl z)⟩
  have rc : codeAny (model X.prog X.w) X.A.in1.in1 (.call (.ref f) ⟨[v], []⟩) (CR CX0 X.stack X.prog X.w H s Q E0) s := by
    refine kla_callFunE hr2.depth of1 rfl S.co S.gen rfl ⟨c', oc, vs, t, rfl, hoc, hdc, hvc⟩ ?_
    rw [hbind]
    refine wpAny_pure ?_
    subst hclo
    refine wpAny_newFunctionEnv_cells S.kind kinds fun env he s1 x1 => ?_
    subst he
    refine ⟨I.nolimit.keeps x1.toInCall.keep, ?_⟩
    have J := inv_start (CX := CX0) (cd := .ref c') (f := f) (qual := X.env.qual ++ "<lambda>") (N := [p]) (ps := [p]) (E := E0) (vs := [x]) (us := [v]) S hr2.hd e0 rfl (.cons rx .nil) x1
    refine kla_codeExpr (wpAny_mono ((hbody f (.ref c') X.A.in1.in1 X.stack s H E0 gd (hr2.deeper _)).nox.run [] s1 _ H Q J ht) ?_ fun e s' hq => hq)
    rintro u s' ⟨w', H', J', rw', q⟩
    exact ⟨w', H', J'.os, J'.bare, J'.base, J'.hok, rw', q⟩
  refine wpAny_call (codeAny_mono rc ?_)
  intro r s' hq
  cases r with
  | error e => exact False.elim hq
  | ok fl =>
    cases fl with
    | ret u => exact I.after hq
    | next => exact False.elim hq
    | brk => exact False.elim hq
    | cont => exact False.elim hq

/-- sorted(e, key=lambda p: body) -/
def tSL (X : Cx) (T : List (Addr × Str)) (ta : TA) (tb : TE) : TE := fun σ H Q => ta σ H fun vs H1 => ∃ (a : Addr) (xs : List V) (kz : List PyData), vs = [.ref a] ∧ SqL X.K H1 a xs ∧ kz.length = xs.length ∧ SortK kz ∧
  (∀ d ∈ kz, d.depth ≤ 40) ∧ Tabs T H1 ∧ ∀ H2, ExtN H1 H2 → Tabs T H2 →
    (∀ (i : Nat) (x : V) (k : PyData), xs[i]? = some x → kz[i]? = some k → ∀ H3, Same H2 H3 → tb [some x] H3 fun y H4 => Same H3 H4 ∧ Dp X.K H4 y k) ∧
    ∀ (D : Addr) (H' : Hp), Same H2 H' → H2 D = none → H' D = some (.lst (keyed xs kz)) → Q (.ref D) H'
theorem ExtN.seq {K : PySem.W.Frag} {H H' : Hp} {a : Addr} {xs : List V} (e : ExtN H H') (h : SqL K H a xs) : SqL K H' a xs := by
  rcases h with (h | ⟨o, h⟩) | h
  · exact .inl (.inl (e _ _ h fun ps z => by cases z))
  · exact .inl (.inr ⟨o, e _ _ h fun ps z => by cases z⟩)
  · exact .inr h
theorem pe_sortedLam {T : List (Addr × Str)} {c P : Addr} {params : Arguments} {body e : Expr} {scope : Scope} {lpos pos p1 kpos : Pos} {ta : TA} {tb : TE} {p : Str} {k : Nat}
    (TB : TabB X.base X.mg c P) (hcode : X.env.code = .ref c) (hm : (P, X.env.qual ++ "<lambda>") ∈ T) (hu : ∀ p ∈ T, p.1 = P → p.2 = X.env.qual ++ "<lambda>") (gd : Gd X.A) (hr : Room (k + 3) X.A) (hc : X.calm = true)
    (hg : Gl X "sorted") (ms : X.mg "sorted" = none) (ha : PA X [e] ta) (S : FnScope [p] [p] scope)
    (hbody : ∀ (f : Addr) (cd : Value) (A : Around) (outer : List Env) (s : Shared) (H : Hp) (E : XK), Gd A → Room k (A.deeper (envOfC (X.env.qual ++ "<lambda>") scope s.heap.objs.size f cd)) →
      PE (cxOf CX0 X.prog X.w X.K X.mg X.base [p] (X.env.qual ++ "<lambda>") scope f cd A outer s H E).nox body tb)
    (hclo : cloFrom X.env.cells scope.names [] = [] := by rfl)
    (hdef : defaultsOf params X.env = ([], []) := by rfl)
    (hbind : ∀ (u pm cv ctv : Value), bindArgs (kla_fn "<lambda>" (X.env.qual ++ "<lambda>") params body scope (cloFrom X.env.cells scope.names []) pm cv ctv) ⟨[u], []⟩ = pure [(p, u)] := by intro _ _ _ _; rfl)
    (h1 : backTo pos (starEach [e] X.env) = (false, eval e X.env) :: backTo pos (starEach [] X.env) := by rfl) (h2 : (backTo pos (starEach [e] X.env)).any (·.1) = false := by rfl)
    (h3 : (backToKw pos (keywordEach [⟨some "key", .Lambda params body scope lpos, kpos⟩] X.env)).all (·.1.isSome) = true := by rfl) (h4 : (backToKw pos (keywordEach [⟨some "key", .Lambda params body scope lpos, kpos⟩] X.env)).any (·.1.isNone) = false := by rfl)
    (h5 : (backToKw pos (keywordEach [⟨some "key", .Lambda params body scope lpos, kpos⟩] X.env)).filterMap (·.1) = [Str.ofString "key"] := by rfl) :
    PE X (.Call (.Name "sorted" p1) [e] [⟨some "key", .Lambda params body scope lpos, kpos⟩] pos) (tSL X T ta tb) := by
  refine ⟨fun pins s σ H Q I h => ?_⟩
  refine wpAny_Call_Name_kw (ld_blt I hg ms boot_sorted_ ?_)
  refine PyProof.Rows.callWith_kw (thn (ha.run pos pins s σ H _ I h) ?_) h1 h2 h3 h4
  rintro us s1 ⟨vs, H1, I1, r1, q1⟩
  rw [h5]
  show wpAny _ _ (evalAll ((do let v ← eval (.Lambda params body scope lpos) X.env; standAt pos; pure v) :: [])) _ _ s1
  obtain ⟨a, xs, kz, e1, hS, hk, hso, hd, hT, q⟩ := (show ∃ (a : Addr) (xs : List V) (kz : List PyData), vs = [.ref a] ∧ SqL X.K H1 a xs ∧ kz.length = xs.length ∧ SortK kz ∧ (∀ d ∈ kz, d.depth ≤ 40) ∧ Tabs T H1 ∧ ∀ H2, ExtN H1 H2 → Tabs T H2 →
      (∀ (i : Nat) (x : V) (k : PyData), xs[i]? = some x → kz[i]? = some k → ∀ H3, Same H2 H3 → tb [some x] H3 fun y H4 => Same H3 H4 ∧ Dp X.K H4 y k) ∧
      ∀ (D : Addr) (H' : Hp), Same H2 H' → H2 D = none → H' D = some (.lst (keyed xs kz)) → Q (.ref D) H' from q1)
  subst e1
  obtain rfl := Vals.ref1 r1
  refine wpAny_evalAll_cons (wpAny_bind (lam_make2 I1 TB hcode hm hu hT hdef (fun y hy z => absurd z (S.nofree y hy)) ?_))
  intro f c' pm ctv H2 s2 I2 eN T2 hf hfn hfr hco
  refine wpAny_bind (wpAny_standAt (wpAny_pure (wpAny_evalAll_nil ?_)))
  have nfs : f ∉ X.fs := fun z => by
    rcases I2.ok.stk with e | ⟨e, _⟩
    · exact hfr (by rw [e]; exact z)
    · refine hfr ?_
      rw [e]
      unfold frs
      rw [List.filterMap_cons]
      split
      · exact z
      · exact List.mem_cons_of_mem _ z
  have nL : f ≠ X.env.locals := fun z => by
    obtain ⟨m, ⟨o, es, ep, ho, hdt, _⟩, _⟩ := I2.loc
    rw [← z, hf] at ho
    cases ho
    cases hdt
  have J : Inv X ([(f, kla_obj "<lambda>" (X.env.qual ++ "<lambda>") params body scope (cloFrom X.env.cells scope.names []) pm c' ctv)] ++ pins) σ H2 s2 := by
    refine I2.pins_of fun pr hp => ?_
    rcases List.mem_cons.mp hp with z | z
    · rw [z]
      exact ⟨hf, hfn, nL, nfs, fun v z => by cases z⟩
    · exact I2.pin pr (List.mem_append_right _ z)
  obtain ⟨qk, qe⟩ := q H2 eN T2
  refine wpAny_mono (sorted_key (kz := kz) (xs := xs) (Q := Q) J hc hr.units (lam_key (tb := tb) (k := k) S gd hr hclo hbind hbody) (fun a' => ksk_t1 _ _) (ExtN.seq eN hS) hk hso hd ?_ qe) ?_ (fun _ _ z => z)
  · intro i x kd h6 h7 H3 s3
    exact ⟨s3 _ _ hco, qk i x kd h6 h7 H3 s3⟩
  · rintro u s3 ⟨v, H3, I3, r3, q3⟩
    exact ⟨v, H3, I3.pins_of fun pr hp => I3.pin pr (List.mem_append_right _ (List.mem_append_right _ hp)), r3, q3⟩
end
end Dat

set_option Elab.async false
set_option linter.all false
set_option maxRecDepth 100000
set_option maxHeartbeats 4000000
/-! The layer's rules with the written part as a name of its own: for use within comprehensions. -/
namespace Dat
open PySem PySem.Spec PyProof.Rows L2 LamX
section
variable {X : Cx} (K : PySem.W.Frag)
theorem k_ixL (h : X.K = K := by rfl) : IxR X (rIxL K) := h ▸ ix_list
theorem k_ixT (h : X.K = K := by rfl) : IxR X (rIxT K) := h ▸ ix_tup
theorem k_len (h : X.K = K := by rfl) : CallR X (.builtin "len") (fun xs H Q => ∃ p ys, xs = [.ref p] ∧ (SqL K H p ys ∨ SqT K H p ys) ∧ Q (.int ys.length) H) := h ▸ call_len_seq
theorem k_isi (h : X.K = K := by rfl) : CallR X (.builtin "isinstance") (rIsi K) := h ▸ call_isi
theorem k_repr (gd : Gd X.A) (hu : X.A.units + 64 < cLine) (h : X.K = K := by rfl) : CallR X (.builtin "repr") (rReprD K) := h ▸ call_reprD gd hu
theorem k_eqD (hu : X.A.units + 64 < cLine) (h : X.K = K := by rfl) : OpR X (compareOp .Eq) (rEqD K) := h ▸ op_eqD hu
theorem k_neD (hu : X.A.units + 64 < cLine) (h : X.K = K := by rfl) : OpR X (compareOp .NotEq) (rNeD K) := h ▸ op_neD hu
theorem k_tupleOf (h : X.K = K := by rfl) : CallR X (.type "tuple") (fun xs H Q => ∃ p ys, xs = [.ref p] ∧ ((SqL K H p ys ∧ ∀ l, H l = none → Q (.ref l) (upd H l (.tup ys))) ∨ (SqT K H p ys ∧ Q (.ref p) H))) := h ▸ call_tuple_of
theorem k_listOf (h : X.K = K := by rfl) : CallR X (.type "list") (fun xs H Q => ∃ p ys, xs = [.ref p] ∧ (SqL K H p ys ∨ SqT K H p ys) ∧ ∀ l, H l = none → Q (.ref l) (upd H l (.lst ys))) := h ▸ call_list_of
theorem k_all (hc : X.calm = true := by rfl) (h : X.K = K := by rfl) : CallR X (.builtin "all") (rAll K) := h ▸ cr_all hc
theorem k_any (hc : X.calm = true := by rfl) (h : X.K = K := by rfl) : CallR X (.builtin "any") (rAny K) := h ▸ cr_any hc
theorem k_slL (h : X.K = K := by rfl) : SlR X (rSlL K) := h ▸ sl_list
theorem k_slT (h : X.K = K := by rfl) : SlR X (rSlA K) := h ▸ sl_tupA
theorem k_catT (h : X.K = K := by rfl) : OpR X (binaryOp .Add) (rCatA K) := h ▸ op_catA
theorem k_inSeq (h : X.K = K := by rfl) : OpR X (compareOp .In) (rIn K false) := h ▸ op_in_seq
theorem k_notInSeq (h : X.K = K := by rfl) : OpR X (compareOp .NotIn) (rIn K true) := h ▸ op_notIn_seq
theorem k_piL {tg l : Expr} {tl : TE} (hl : PE X l tl) (h : X.K = K := by rfl) : PI X tg l (iList K tl) := h ▸ pi_list hl
theorem k_piT {tg l : Expr} {tl : TE} (hl : PE X l tl) (h : X.K = K := by rfl) : PI X tg l (iTup K tl) := h ▸ pi_tup hl
theorem k_pgT {es : List Expr} {k : Nat} {t : TGs} {n : Nat} {pos : Pos} (hp : PGs X es t) (hc : X.calm = true := by rfl) (hn : (assignEach es X.env).length = n := by rfl) (hst : (assignEach es X.env).findIdx? (·.1) = none := by rfl) (h : X.K = K := by rfl) :
    PG X (.Tuple es k pos) (gTup K n t) := h ▸ pg_tup hc hp hn hst
variable {o e : Expr} {es : List Expr} {to : TE} {t : TA} {name : Str} {apos cpos : Pos} {T id : String} {r : V → List V → Hp → VK → Prop}
theorem k_bm0 (pa : PlainAttrs T) (slot : Slot T name id) (hty : typeOf (.builtin id) = pure (.type "method_descriptor")) (hm : MtR X id r) (ho : PE X o to)
    (hbase : attributeBase o name X.env (eval o X.env) = eval o X.env := by rfl) (hline : (apos.endLine == cpos.line) = true := by rfl) (h : X.K = K := by rfl) : PE X (.Call (.Attribute o name apos) [] [] cpos) (tBM0 K T r to) :=
  h ▸ pe_bm0 pa slot hty hm ho hbase hline
theorem k_bm (pa : PlainAttrs T) (slot : Slot T name id) (hty : typeOf (.builtin id) = pure (.type "method_descriptor")) (hm : MtR X id r) (ho : PE X o to) (ha : PA X (e :: es) t)
    (hbase : attributeBase o name X.env (eval o X.env) = eval o X.env := by rfl)
    (hfew : ((backTo cpos (starEach (e :: es) X.env)).all (fun x => !x.1) && (backToKw cpos (keywordEach [] X.env)).all (fun x => x.1.isSome)
      && decide ((e :: es).length + ([] : List Keyword).length + (if ([] : List Keyword).isEmpty then 0 else 1) < 30)) = true := by rfl)
    (hline : (apos.endLine == cpos.line) = true := by rfl) (hs : starEach (e :: es) X.env = (false, eval e X.env) :: starEach es X.env := by rfl) (hplain : (backTo cpos (starEach es X.env)).any (·.1) = false := by rfl) (h : X.K = K := by rfl) :
    PE X (.Call (.Attribute o name apos) (e :: es) [] cpos) (tBM K T r to t) := h ▸ pe_bm pa slot hty hm ho ha hbase hfew hline hs hplain
end
end Dat

set_option Elab.async false
set_option linter.all false
set_option maxRecDepth 100000
set_option maxHeartbeats 4000000
/-! The draws of a law's input: feed, draw, plain. -/
namespace Dat
open PySem PySem.Spec PyProof.Rows L2
def topS (i : Nat) : Stmt := PySem.Challenge.pw_pathfolios_k03_like_and_keys.main.body.getD i (.Pass ⟨0, 0, 0, 0⟩)
theorem b_len : bootBuiltins "len" = some (.builtin "len") := by decide +kernel
theorem b_min : bootBuiltins "min" = some (.builtin "min") := by decide +kernel
theorem b_isinstance : bootBuiltins "isinstance" = some (.builtin "isinstance") := by decide +kernel
theorem b_repr : bootBuiltins "repr" = some (.builtin "repr") := by decide +kernel
theorem b_all : bootBuiltins "all" = some (.builtin "all") := by decide +kernel
theorem b_sorted : bootBuiltins "sorted" = some (.builtin "sorted") := by decide +kernel
theorem b_tuple : bootBuiltins "tuple" = some (.type "tuple") := by decide +kernel
theorem b_bool : bootBuiltins "bool" = some (.type "bool") := by decide +kernel
theorem b_int : bootBuiltins "int" = some (.type "int") := by decide +kernel
theorem b_str : bootBuiltins "str" = some (.type "str") := by decide +kernel
abbrev s_lfeed : Stmt := topS 4
abbrev N_lfeed : List Str := ["_law_script"]
abbrev P_lfeed : List Str := ["_law_script"]
theorem sc_lfeed : FnScope N_lfeed P_lfeed (defScope s_lfeed) := ⟨rfl, rfl, rfl, by decide +kernel, rfl, by decide +kernel, by decide +kernel⟩
abbrev s_ldraw : Stmt := topS 5
abbrev N_ldraw : List Str := ["_law_feed_here", "_law_many", "_law_found", "_law_cell", "_law_mixed"]
abbrev P_ldraw : List Str := ["_law_feed_here", "_law_many"]
theorem sc_ldraw : FnScope N_ldraw P_ldraw (defScope s_ldraw) := ⟨rfl, rfl, rfl, by decide +kernel, rfl, by decide +kernel, by decide +kernel⟩

/-- the feed at f: the cells (a list of its own, at sl), the next one, what is left, how many draws; at most n draws so far -/
def Feed (H : Hp) (f sl : Addr) (n : Nat) : Prop := ∃ (ns : List Int) (i l c : Int),
  H f = some (.lst [.ref sl, .int i, .int l, .int c]) ∧ H sl = some (.lst (ns.map V.int)) ∧ sl ≠ f ∧ ns.length ≤ 63 ∧ 0 ≤ i ∧ 0 ≤ l ∧ 0 ≤ c ∧ c ≤ n
theorem Feed.lst {H : Hp} {f sl : Addr} {n : Nat} (h : Feed H f sl n) : LstAt H f := by
  obtain ⟨ns, i, l, c, h, _⟩ := h
  exact .lst h
theorem Feed.ex1 {H : Hp} {f sl : Addr} {n : Nat} (h : Feed H f sl n) : ∃ o, H f = some o := by
  obtain ⟨ns, i, l, c, h, _⟩ := h
  exact ⟨_, h⟩
theorem Feed.ex2 {H : Hp} {f sl : Addr} {n : Nat} (h : Feed H f sl n) : ∃ o, H sl = some o := by
  obtain ⟨ns, i, l, c, _, h, _⟩ := h
  exact ⟨_, h⟩
theorem Feed.ne {H : Hp} {f sl : Addr} {n : Nat} (h : Feed H f sl n) : sl ≠ f := by
  obtain ⟨ns, i, l, c, _, _, h, _⟩ := h
  exact h
theorem Feed.kp {H H' : Hp} {f sl : Addr} {n : Nat} {S : List Addr} (h : Feed H f sl n) (e : Kp S H H') (h1 : f ∉ S) (h2 : sl ∉ S) : Feed H' f sl n := by
  obtain ⟨ns, i, l, c, h, hs, r⟩ := h
  exact ⟨ns, i, l, c, e _ _ h h1, e _ _ hs h2, r⟩
theorem Feed.on {H H' : Hp} {f sl : Addr} {n : Nat} (h : Feed H f sl n) (e : Same H H') : Feed H' f sl n := h.kp (S := []) (Kp.of e) (by simp) (by simp)
theorem Feed.up {H : Hp} {f sl : Addr} {n m : Nat} (h : Feed H f sl n) (e : n ≤ m) : Feed H f sl m := by
  obtain ⟨ns, i, l, c, h, hs, r1, r2, r3, r4, r5, r6⟩ := h
  exact ⟨ns, i, l, c, h, hs, r1, r2, r3, r4, r5, by omega⟩

/-- the one list is kept, what else stood stands -/
def spFeed (K : PySem.W.Frag) : Sp := fun vs H Q _ => ∃ (a : Addr) (ns : List Int), vs = [.ref a] ∧ SqL K H a (ns.map V.int) ∧ ns.length ≤ 63 ∧
  ∀ (f sl : Addr) (H' : Hp), H f = none → H sl = none → Feed H' f sl 0 → Same H H' → Q (.ref f) H'
def spDraw : Sp := fun vs H Q _ => ∃ (f sl : Addr) (m : Int) (n : Nat), vs = [.ref f, .int m] ∧ Feed H f sl n ∧ 1 ≤ m ∧ m < 2 ^ 29 ∧ n ≤ 1000000000 ∧
  ∀ (r : Int) (H' : Hp), 0 ≤ r → r < m → Feed H' f sl (n + 1) → Kp [f] H H' → Q (.int r) H'

section
variable {P : Program} {w : World} {K : PySem.W.Frag} {mg : Str → Option Value} {base : Heap}
theorem ok_lfeed (D : DefG K mg "_law_feed" s_lfeed) : CalG P w K mg base 1 "_law_feed" (spFeed K) [] := by
  refine calG D sc_lfeed (fun f fd F => F.binds fun _ _ _ _ _ _ us hl => match us, hl with | [_], _ => rfl) (fun vs H Q E h => ?_) (fun f cdv A outer s H vs Q E gd hr h => ?_)
  · obtain ⟨a, ns, rfl, _⟩ := h
    rfl
  obtain ⟨a, ns, rfl, hS, hl, q⟩ := h
  have nd := sc_lfeed.nd
  refine ⟨_, (pss_one (ps_ret (pe_lst (pa_cons (pe_slice (k_slL K) (pv 0) po_none (po_some pe_int)) (pa_cons pe_int (pa_cons pe_int (pa_cons pe_int pa_nil))))))), ?_⟩
  refine ⟨_, rfl, 63, rfl, a, _, rfl, hS, fun p hp => ?_⟩
  refine ⟨by show 4 ≤ sizeLine; decide, fun f hf => ?_⟩
  have npf : p ≠ f := ne_of_none upd_same hf
  have ec : cutV (ns.map V.int) none (some 63) = ns.map V.int := by
    unfold cutV
    rw [HT.sIx_none, show HT.sIx (ns.map V.int).length (ns.map V.int).length (some 63) = min 63 (ns.map V.int).length from HT.sIx_nat _ _ 63]
    rw [List.length_map, List.drop_zero, Nat.sub_zero, Nat.min_eq_right hl]
    exact List.take_of_length_le (by rw [List.length_map]; exact Nat.le_refl _)
  refine q f p _ ((same_new hp).free hf) hp ⟨ns, 0, 0, 0, upd_same, ?_, npf, hl, by decide, by decide, by decide, by decide⟩ ((same_new hp).trans (same_new hf))
  rw [upd_ne npf, upd_same, ec]

theorem fd_pos {a : Int} {m : Int} (h : 0 < m) : 0 ≤ a % m := Int.emod_nonneg a (by omega)
theorem lk_shaped (ns : List Int) : SeqAt.shaped (.list (ns.map PyData.int)) = true := by
  have h1 : PyData.canLayAll0 (ns.map PyData.int) = true := by
    induction ns with
    | nil => rfl
    | cons n ns ih => simp [PyData.canLayAll0, PyData.canLay0, ih]
  have h2 : PyData.depthAll (ns.map PyData.int) = 0 := by
    induction ns with
    | nil => rfl
    | cons n ns ih =>
      have ih' := ih (by simpa [PyData.canLayAll0, PyData.canLay0] using h1)
      simp [PyData.depthAll, PyData.depth, ih']
  unfold SeqAt.shaped
  simp only [PyData.canLay0, PyData.depth, h1, h2, Bool.true_and, decide_eq_true_eq]
  omega
theorem ns_empty (ns : List Int) : PyData.eqv (.list (ns.map PyData.int)) (.list []) = ns.isEmpty := by
  cases ns with
  | nil => rfl
  | cons n ns => simp [PyData.eqv, PyData.eqvAll]
theorem pow_nn {a : Int} {k : Nat} (h : 0 ≤ a) : 0 ≤ a ^ k := by
  induction k with
  | zero => rw [Int.pow_zero]; decide
  | succ k ih => rw [Int.pow_succ]; exact Int.mul_nonneg ih h

theorem ok_ldraw (D : DefG K mg "_law_draw" s_ldraw) (m_len : mg "len" = none) : CalG P w K mg base 1 "_law_draw" spDraw [] := by
  refine calG D sc_ldraw (fun f fd F => F.binds fun _ _ _ _ _ _ us hl => match us, hl with | [_, _], _ => rfl) (fun vs H Q E h => ?_) (fun f cdv A outer s H vs Q E gd hr h => ?_)
  · obtain ⟨f, sl, m, n, rfl, _⟩ := h
    rfl
  obtain ⟨f, sl, m, n, rfl, ⟨ns, i, l, c, hf, hs, nsf, h63, i0, l0, c0, cn⟩, m1, m2, n9, q⟩ := h
  have nd := sc_ldraw.nd
  have hu := hr.units
  refine ⟨_, (pss_cons (ps_asg (pe_op op_add (pe_ix (k_ixL K) (pv 0) pe_int (fun _ _ => rfl)) pe_int) (pg_sub (pv 0) pe_int set_list))
(pss_cons (ps_if (pt_cmpR op_gt (pe_ix (k_ixL K) (pv 0) pe_int (fun _ _ => rfl)) pe_int (nomark _))
(pss_cons (ps_set (i := 2) nd rfl (Or.inl rfl) (pe_op op_mod (pe_ix (k_ixL K) (pv 0) pe_int (fun _ _ => rfl)) (pv 1)))
(pss_cons (ps_asg (pe_op op_fdiv (pe_ix (k_ixL K) (pv 0) pe_int (fun _ _ => rfl)) (pv 1)) (pg_sub (pv 0) pe_int set_list))
(pss_one (ps_ret (pv 2)))))
pss_nil)
(pss_cons (ps_set (i := 3) nd rfl (Or.inl rfl) pe_int)
(C8.pss_cut (ps_if (pt_cmpR (k_neD K hu) (pe_ix (k_ixL K) (pv 0) pe_int (fun _ _ => rfl)) (pe_lst pa_nil) (nomark _))
(pss_one (ps_set (i := 3) nd rfl (Or.inl rfl) (pe_ix (k_ixL K) (pe_ix (k_ixL K) (pv 0) pe_int (fun _ _ => rfl)) (pe_op op_mod (pe_ix (k_ixL K) (pv 0) pe_int (fun _ _ => rfl)) (pe_callB (k_len K) (by rfl) m_len b_len (pa_cons (pe_ix (k_ixL K) (pv 0) pe_int (fun _ _ => rfl)) pa_nil))) (fun _ _ => rfl))))
pss_nil)
(pss_cons (ps_asg (pe_op op_add (pe_ix (k_ixL K) (pv 0) pe_int (fun _ _ => rfl)) pe_int) (pg_sub (pv 0) pe_int set_list))
(C8.pss_cut (ps_if (PW.pt (pw_and (pt_cmpR op_ge (pv 3) (pe_op op_pow pe_int pe_int) (nomark _)) (pw_and1 (pt_cmpR op_le (pe_ix (k_ixL K) (pv 0) pe_int (fun _ _ => rfl)) (pe_callB (k_len K) (by rfl) m_len b_len (pa_cons (pe_ix (k_ixL K) (pv 0) pe_int (fun _ _ => rfl)) pa_nil)) (nomark _)))))
(pss_cons (ps_asg (pe_op op_fdiv (pv 3) (pv 1)) (pg_sub (pv 0) pe_int set_list))
(pss_one (ps_ret (pe_op op_mod (pv 3) (pv 1)))))
pss_nil)
(pss_cons (ps_set (i := 4) nd rfl (Or.inl rfl) (pe_op op_mod (pe_op op_pow (pe_op op_add (pe_op op_add (pe_op op_mod (pv 3) pe_int) (pe_op op_mul pe_int (pe_ix (k_ixL K) (pv 0) pe_int (fun _ _ => rfl)))) pe_int) pe_int) pe_int))
(pss_one (ps_ret (pe_op op_mod (pe_op op_fdiv (pe_op op_mod (pe_op op_pow (pe_op op_add (pv 4) (pe_op op_mul pe_int (pe_ix (k_ixL K) (pv 0) pe_int (fun _ _ => rfl)))) pe_int) pe_int) pe_int) (pv 1))))))))))), ?_⟩
  -- [3] = [3] + 1
  refine ⟨_, rfl, f, _, 3, _, rfl, rfl, SqL.of hf, rfl, _, _, rfl, rfl, _, rfl, f, _, 3, 3, rfl, rfl, hf, rfl, ?_⟩
  have k1 : Kp [f] H (upd H f (.lst [.ref sl, .int i, .int l, .int (c + 1)])) := Kp.set (by simp)
  -- if [2] > 0
  refine ⟨_, rfl, f, _, 2, _, rfl, rfl, SqL.of upd_same, rfl, _, _, rfl, rfl, _, rfl, ?_⟩
  refine ite2 (fun hc => ?_) (fun hc => ?_)
  · refine ⟨_, rfl, f, _, 2, _, rfl, rfl, SqL.of upd_same, rfl, _, rfl, _, _, rfl, rfl, by show (0 : Int) < m; omega, ?_⟩
    refine ⟨_, rfl, f, _, 2, _, rfl, rfl, SqL.of upd_same, rfl, _, rfl, _, _, rfl, rfl, ⟨by omega, by omega⟩, _, rfl, f, _, 2, 2, rfl, rfl, upd_same, rfl, ?_⟩
    refine ⟨_, rfl, ?_⟩
    rw [upd_upd]
    have hl : 0 ≤ l / m := Int.ediv_nonneg l0 (by omega)
    refine q (l % m) _ (fd_pos (by omega)) (Int.emod_lt_of_pos _ (by omega)) ⟨ns, i, l / m, c + 1, upd_same, ?_, nsf, h63, i0, hl, by omega, by omega⟩ (Kp.set (by simp))
    rw [upd_ne nsf]
    exact hs
  -- cell = 5; if [0] != []: cell = [0][[1] % len([0])]
  have hs1 : (upd H f (.lst [.ref sl, .int i, .int l, .int (c + 1)])) sl = some (.lst (ns.map V.int)) := by rw [upd_ne nsf]; exact hs
  refine ⟨fun σ H2 => ∃ cell : Int, σ = [some (.ref f), some (.int m), none, some (.int cell), none] ∧
    H2 f = some (.lst [.ref sl, .int i, .int l, .int (c + 1)]) ∧ H2 sl = some (.lst (ns.map V.int)) ∧ Kp [f] H H2, ?_, ?_⟩
  · refine ⟨_, rfl, f, _, 0, _, rfl, rfl, SqL.of upd_same, rfl, by show 0 ≤ sizeLine; decide, fun p hp => ?_⟩
    have pf : f ≠ p := ne_of_none upd_same hp
    have ps : sl ≠ p := ne_of_none hs1 hp
    have h2f : (upd (upd H f (.lst [.ref sl, .int i, .int l, .int (c + 1)])) p (.lst [])) f = some (.lst [.ref sl, .int i, .int l, .int (c + 1)]) := by rw [upd_ne pf]; exact upd_same
    have h2s : (upd (upd H f (.lst [.ref sl, .int i, .int l, .int (c + 1)])) p (.lst [])) sl = some (.lst (ns.map V.int)) := by rw [upd_ne ps]; exact hs1
    have k2 : Kp [f] H (upd (upd H f (.lst [.ref sl, .int i, .int l, .int (c + 1)])) p (.lst [])) := k1.trans (Kp.new hp)
    refine ⟨.list (ns.map PyData.int), .list [], .lst (SqL.of h2s) (dpAll_ints ns), .lst (SqL.of upd_same) .nil, lk_shaped ns, lk_shaped [], _, rfl, ?_⟩
    rw [ns_empty]
    cases ns with
    | nil => exact ⟨5, rfl, h2f, h2s, k2⟩
    | cons n0 nr =>
      refine iteT ?_
      have hlen : (0 : Int) < (((n0 :: nr).map V.int).length : Nat) := by rw [List.length_map, List.length_cons]; omega
      have hk0 : 0 ≤ i % ((((n0 :: nr).map V.int).length : Nat) : Int) := fd_pos hlen
      have hk1 : i % ((((n0 :: nr).map V.int).length : Nat) : Int) < ((((n0 :: nr).map V.int).length : Nat) : Int) := Int.emod_lt_of_pos _ hlen
      obtain ⟨k, ek⟩ := Int.eq_ofNat_of_zero_le hk0
      rw [ek] at hk1
      have hk : k < (n0 :: nr).length := by rw [List.length_map] at hk1; omega
      have at_ : atI ((n0 :: nr).map V.int) (i % ((((n0 :: nr).map V.int).length : Nat) : Int)) = some (.int (n0 :: nr)[k]) := by
        rw [ek]
        exact atI_nat (by rw [List.getElem?_map, List.getElem?_eq_getElem hk]; rfl)
      refine ⟨_, rfl, f, _, 0, _, rfl, rfl, SqL.of h2f, rfl, _, rfl, f, _, 1, _, rfl, rfl, SqL.of h2f, rfl, _, rfl, f, _, 0, _, rfl, rfl, SqL.of h2f, rfl, sl, _, rfl, .inl (SqL.of h2s), i, _, rfl, rfl, hlen, sl, _, _, _, rfl, rfl, SqL.of h2s, at_, ?_⟩
      exact ⟨_, rfl, h2f, h2s, k2⟩
  rintro σ H2 ⟨cell, rfl, hf2, hs2, k2⟩
  -- [1] = [1] + 1
  refine ⟨_, rfl, f, _, 1, _, rfl, rfl, SqL.of hf2, rfl, _, _, rfl, rfl, _, rfl, f, _, 1, 1, rfl, rfl, hf2, rfl, ?_⟩
  have hs3 : (upd H2 f (.lst [.ref sl, .int (i + 1), .int l, .int (c + 1)])) sl = some (.lst (ns.map V.int)) := by rw [upd_ne nsf]; exact hs2
  have k3 : Kp [f] H (upd H2 f (.lst [.ref sl, .int (i + 1), .int l, .int (c + 1)])) := k2.trans (Kp.set (by simp))
  have fd : Feed (upd H2 f (.lst [.ref sl, .int (i + 1), .int l, .int (c + 1)])) f sl (n + 1) := ⟨ns, i + 1, l, c + 1, upd_same, hs3, nsf, h63, by omega, l0, by omega, by omega⟩
  -- if cell >= 10 ** 18 and [1] <= len([0]): a great cell, figure by figure
  refine ⟨fun σ H3 => σ = [some (.ref f), some (.int m), none, some (.int cell), none] ∧ H3 = upd H2 f (.lst [.ref sl, .int (i + 1), .int l, .int (c + 1)]), ?_, ?_⟩
  · refine ⟨_, rfl, 10, 18, rfl, rfl, ⟨by decide, by decide, by decide⟩, _, _, rfl, rfl, _, rfl, ?_⟩
    refine ite2 (fun hc1 => ?_) (fun hc1 => ⟨rfl, rfl⟩)
    refine ⟨_, rfl, f, _, 1, _, rfl, rfl, SqL.of upd_same, rfl, _, rfl, f, _, 0, _, rfl, rfl, SqL.of upd_same, rfl, sl, _, rfl, .inl (SqL.of hs3), _, _, rfl, rfl, _, rfl, ?_⟩
    refine ite2 (fun hc2 => ?_) (fun hc2 => ⟨rfl, rfl⟩)
    have hcell : (0 : Int) ≤ cell := by
      have z := of_decide_eq_true hc1
      have e : (0 : Int) ≤ (10 : Int) ^ ((18 : Int).toNat) := by decide
      omega
    refine ⟨_, rfl, _, rfl, _, _, rfl, rfl, ⟨by omega, by omega⟩, _, rfl, f, _, 2, 2, rfl, rfl, upd_same, rfl, ?_⟩
    refine ⟨_, rfl, _, rfl, _, _, rfl, rfl, by show (0 : Int) < m; omega, ?_⟩
    rw [upd_upd]
    have hl : 0 ≤ cell / m := Int.ediv_nonneg hcell (by omega)
    refine q (cell % m) _ (fd_pos (by omega)) (Int.emod_lt_of_pos _ (by omega)) ⟨ns, i + 1, cell / m, c + 1, upd_same, ?_, nsf, h63, by omega, hl, by omega, by omega⟩ (k2.trans (Kp.set (by simp)))
    rw [upd_ne nsf]
    exact hs2
  rintro σ H3 ⟨rfl, rfl⟩
  -- a lesser one, by fifth powers
  have a1 : (0 : Int) ≤ cell % 2147483629 := fd_pos (by decide)
  have a2 : cell % 2147483629 < 2147483629 := Int.emod_lt_of_pos _ (by decide)
  have b1 : (cell % 2147483629 + 7919 * (c + 1) + 1).natAbs < 2 ^ 64 := by omega
  refine ⟨_, rfl, _, _, rfl, rfl, (show (0 : Int) < 2147483629 by decide), _, rfl, f, _, 3, _, rfl, rfl, SqL.of upd_same, rfl, _, _, rfl, rfl, .inl ⟨by decide, by decide⟩, _, _, rfl, rfl, _, _, rfl, rfl, _, _, rfl, rfl, ⟨by decide, by decide, b1⟩, _, _, rfl, rfl, (show (0 : Int) < 2147483647 by decide), ?_⟩
  have a3 : (0 : Int) ≤ (cell % 2147483629 + 7919 * (c + 1) + 1) ^ (5 : Int).toNat % 2147483647 := fd_pos (by decide)
  have a4 : (cell % 2147483629 + 7919 * (c + 1) + 1) ^ (5 : Int).toNat % 2147483647 < 2147483647 := Int.emod_lt_of_pos _ (by decide)
  have b2 : ((cell % 2147483629 + 7919 * (c + 1) + 1) ^ (5 : Int).toNat % 2147483647 + 104729 * (c + 1)).natAbs < 2 ^ 64 := by
    generalize (cell % 2147483629 + 7919 * (c + 1) + 1) ^ (5 : Int).toNat % 2147483647 = mx at a3 a4 ⊢
    omega
  refine ⟨_, rfl, _, rfl, f, _, 3, _, rfl, rfl, SqL.of upd_same, rfl, _, _, rfl, rfl, .inl ⟨by decide, by decide⟩, _, _, rfl, rfl, _, _, rfl, rfl, ⟨by decide, by decide, b2⟩, _, _, rfl, rfl, (show (0 : Int) < 2147483587 by decide), _, _, rfl, rfl, ⟨by decide, by decide⟩, _, rfl, _, _, rfl, rfl, by show (0 : Int) < m; omega, ?_⟩
  exact q _ _ (fd_pos (by omega)) (Int.emod_lt_of_pos _ (by omega)) fd k3

end
end Dat

set_option Elab.async false
set_option linter.all false
set_option maxRecDepth 100000
set_option maxHeartbeats 4000000
/-! Drawn plains, trees, values, documents. -/
namespace Dat
open PySem PySem.Spec PyProof.Rows L2 LamX
abbrev s_lplain : Stmt := topS 6
abbrev N_lplain : List Str := ["_law_feed_here"]
abbrev P_lplain : List Str := ["_law_feed_here"]
theorem sc_lplain : FnScope N_lplain P_lplain (defScope s_lplain) := ⟨rfl, rfl, rfl, by decide +kernel, rfl, by decide +kernel, by decide +kernel⟩
abbrev s_ltree : Stmt := topS 8
abbrev N_ltree : List Str := ["_law_feed_here", "_law_some", "_law_pool", "_law_fields", "_law_one"]
abbrev P_ltree : List Str := ["_law_feed_here", "_law_some"]
theorem sc_ltree : FnScope N_ltree P_ltree (defScope s_ltree) := ⟨rfl, rfl, rfl, by decide +kernel, rfl, by decide +kernel, by decide +kernel⟩
abbrev s_lvalue : Stmt := topS 7
abbrev N_lvalue : List Str := ["_law_feed_here", "_law_deep", "_law_left", "_law_way", "_law_many", "_law_some", "_law_k"]
abbrev P_lvalue : List Str := ["_law_feed_here", "_law_deep", "_law_left"]
theorem sc_lvalue : FnScope N_lvalue P_lvalue (defScope s_lvalue) := ⟨rfl, rfl, rfl, by decide +kernel, rfl, by decide +kernel, by decide +kernel⟩
abbrev s_ldocument : Stmt := topS 9
abbrev N_ldocument : List Str := ["_law_feed_here", "_law_left", "_law_some", "_law_k"]
abbrev P_ldocument : List Str := ["_law_feed_here"]
theorem sc_ldocument : FnScope N_ldocument P_ldocument (defScope s_ldocument) := ⟨rfl, rfl, rfl, by decide +kernel, rfl, by decide +kernel, by decide +kernel⟩

/-! ### all but S and the tables stay -/
def Kn (S : List Addr) (H H' : Hp) : Prop := ∀ a o, H a = some o → a ∉ S → (∀ ps, o ≠ .tbl ps) → H' a = some o
theorem Kn.refl (S : List Addr) (H : Hp) : Kn S H H := fun _ _ h _ _ => h
theorem Kn.trans {S : List Addr} {H H1 H2 : Hp} (a : Kn S H H1) (b : Kn S H1 H2) : Kn S H H2 := fun c o h n t => b c o (a c o h n t) n t
theorem Kn.wide {S S' : List Addr} {H H1 : Hp} (a : Kn S H H1) (h : ∀ x ∈ S, x ∈ S') : Kn S' H H1 := fun c o e n t => a c o e (fun z => n (h c z)) t
theorem Kn.of {S : List Addr} {H H1 : Hp} (a : Kp S H H1) : Kn S H H1 := fun c o e n _ => a c o e n
theorem Kn.same {S : List Addr} {H H1 : Hp} (a : Same H H1) : Kn S H H1 := fun c o e _ _ => a c o e
theorem Kn.ext {S : List Addr} {H H1 : Hp} (a : ExtN H H1) : Kn S H H1 := fun c o e _ t => a c o e t
theorem Kn.drop {S : List Addr} {H H1 : Hp} {p : Addr} (a : Kn (p :: S) H H1) (h : H p = none) : Kn S H H1 := fun c o e n t =>
  a c o e (by
    intro z
    rcases List.mem_cons.mp z with z | z
    · exact ne_of_none e h z
    · exact n z) t
theorem Kn.lst {S : List Addr} {H H1 : Hp} {p : Addr} {xs : List V} (a : Kn S H H1) (h : H p = some (.lst xs)) (n : p ∉ S) : H1 p = some (.lst xs) := a p _ h n fun ps z => by cases z
theorem Kn.tup {S : List Addr} {H H' : Hp} (k : Kn S H H') (hS : ∀ a ∈ S, LstAt H a) : TupK H H' := fun a xs h => by
  have n : a ∉ S := fun z => hS a z xs h
  rcases h with h | ⟨o, h⟩
  · exact .inl (k _ _ h n fun ps z => by cases z)
  · exact .inr ⟨o, k _ _ h n fun ps z => by cases z⟩
theorem Feed.kn {H H' : Hp} {f sl : Addr} {n : Nat} {S : List Addr} (h : Feed H f sl n) (e : Kn S H H') (h1 : f ∉ S) (h2 : sl ∉ S) : Feed H' f sl n := by
  obtain ⟨ns, i, l, c, h, hs, r⟩ := h
  exact ⟨ns, i, l, c, e.lst h h1, e.lst hs h2, r⟩
/-- tables stay where lists alone turn -/
theorem tabs_kp {T : List (Addr × Str)} {S : List Addr} {H H' : Hp} (t : Tabs T H) (k : Kp S H H') (hS : ∀ a ∈ S, H a = none ∨ ∃ xs, H a = some (.lst xs)) : Tabs T H' := fun p hp => by
  obtain ⟨ps, h1, h2, h3⟩ := t p hp
  have nS : ∀ a o, H a = some o → (∀ xs, o ≠ .lst xs) → a ∉ S := fun a o e n z => by
    rcases hS a z with q | ⟨xs, q⟩
    · rw [q] at e
      cases e
    · rw [q] at e
      exact n xs (Option.some.inj e).symm
  refine ⟨ps, k _ _ h1 (nS _ _ h1 fun xs z => by cases z), h2, fun pos cv hc => ?_⟩
  obtain ⟨c, e1, e2⟩ := h3 pos cv hc
  exact ⟨c, e1, k _ _ e2 (nS _ _ e2 fun xs z => by unfold CodeO at z; cases z)⟩

/-! ### the data -/
/-- the plains that are drawn -/
def PL : List PyData := [.int 0, .int 1, .int 2, .int (-1), .bool true, .bool false, .str "a", .str "", .str "1", .str "yes", .str "b2", .int 999999, .int (-40), .int 1]
def PLV : List V := [.int 0, .int 1, .int 2, .int (-1), .bl true, .bl false, .str "a", .str "", .str "1", .str "yes", .str "b2", .int 999999, .int (-40), .int 1]
/-- the words of fields -/
def WL : List Str := ["a", "b", "k", "kk", "x", "yes"]
def pairD (e : Str × PyData) : PyData := .tuple [.str e.1, e.2]
def treeD (es : List (Str × PyData)) : PyData := .tuple [.str "tree", .tuple (es.map pairD)]
def rowD (ds : List PyData) : PyData := .tuple [.str "row", .tuple ds]
/-- fields: words of WL, rising, each once -/
structure FieldsOk (es : List (Str × PyData)) : Prop where
  pool : ∀ e ∈ es, e.1 ∈ WL
  rise : (es.map (·.1)).Pairwise fun x y => x.cps.toList < y.cps.toList
inductive VD : Nat → PyData → Prop
  | plain {n : Nat} {d : PyData} : d ∈ PL → VD n d
  | row {n : Nat} {ds : List PyData} : ds.length ≤ 3 → (∀ d ∈ ds, VD n d) → VD (n + 1) (rowD ds)
  | tree {n : Nat} {es : List (Str × PyData)} : es.length ≤ 5 → FieldsOk es → (∀ e ∈ es, VD n e.2) → VD (n + 1) (treeD es)
theorem tupD_PL : ∀ d ∈ PL, tupD d = true := by
  intro d hd
  simp only [PL, List.mem_cons, List.not_mem_nil, or_false] at hd
  rcases hd with h | h | h | h | h | h | h | h | h | h | h | h | h | h <;> (rw [h]; rfl)
theorem tupD_pair (e : Str × PyData) : tupD (pairD e) = tupD e.2 := by simp [pairD, tupD, tupDs]
theorem tupD_row (ds : List PyData) : tupD (rowD ds) = tupDs ds := by simp [rowD, tupD, tupDs]
theorem tupD_tree (es : List (Str × PyData)) : tupD (treeD es) = tupDs (es.map pairD) := by simp [treeD, tupD, tupDs]
theorem tupD_VD : ∀ {n : Nat} {d : PyData}, VD n d → tupD d = true := by
  intro n d h
  induction h with
  | plain h => exact tupD_PL _ h
  | row _ _ ih => rw [tupD_row]; exact tupDs_all.mpr ih
  | tree _ _ _ ih =>
    rw [tupD_tree]
    refine tupDs_all.mpr fun x hx => ?_
    obtain ⟨e, he, rfl⟩ := List.mem_map.mp hx
    rw [tupD_pair]
    exact ih e he

/-! ### the promises -/
def spPlain (K : PySem.W.Frag) : Sp := fun vs H Q _ => ∃ (f sl : Addr) (n : Nat), vs = [.ref f] ∧ Feed H f sl n ∧ n ≤ 999999999 ∧
  ∀ (v : V) (d : PyData) (H' : Hp), d ∈ PL → Dp K H' v d → Feed H' f sl (n + 1) → Kp [f] H H' → Q v H'
def spTree (K : PySem.W.Frag) (T : List (Addr × Str)) : Sp := fun vs H Q _ => ∃ (f sl l : Addr) (n : Nat) (xs : List V) (ds : List PyData), vs = [.ref f, .ref l] ∧ Feed H f sl n ∧ Tabs T H ∧ H l = some (.lst xs) ∧ l ≠ f ∧
  DpAll K H xs ds ∧ tupDs ds = true ∧ ds.length ≤ 5 ∧ n ≤ 999999000 ∧
  ∀ (v : V) (es : List (Str × PyData)) (H' : Hp), FieldsOk es → (es.map (·.2)).Perm ds → Dp K H' v (treeD es) → Feed H' f sl (n + 5) → Tabs T H' → Kn [f] H H' → Q v H'
def costV : Nat → Nat
  | 0 => 3
  | n + 1 => 3 * costV n + 10
def spValue (K : PySem.W.Frag) (T : List (Addr × Str)) (dp : Nat) : Sp := fun vs H Q _ => ∃ (f sl l : Addr) (n : Nat) (k : Int), vs = [.ref f, .int dp, .ref l] ∧ Feed H f sl n ∧ Tabs T H ∧ H l = some (.lst [.int k]) ∧ l ≠ f ∧ l ≠ sl ∧
  n + costV dp ≤ 999999000 ∧
  ∀ (v : V) (d : PyData) (k' : Int) (H' : Hp), VD dp d → Dp K H' v d → Feed H' f sl (n + costV dp) → Tabs T H' → H' l = some (.lst [.int k']) → Kn [f, l] H H' → Q v H'

section
variable {P : Program} {w : World} {K : PySem.W.Frag} {mg : Str → Option Value} {base : Heap}
theorem dp_PL {K : PySem.W.Frag} {H : Hp} : DpAll K H PLV PL :=
  .cons (.int _) (.cons (.int _) (.cons (.int _) (.cons (.int _) (.cons (.bl _) (.cons (.bl _) (.cons (.str _) (.cons (.str _) (.cons (.str _) (.cons (.str _) (.cons (.str _) (.cons (.int _) (.cons (.int _) (.cons (.int _) .nil)))))))))))))
/-- an item of a list of data at a place within -/
theorem at_data {K : PySem.W.Frag} {H : Hp} {xs : List V} {ds : List PyData} {r : Int} (h : DpAll K H xs ds) (h0 : 0 ≤ r) (h1 : r < (xs.length : Nat)) : ∃ v d, atI xs r = some v ∧ ds[r.toNat]? = some d ∧ d ∈ ds ∧ Dp K H v d := by
  obtain ⟨k, rfl⟩ := Int.eq_ofNat_of_zero_le h0
  have hk : k < xs.length := by omega
  have e : xs[k]? = some xs[k] := List.getElem?_eq_getElem hk
  obtain ⟨d, h2, h3⟩ := dpa_getV h e
  exact ⟨xs[k], d, atI_nat e, h2, List.mem_of_getElem? h2, h3⟩
theorem ok_lplain (D : DefG K mg "_law_plain" s_lplain) (c_ldraw : CalG P w K mg base 1 "_law_draw" spDraw []) : CalG P w K mg base 2 "_law_plain" (spPlain K) [] := by
  refine calG D sc_lplain (fun f fd F => F.binds fun _ _ _ _ _ _ us hl => match us, hl with | [_], _ => rfl) (fun vs H Q E h => ?_) (fun f cdv A outer s H vs Q E gd hr h => ?_)
  · obtain ⟨f, sl, n, rfl, _⟩ := h
    rfl
  obtain ⟨f, sl, n, rfl, hF, hn, q⟩ := h
  have nd := sc_lplain.nd
  refine ⟨_, (pss_one (ps_ret (pe_ix (k_ixL K) (pe_lst (pa_cons pe_int (pa_cons pe_int (pa_cons pe_int (pa_cons (pe_un un_neg pe_int) (pa_cons pe_bl (pa_cons pe_bl (pa_cons pe_str (pa_cons pe_str (pa_cons pe_str (pa_cons pe_str (pa_cons pe_str (pa_cons pe_int (pa_cons (pe_un un_neg pe_int) (pa_cons pe_int pa_nil))))))))))))))) (pe_cG c_ldraw gd hr (by omega) (by rfl) (pa_cons (pv 0) (pa_cons pe_int pa_nil))) (fun _ _ => rfl)))), ?_⟩
  refine ⟨_, rfl, _, rfl, by show 14 ≤ sizeLine; decide, fun p hp => ?_⟩
  refine ⟨_, rfl, f, sl, 14, n, rfl, hF.on (same_new hp), by decide, by decide, by omega, fun r H2 r0 r1 fd2 k2 => ?_⟩
  obtain ⟨o, ho⟩ := hF.ex1
  have npf : p ≠ f := fun z => ne_of_none ho hp z.symm
  have hp2 : H2 p = some (.lst PLV) := k2 _ _ upd_same (by simpa using npf)
  obtain ⟨v, d, e1, _, e3, e4⟩ := at_data (K := K) (H := H2) dp_PL r0 (show r < (PLV.length : Nat) from r1)
  exact ⟨p, _, r, v, rfl, rfl, SqL.of hp2, e1, q v d H2 e3 e4 fd2 ((Kp.new hp).trans k2)⟩
end
end Dat

set_option Elab.async false
set_option linter.all false
set_option maxRecDepth 100000
set_option maxHeartbeats 4000000
/-! Drawn trees. -/
namespace Dat
open PySem PySem.Spec PyProof.Rows L2 LamX PySem.W
/-! ### a list sorted by its words -/
theorem perm_each {α β : Type} {R : α → β → Prop} {L M : List α} (h : M.Perm L) : ∀ {bs : List β}, EachIs R L bs → ∃ cs, EachIs R M cs ∧ cs.Perm bs := by
  induction h with
  | nil => intro bs e; exact ⟨bs, e, .refl _⟩
  | cons x _ ih =>
    intro bs e
    cases e with
    | cons r t =>
      obtain ⟨cs, e1, p1⟩ := ih t
      exact ⟨_ :: cs, .cons r e1, p1.cons _⟩
  | swap x y l =>
    intro bs e
    cases e with
    | cons r t =>
      cases t with
      | cons r2 t2 => exact ⟨_, .cons r2 (.cons r t2), .swap _ _ _⟩
  | trans _ _ ih1 ih2 =>
    intro bs e
    obtain ⟨cs, e1, p1⟩ := ih2 e
    obtain ⟨ds, e2, p2⟩ := ih1 e1
    exact ⟨ds, e2, p2.trans p1⟩
/-- the items stand for the pairs, the keys are their words -/
def PairAt (K : PySem.W.Frag) (H : Hp) (z : V × PyData) (e : Str × PyData) : Prop := Dp K H z.1 (pairD e) ∧ z.2 = .str e.1
theorem each_pairs {K : PySem.W.Frag} {H : Hp} : ∀ {xs : List V} {es : List (Str × PyData)}, DpAll K H xs (es.map pairD) → EachIs (PairAt K H) (xs.zip (es.map fun e => PyData.str e.1)) es
  | _, [], h => by
    cases h
    exact .nil
  | _, e :: es, h => by
    cases h with
    | cons h1 h2 => exact .cons ⟨h1, rfl⟩ (each_pairs h2)
theorem pairs_each {K : PySem.W.Frag} {H : Hp} : ∀ {ms : List (V × PyData)} {es : List (Str × PyData)}, EachIs (PairAt K H) ms es → DpAll K H (ms.map (·.1)) (es.map pairD)
  | _, _, .nil => .nil
  | _, _, .cons h t => .cons h.1 (pairs_each t)
theorem each_rise {K : PySem.W.Frag} {H : Hp} : ∀ {ms : List (V × PyData)} {es : List (Str × PyData)}, EachIs (PairAt K H) ms es → ms.Pairwise (fun a b => dataLe false Prod.snd a b = true) →
    es.Pairwise fun a b => ¬ b.1.cps.toList < a.1.cps.toList
  | _, _, .nil, _ => .nil
  | _, _, .cons (a := m) (b := e) (as := ms) (bs := es) h t, p => by
    cases p with
    | cons p1 p2 =>
      refine .cons (fun b hb => ?_) (each_rise t p2)
      have mb : ∃ m', m' ∈ ms ∧ PairAt K H m' b := by
        have lz := t.length
        obtain ⟨i, hi, e1⟩ := List.mem_iff_getElem.mp hb
        refine ⟨ms[i]'(by omega), List.getElem_mem _, t.zip (ms[i]'(by omega), b) (List.mem_of_getElem? (i := i) ?_)⟩
        rw [List.getElem?_zip_eq_some]
        exact ⟨List.getElem?_eq_getElem _, by rw [← e1]; exact List.getElem?_eq_getElem hi⟩
      obtain ⟨m', hm', _, k2⟩ := mb
      have z := p1 m' hm'
      rw [dataLe_eq] at z
      simp only [cond_false, h.2, k2, dataLt_str, Bool.not_eq_true', decide_eq_false_iff_not] at z
      exact z
theorem str_ext {x y : Str} (h : x.cps.toList = y.cps.toList) : x = y := by
  obtain ⟨a⟩ := x
  obtain ⟨b⟩ := y
  have e : a = b := by
    have := congrArg List.toArray h
    simpa using this
  rw [e]
/-- the fields that come of drawn words and things -/
theorem keyed_fields {K : PySem.W.Frag} {H : Hp} {xs : List V} {es : List (Str × PyData)} (h : DpAll K H xs (es.map pairD)) (hn : (es.map (·.1)).Nodup) :
    ∃ fs : List (Str × PyData), DpAll K H (keyed xs (es.map fun e => PyData.str e.1)) (fs.map pairD) ∧ fs.Perm es ∧ (fs.map (·.1)).Pairwise fun x y => x.cps.toList < y.cps.toList := by
  have tot : TotalLe (dataLe (β := V × PyData) false Prod.snd) := sortLe_total _ _ _
  obtain ⟨fs, e1, p1⟩ := perm_each (List.mergeSort_perm (xs.zip (es.map fun e => PyData.str e.1)) (dataLe false Prod.snd)) (each_pairs h)
  refine ⟨fs, pairs_each e1, p1, ?_⟩
  have pw := each_rise e1 (List.pairwise_mergeSort tot.trans (fun a b => by rw [Bool.or_eq_true]; exact tot.total a b) _)
  have nd : (fs.map (·.1)).Nodup := (p1.map _).nodup_iff.mpr hn
  rw [List.pairwise_map]
  rw [List.Nodup, List.pairwise_map] at nd
  refine (pw.and nd).imp fun {a b} z => ?_
  obtain ⟨z1, z2⟩ := z
  by_cases q : a.1.cps.toList < b.1.cps.toList
  · exact q
  · exact absurd (str_ext (List.le_antisymm (List.not_lt.mp z1) (List.not_lt.mp q))) z2
theorem alike_strs (ws : List (Str × PyData)) : AllAlike (ws.map fun e => PyData.str e.1) := AllAlike.of fun _ _ => rfl
theorem sortable_strs (ws : List (Str × PyData)) : Sortable (ws.map fun e => PyData.str e.1) := Sortable.others fun _ => ⟨(fun z => by cases z), (fun _ z => by cases z)⟩

theorem erase_map {α β : Type} (g : α → β) : ∀ (l : List α) (k : Nat), (l.map g).eraseIdx k = (l.eraseIdx k).map g
  | [], _ => rfl
  | _ :: _, 0 => rfl
  | x :: l, k + 1 => by rw [List.map_cons, List.eraseIdx_cons_succ, List.eraseIdx_cons_succ, List.map_cons, erase_map g l k]
theorem erase_perm {α : Type} : ∀ (l : List α) (k : Nat) (h : k < l.length), (l[k] :: l.eraseIdx k).Perm l
  | x :: l, 0, _ => .refl _
  | x :: l, k + 1, h => by
    rw [List.eraseIdx_cons_succ, List.getElem_cons_succ]
    exact (List.Perm.swap _ _ _).trans ((erase_perm l k (by simpa using h)).cons x)
theorem seq_at {n : Nat} {r : Int} (h0 : 0 ≤ r) (h1 : r < (n : Int)) : seqIndex? r n = some r.toNat := (ixN_seq (by
  unfold ixN
  rw [if_pos h0, if_pos h1])).1
theorem tupDs_pairs : ∀ {es : List (Str × PyData)}, tupDs (es.map pairD) = tupDs (es.map (·.2))
  | [] => rfl
  | e :: es => by rw [List.map_cons, List.map_cons, tupDs_cons, tupDs_cons, tupD_pair, tupDs_pairs]
theorem tupDs_take {ds : List PyData} (h : tupDs ds = true) (i : Nat) : tupDs (ds.take i) = true := tupDs_all.mpr fun x hx => tupDs_all.mp h x (List.mem_of_mem_take hx)
abbrev lamQ (x : Str) : Str := (x ++ ".<locals>.") ++ "<lambda>"
section
variable {P : Program} {w : World} {K : PySem.W.Frag} {mg : Str → Option Value} {base : Heap}
theorem ok_ltree {c PT : Addr} {T : List (Addr × Str)} (D : DefC K mg "_law_tree" s_ltree (.ref c)) (TB : TabB base mg c PT) (hm : (PT, lamQ "_law_tree") ∈ T) (hux : ∀ p ∈ T, p.1 = PT → p.2 = lamQ "_law_tree")
    (c_ldraw : CalG P w K mg base 1 "_law_draw" spDraw []) (m_len : mg "len" = none) (m_sorted : mg "sorted" = none) (m_tuple : mg "tuple" = none) : CalG P w K mg base 4 "_law_tree" (spTree K T) [] := by
  refine calGC D sc_ltree (fun f fd F => F.binds fun _ _ _ _ _ _ us hl => match us, hl with | [_, _], _ => rfl) (fun vs H Q E h => ?_) (fun f A outer s H vs Q E gd hr h => ?_)
  · obtain ⟨f, sl, l, n, xs, ds, rfl, _⟩ := h
    rfl
  obtain ⟨f, sl, l, n, xs, ds, rfl, hF, hT, hl, nlf, hds, htd, h5, hn, q⟩ := h
  have nd := sc_ltree.nd
  obtain ⟨of, hof⟩ := hF.ex1
  obtain ⟨os, hos⟩ := hF.ex2
  have hlen : xs.length = ds.length := dpa_len hds
  refine ⟨_, (pss_cons (ps_set (i := 2) nd rfl (Or.inr rfl) (pe_lst (pa_cons pe_str (pa_cons pe_str (pa_cons pe_str (pa_cons pe_str (pa_cons pe_str (pa_cons pe_str pa_nil))))))))
(pss_cons (ps_setLc (i := 3) (own := [("_law_one", 4)]) (g := (gName 4)) (tt := tYes) rfl nd rfl rfl (sw_true rfl rfl rfl (by decide +kernel)) (k_piL K (pv 1)) (blkOk_by (N := N_ltree) (sc := defScope s_ltree) (by decide +kernel)) (fun _ _ _ _ _ => (pg_name (i := 4) nd rfl (Or.inl rfl))) (fun _ _ _ _ _ => pts_nil) (fun _ _ _ _ _ => (pe_tup (pa_cons (k_bm K PySem.F.plainAttrs_list PySem.F.slot_list_pop PySem.F.type_list_pop mt_popAt (pv 2) (pa_cons (pe_cG c_ldraw gd hr (by omega) (by rfl) (pa_cons (pv 0) (pa_cons (pe_callB (k_len K) (by rfl) m_len b_len (pa_cons (pv 2) pa_nil)) pa_nil))) pa_nil)) (pa_cons (pv 4) pa_nil)))))
(pss_one (ps_ret (pe_tup (pa_cons pe_str (pa_cons (pe_callTy (k_tupleOf K) (by rfl) m_tuple b_tuple (pa_cons (pe_sortedLam (p := "_law_pair") (k := 0) TB rfl hm hux gd (hr.mono (by omega)) rfl (by rfl) m_sorted (pa_cons (pv 3) pa_nil) ⟨rfl, rfl, rfl, by decide +kernel, rfl, by decide +kernel, by decide +kernel⟩ (fun f cd A outer s H E gd hr => (pe_ix (k_ixT K) (pv 0) pe_int (fun _ _ => rfl)))) pa_nil)) pa_nil))))))), ?_⟩
  -- pool = [..]
  refine ⟨by show 6 ≤ sizeLine; decide, fun p hp => ?_⟩
  have nfp : p ≠ f := fun z => ne_of_none hof hp z.symm
  have nlp : l ≠ p := ne_of_none hl hp
  -- fields = [(pool.pop(draw(feed, len(pool))), one) for one in some]
  refine ⟨.ref l, rfl, l, rfl, ⟨xs, SqL.of (by rw [upd_ne nlp]; exact hl)⟩, fun D hD => ?_⟩
  have nDp : p ≠ D := ne_of_none upd_same hD
  have hD0 : H D = none := (same_new hp).free hD
  have nDf : D ≠ f := fun z => ne_of_none hof hD0 z.symm
  have nDl : l ≠ D := ne_of_none hl hD0
  refine lc_list (xs := xs) (fun i H' => ∃ (rest : List Str) (es : List (Str × PyData)) (acc : List V), Feed H' f sl (n + i) ∧ H' p = some (.lst (rest.map V.str)) ∧ H' D = some (.lst acc) ∧ DpAll K H' acc (es.map pairD) ∧
    es.map (·.2) = ds.take i ∧ (es.map (·.1) ++ rest).Perm WL ∧ Kp [f] H H') ?h0 ?hl ?hs ?hd
  case h0 =>
    have s1 : Same H (upd (upd H p (.lst [.str "a", .str "b", .str "k", .str "kk", .str "x", .str "yes"])) D (.lst [])) := (same_new hp).trans (same_new hD)
    exact ⟨WL, [], [], hF.on s1, by rw [upd_ne nDp, upd_same]; rfl, upd_same, .nil, by simp, .refl _, Kp.of s1⟩
  case hl =>
    rintro i H' _ ⟨rest, es, acc, _, _, _, _, _, _, k⟩
    exact SqL.of (k _ _ hl (by simpa using nlf))
  case hs =>
    rintro i x H' hx ⟨rest, es, acc, fd, hp', hD', da, em, pm, k⟩
    have hi : i < xs.length := (List.getElem?_eq_some_iff.mp hx).1
    obtain ⟨d, hd, dx⟩ := dpa_getV hds hx
    have el : es.length = i := by
      have := congrArg List.length em
      rw [List.length_map, List.length_take] at this
      omega
    have rl : es.length + rest.length = 6 := by
      have := pm.length_eq
      rw [List.length_append, List.length_map] at this
      exact this
    refine ⟨rfl, ?_⟩
    have rm : ((rest.map V.str).length : Int) = (rest.length : Int) := by rw [List.length_map]
    refine ⟨_, rfl, .inl ⟨rfl, _, SqL.of hp'⟩, _, rfl, _, rfl, p, _, rfl, .inl (SqL.of hp'), f, sl, _, n + i, rfl, fd, by omega, by omega, by omega, fun r H2 r0 r1 fd2 k2 => ?_⟩
    have hp2 : H2 p = some (.lst (rest.map V.str)) := k2 _ _ hp' (by simpa using nfp)
    have hD2 : H2 D = some (.lst acc) := k2 _ _ hD' (by simpa using nDf)
    have hk : r.toNat < rest.length := by omega
    refine ⟨p, _, r, r.toNat, .str rest[r.toNat], rfl, rfl, hp2, by omega, by omega, seq_at r0 r1, by rw [List.getElem?_map, List.getElem?_eq_getElem hk]; rfl, ?_⟩
    refine ⟨_, rfl, by show 2 ≤ sizeLine; decide, fun t ht => ?_⟩
    have e3 : (rest.map V.str).eraseIdx r.toNat = (rest.eraseIdx r.toNat).map V.str := erase_map V.str rest r.toNat
    rw [e3] at ht ⊢
    have hD3 : (upd H2 p (.lst ((rest.eraseIdx r.toNat).map V.str))) D = some (.lst acc) := by rw [upd_ne nDp.symm]; exact hD2
    have nDt : D ≠ t := ne_of_none hD3 ht
    have npt : p ≠ t := ne_of_none upd_same ht
    have kA : Kp [f, p] H' (upd H2 p (.lst ((rest.eraseIdx r.toNat).map V.str))) := (k2.wide (by simp)).trans (Kp.set (by simp))
    have kB : Kp [f, p, D] H' (upd (upd (upd H2 p (.lst ((rest.eraseIdx r.toNat).map V.str))) t (.tup [.str rest[r.toNat], x])) D (.lst (acc ++ [.ref t]))) :=
      (kA.wide (by simp)).trans ((Kp.new ht).trans (Kp.set (by simp)))
    have tB : TupK H' (upd (upd (upd H2 p (.lst ((rest.eraseIdx r.toNat).map V.str))) t (.tup [.str rest[r.toNat], x])) D (.lst (acc ++ [.ref t]))) := kB.tup (by
      intro a ha
      simp only [List.mem_cons, List.not_mem_nil, or_false] at ha
      rcases ha with z | z | z <;> rw [z]
      · exact fd.lst
      · exact .lst hp'
      · exact .lst hD')
    have kH : Kp [f] H (upd H2 p (.lst ((rest.eraseIdx r.toNat).map V.str))) := ((k.wide (by simp)).trans ((k2.wide (by simp)).trans (Kp.set (S := [p, f]) (by simp)))).drop hp
    have tH : TupK H (upd H2 p (.lst ((rest.eraseIdx r.toNat).map V.str))) := kH.tup (by
      intro a ha
      rw [List.mem_singleton.mp ha]
      exact hF.lst)
    have kHD : Kp [f] H (upd (upd (upd H2 p (.lst ((rest.eraseIdx r.toNat).map V.str))) t (.tup [.str rest[r.toNat], x])) D (.lst (acc ++ [.ref t]))) :=
      ((kH.wide (by simp)).trans ((Kp.new ht).trans (Kp.set (S := [D, f]) (by simp)))).drop hD0
    have dp1 : Dp K (upd (upd H2 p (.lst ((rest.eraseIdx r.toNat).map V.str))) t (.tup [.str rest[r.toNat], x])) (.ref t) (pairD (rest[r.toNat], d)) :=
      dp_new (.cons (.str _) (.cons (dx.tk (tupDs_all.mp htd d (List.mem_of_getElem? hd)) tH) .nil)) ht
    have hDt : (upd (upd H2 p (.lst ((rest.eraseIdx r.toNat).map V.str))) t (.tup [.str rest[r.toNat], x])) D = some (.lst acc) := by rw [upd_ne nDt]; exact hD3
    have dp2 : Dp K (upd (upd (upd H2 p (.lst ((rest.eraseIdx r.toNat).map V.str))) t (.tup [.str rest[r.toNat], x])) D (.lst (acc ++ [.ref t]))) (.ref t) (pairD (rest[r.toNat], d)) :=
      dp1.tk (by rw [tupD_pair]; exact tupDs_all.mp htd d (List.mem_of_getElem? hd)) ((Kp.set (S := [D]) (by simp)).tup (by
        intro a ha
        rw [List.mem_singleton.mp ha]
        exact .lst hDt))
    have da2 := da.tk (by rw [tupDs_pairs, em]; exact tupDs_take htd i) tB
    have al : acc.length < sizeLine := by
      have := dpa_len da
      rw [List.length_map] at this
      exact Nat.lt_of_le_of_lt (show acc.length ≤ 5 by omega) (by decide)
    refine ⟨acc, hDt, al, rest.eraseIdx r.toNat, es ++ [(rest[r.toNat], d)], acc ++ [.ref t], ?_, ?_, upd_same, ?_, ?_, ?_, kHD⟩
    · have fd3 : Feed (upd H2 p (.lst ((rest.eraseIdx r.toNat).map V.str))) f sl (n + i + 1) := fd2.kp (S := [p]) (Kp.set (by simp)) (by simpa using nfp.symm) (by
        intro z
        have z' : sl = p := by simpa using z
        exact ne_of_none hos hp z')
      exact (fd3.on (same_new ht)).kp (S := [D]) (Kp.set (by simp)) (by simpa using nDf.symm) (by
        intro z
        have z' : sl = D := by simpa using z
        exact ne_of_none hos hD0 z')
    · rw [upd_ne nDp, upd_ne npt, upd_same]
    · rw [List.map_append]
      exact dpa_app da2 (DpAll.one dp2)
    · rw [List.map_append, em, List.take_add_one, hd]
      rfl
    · rw [List.map_append, List.append_assoc]
      refine (List.Perm.append_left _ ?_).trans pm
      exact erase_perm rest r.toNat hk
  case hd =>
    rintro H' ⟨rest, es, acc, fd, hp', hD', da, em, pm, k⟩
    rw [show ds.take xs.length = ds from List.take_of_length_le (by omega)] at em
    have ta : tupDs (es.map pairD) = true := by rw [tupDs_pairs, em]; exact htd
    have el : es.length = ds.length := by
      have := congrArg List.length em
      rwa [List.length_map] at this
    have wn : (es.map (·.1)).Nodup := (List.nodup_append.mp (pm.nodup_iff.mpr (by decide))).1
    have T1 : Tabs T H' := tabs_kp hT k (by
      intro a ha
      rw [List.mem_singleton.mp ha]
      obtain ⟨ns, i, l, c, z, _⟩ := hF
      exact Or.inr ⟨_, z⟩)
    -- sorted(fields, key=..)
    refine ⟨_, rfl, D, acc, es.map (fun e => PyData.str e.1), rfl, SqL.of hD', ?_, SortK.data (alike_strs es) (sortable_strs es), ?_, T1, fun H2 eN T2 => ⟨fun i x kd hx hk H3 s3 => ?_, fun D2 H4 s4 _ h4 => ?_⟩⟩
    · have := dpa_len da
      rw [List.length_map] at this ⊢
      exact this.symm
    · intro d hd
      obtain ⟨e, _, rfl⟩ := List.mem_map.mp hd
      exact Nat.zero_le _
    · obtain ⟨d, hd, dx⟩ := dpa_getV da hx
      rw [List.getElem?_map] at hd hk
      cases he : es[i]? with
      | none => rw [he] at hd; cases hd
      | some e =>
        rw [he] at hd hk
        cases hd
        cases hk
        have tk3 : TupK H' H3 := ((Kn.ext (S := []) eN).trans (Kn.same s3)).tup (by simp)
        obtain ⟨a, us, rfl, hs, hus⟩ := (dx.tk (by rw [tupD_pair]; exact tupDs_all.mp htd _ (by rw [← em]; exact List.mem_map.mpr ⟨e, List.mem_of_getElem? he, rfl⟩)) tk3).tupE
        obtain ⟨u0, hu0, du0⟩ := dpa_get hus (i := 0) (d := .str e.1) rfl
        exact ⟨_, rfl, a, us, 0, u0, rfl, rfl, hs, atI_nat hu0, Same.refl _, du0⟩
    · have tk4 : TupK H' H4 := ((Kn.ext (S := []) eN).trans (Kn.same s4)).tup (by simp)
      obtain ⟨fs, g1, g2, g3⟩ := keyed_fields (da.tk ta tk4) wn
      refine ⟨D2, _, rfl, .inl ⟨SqL.of h4, fun t2 ht2 => ?_⟩⟩
      refine ⟨by show 2 ≤ sizeLine; decide, fun t3 ht3 => ?_⟩
      have d1 := dp_new g1 ht2
      have d2 : Dp K (upd (upd H4 t2 (.tup (keyed acc (es.map fun e => PyData.str e.1)))) t3 (.tup [.str "tree", .ref t2])) (.ref t3) (treeD fs) := dp_new (.cons (.str _) (.cons d1 .nil)) ht3
      have kn : Kn [f] H (upd (upd H4 t2 (.tup (keyed acc (es.map fun e => PyData.str e.1)))) t3 (.tup [.str "tree", .ref t2])) :=
        (Kn.of k).trans ((Kn.ext eN).trans ((Kn.same s4).trans ((Kn.same (same_new ht2)).trans (Kn.same (same_new ht3)))))
      refine q (.ref t3) fs _ ⟨?_, g3⟩ ((g2.map _).trans (by rw [em])) d2 ?_ ((T2.ext s4).ext ((same_new ht2).trans (same_new ht3))) kn
      · intro e he
        have m1 : e.1 ∈ es.map (·.1) := List.mem_map.mpr ⟨e, g2.mem_iff.mp he, rfl⟩
        exact pm.mem_iff.mp (List.mem_append_left _ m1)
      · refine ((fd.kn (S := []) ((Kn.ext eN).trans ((Kn.same s4).trans ((Kn.same (same_new ht2)).trans (Kn.same (same_new ht3))))) (by simp) (by simp))).up (by omega)
end
end Dat

set_option Elab.async false
set_option linter.all false
set_option maxRecDepth 100000
set_option maxHeartbeats 4000000
/-! Drawn values and documents. -/
namespace Dat
open PySem PySem.Spec PyProof.Rows L2 LamX PySem.W
/-! ### tests whose answer is known -/
def AnsT (t : TT) (σ : L2.St) (H : Hp) (b : Bool) : Prop := ∀ Q : Bool → Hp → Prop, Q b H → t σ H Q
theorem ans_or {t u : TT} {σ : L2.St} {H : Hp} {a b : Bool} (h1 : AnsT t σ H a) (h2 : AnsT u σ H b) : AnsT (tOr t u) σ H (a || b) := fun Q q => h1 _ (by
  cases a with
  | true => exact q
  | false => exact h2 _ q)
theorem ans_and {t u : TT} {σ : L2.St} {H : Hp} {a b : Bool} (h1 : AnsT t σ H a) (h2 : a = true → AnsT u σ H b) : AnsT (tAnd t u) σ H (a && b) := fun Q q => h1 _ (by
  cases a with
  | true => exact h2 rfl _ q
  | false => exact q)
theorem if_ans {c : TT} {t u : TS} {D : Ends} {σ : L2.St} {H : Hp} {b : Bool} (h : AnsT c σ H b) (h1 : b = true → t D σ H) (h2 : b = false → u D σ H) : tIfS c t u D σ H := h _ (by
  cases b with
  | true => exact h1 rfl
  | false => exact h2 rfl)
theorem seq_if {c : TT} {t u v : TS} {D : Ends} {σ : L2.St} {H : Hp} (b : Bool) (h : AnsT c σ H b) (h1 : b = true → t { D with nx := v D } σ H) (h2 : b = false → u { D with nx := v D } σ H) : tSeq (tIfS c t u) v D σ H := if_ans h h1 h2
section
variable {P : Program} {w : World} {K : PySem.W.Frag} {mg : Str → Option Value} {base : Heap}
/-- a promise that nobody can ask for -/
def spNone : Sp := fun _ _ _ _ => False
theorem cal_none {x : Str} {st : Stmt} {ps : List Str} {k : Nat} (D : DefG K mg x st) (b : ∀ f fd, Fun K x x st f fd → Binds K fd ps []) : CalG P w K mg base k x spNone [] := by
  obtain ⟨f, fd, F, hm⟩ := D.ex
  exact ⟨f, fd, ps, [], ⟨fun _ _ _ _ h => h.elim, fun _ _ _ _ _ _ _ _ _ _ _ _ _ _ h => h.elim⟩, hm, F.kp, b f fd F, .nil⟩
theorem lvalue_binds : ∀ f fd, Fun K "_law_value" "_law_value" s_lvalue f fd → Binds K fd P_lvalue [] := fun f fd F => F.binds fun _ _ _ _ _ _ us hl => match us, hl with | [_, _, _], _ => rfl

theorem value_step {T : List (Addr × Str)} {dp : Nat} {sp' : Sp} (D : DefG K mg "_law_value" s_lvalue) (c_lvalue : CalG P w K mg base (4 + dp) "_law_value" sp' []) (hrec : dp = 0 ∨ ∃ e, dp = e + 1 ∧ sp' = spValue K T e)
    (c_ldraw : CalG P w K mg base 1 "_law_draw" spDraw []) (c_lplain : CalG P w K mg base 2 "_law_plain" (spPlain K) []) (c_ltree : CalG P w K mg base 4 "_law_tree" (spTree K T) [])
    (m_min : mg "min" = none) (m_range : mg "range" = none) (m_tuple : mg "tuple" = none) : CalG P w K mg base (4 + dp + 1) "_law_value" (spValue K T dp) [] := by
  refine calG D sc_lvalue lvalue_binds (fun vs H Q E h => ?_) (fun f cdv A outer s H vs Q E gd hr h => ?_)
  · obtain ⟨f, sl, l, n, k, rfl, _⟩ := h
    rfl
  obtain ⟨f, sl, l, n, k, rfl, hF, hT, hl, nlf, nls, hn, q⟩ := h
  have nd := sc_lvalue.nd
  obtain ⟨of, hof⟩ := hF.ex1
  obtain ⟨os, hos⟩ := hF.ex2
  have c3 : 3 ≤ costV dp := by cases dp <;> simp only [costV] <;> omega
  refine ⟨_, (pss_cons (ps_asg (pe_op op_sub (pe_ix (k_ixL K) (pv 2) pe_int (fun _ _ => rfl)) pe_int) (pg_sub (pv 2) pe_int set_list))
(pss_cons (ps_set (i := 3) nd rfl (Or.inl rfl) (pe_cG c_ldraw gd hr (by omega) (by rfl) (pa_cons (pv 0) (pa_cons pe_int pa_nil))))
(pss_cons (ps_if (PW.pt (pw_or (pt_cmpR op_lt (pv 3) pe_int (nomark _)) (pw_or (pt_cmpR op_eq (pv 1) pe_int (nomark _)) (pw_or1 (pt_cmpR op_lt (pe_ix (k_ixL K) (pv 2) pe_int (fun _ _ => rfl)) pe_int (nomark _))))))
(pss_one (ps_ret (pe_cG c_lplain gd hr (by omega) (by rfl) (pa_cons (pv 0) pa_nil))))
pss_nil)
(pss_cons (ps_set (i := 4) nd rfl (Or.inl rfl) (pe_cG c_ldraw gd hr (by omega) (by rfl) (pa_cons (pv 0) (pa_cons (pe_callB (call_min2 rfl) (by rfl) m_min b_min (pa_cons pe_int (pa_cons (pe_ix (k_ixL K) (pv 2) pe_int (fun _ _ => rfl)) pa_nil))) pa_nil))))
(pss_cons (ps_setLc (i := 5) (own := [("_law_k", 6)]) (g := (gName 6)) (tt := _) rfl nd rfl rfl (sw_true rfl rfl rfl (by decide +kernel)) (pi_range1 rfl m_range (pa_cons (pv 4) pa_nil)) (blkOk_by (N := N_lvalue) (sc := defScope s_lvalue) (by decide +kernel)) (fun _ _ _ _ _ => (pg_name (i := 6) nd rfl (Or.inl rfl))) (fun _ _ _ _ _ => (pts_one (pt_cmpR op_gt (pe_ix (k_ixL K) (pv 2) pe_int (fun _ _ => rfl)) pe_int (nomark _)))) (fun _ _ _ _ _ => (pe_cG c_lvalue gd hr (by omega) (by rfl) (pa_cons (pv 0) (pa_cons (pe_op op_sub (pv 1) pe_int) (pa_cons (pv 2) pa_nil))))))
(pss_cons (ps_if (pt_cmpR op_lt (pv 3) pe_int (nomark _))
(pss_one (ps_ret (pe_tup (pa_cons pe_str (pa_cons (pe_callTy (k_tupleOf K) (by rfl) m_tuple b_tuple (pa_cons (pv 5) pa_nil)) pa_nil)))))
pss_nil)
(pss_one (ps_ret (pe_cG c_ltree gd hr (by omega) (by rfl) (pa_cons (pv 0) (pa_cons (pv 5) pa_nil))))))))))), ?_⟩
  -- left[0] = left[0] - 1
  refine ⟨_, rfl, l, _, 0, _, rfl, rfl, SqL.of hl, rfl, _, _, rfl, rfl, _, rfl, l, _, 0, 0, rfl, rfl, hl, rfl, ?_⟩
  have k1 : Kp [f, l] H (upd H l (.lst [.int (k - 1)])) := Kp.set (by simp)
  have fd1 : Feed (upd H l (.lst [.int (k - 1)])) f sl n := hF.kp (S := [l]) (Kp.set (by simp)) (by simpa using nlf.symm) (by simpa using nls.symm)
  -- way = draw(feed, 6)
  refine ⟨_, rfl, f, sl, 6, n, rfl, fd1, by decide, by decide, by omega, fun way H2 w0 w6 fd2 k2 => ?_⟩
  have hl2 : H2 l = some (.lst [.int (k - 1)]) := k2 _ _ upd_same (by simpa using nlf)
  have kA : Kp [f, l] H H2 := k1.trans (k2.wide (by simp))
  have hSl : ∀ a ∈ [f, l], H a = none ∨ ∃ xs, H a = some (.lst xs) := by
    intro a ha
    simp only [List.mem_cons, List.not_mem_nil, or_false] at ha
    rcases ha with z | z <;> rw [z]
    · obtain ⟨ns, i, l', c, z2, _⟩ := hF
      exact Or.inr ⟨_, z2⟩
    · exact Or.inr ⟨_, hl⟩
  have T2 : Tabs T H2 := tabs_kp hT kA hSl
  -- if way < 2 or deep == 0 or left[0] < 2: return plain(feed)
  dsimp only [gName]
  refine seq_if (decide (way < 2) || (decide ((V.int dp) = V.int 0) || decide (k - 1 < 2))) (ans_or (fun Q' q' => ⟨_, rfl, _, _, rfl, rfl, _, rfl, q'⟩) (ans_or (fun Q' q' => ⟨_, rfl, rfl, _, rfl, q'⟩) (fun Q' q' => ⟨_, rfl, l, _, 0, _, rfl, rfl, SqL.of hl2, rfl, _, _, rfl, rfl, _, rfl, q'⟩))) (fun hb => ?_) (fun hb => ?_)
  · refine ⟨_, rfl, f, sl, n + 1, rfl, fd2, by omega, fun v d H3 hd dv fd3 k3 => ?_⟩
    exact q v d (k - 1) H3 (.plain hd) dv (fd3.up (by omega)) (tabs_kp T2 k3 (by
      intro a ha
      rw [List.mem_singleton.mp ha]
      obtain ⟨ns, i, l', c, z2, _⟩ := fd2
      exact Or.inr ⟨_, z2⟩)) (k3 _ _ hl2 (by simpa using nlf)) ((Kn.of kA).trans (Kn.of (k3.wide (by simp))))
  -- now there is depth left
  obtain ⟨e, rfl, rfl⟩ : ∃ e, dp = e + 1 ∧ sp' = spValue K T e := by
    rcases hrec with z | z
    · subst z
      simp at hb
    · exact z
  have hk : 2 ≤ k - 1 := by
    have z : decide (k - 1 < 2) = false := (Bool.or_eq_false_iff.mp (Bool.or_eq_false_iff.mp hb).2).2
    have z2 : ¬ (k - 1 < 2) := of_decide_eq_false z
    omega
  have ec : costV (e + 1) = 3 * costV e + 10 := rfl
  -- many = draw(feed, min(4, left[0]))
  refine ⟨_, rfl, _, rfl, l, _, 0, _, rfl, rfl, SqL.of hl2, rfl, 4, k - 1, rfl, f, sl, _, n + 1, rfl, fd2, ?_, ?_, by omega, fun many H3 m0 m1 fd3 k3 => ?_⟩
  · split <;> omega
  · split <;> omega
  have m4 : many < 4 := by
    revert m1
    split <;> omega
  have hl3 : H3 l = some (.lst [.int (k - 1)]) := k3 _ _ hl2 (by simpa using nlf)
  have kB : Kp [f, l] H H3 := kA.trans (k3.wide (by simp))
  have T3 : Tabs T H3 := tabs_kp hT kB hSl
  -- some = [value(feed, deep - 1, left) for k in range(many) if left[0] > 0]
  refine ⟨_, rfl, many, rfl, by omega, by omega, fun D hD => ?_⟩
  obtain ⟨of3, hof3⟩ := fd3.ex1
  obtain ⟨os3, hos3⟩ := fd3.ex2
  have nDf : D ≠ f := fun z => ne_of_none hof3 hD z.symm
  have nDs : D ≠ sl := fun z => ne_of_none hos3 hD z.symm
  have nDl : D ≠ l := fun z => ne_of_none hl3 hD z.symm
  refine lc_range (n := many.toNat) (fun i H' => ∃ (ds : List PyData) (acc : List V) (kk : Int), Feed H' f sl (n + 2 + i * costV e) ∧ Tabs T H' ∧ H' l = some (.lst [.int kk]) ∧ H' D = some (.lst acc) ∧ DpAll K H' acc ds ∧
    ds.length ≤ i ∧ (∀ d ∈ ds, VD e d) ∧ Kn [f, l] H H') ?h0 ?hs ?hd
  case h0 =>
    exact ⟨[], [], k - 1, (fd3.on (same_new hD)).up (by omega), T3.ext (same_new hD), (same_new hD) _ _ hl3, upd_same, .nil, Nat.le_refl _, (fun d hd => by cases hd), (Kn.of kB).trans (Kn.same (same_new hD))⟩
  case hs =>
    rintro i H' hi ⟨ds, acc, kk, fdi, Ti, hli, hDi, dai, dli, vdi, kni⟩
    have hi3 : i < 3 := by omega
    have hci : i * costV e ≤ 2 * costV e := Nat.mul_le_mul_right _ (by omega)
    refine ⟨rfl, _, rfl, l, _, 0, _, rfl, rfl, SqL.of hli, rfl, _, _, rfl, rfl, _, rfl, ?_⟩
    refine ite2 (fun hc => ?_) (fun hc => ?_)
    · refine ⟨_, rfl, _, rfl, _, _, rfl, rfl, _, rfl, f, sl, l, n + 2 + i * costV e, kk, ?_, fdi, Ti, hli, nlf, nls, by omega, fun v d k' H4 vd dv fd4 T4 hl4 kn4 => ?_⟩
      · show ([.ref f, .int (((e + 1 : Nat) : Int) - 1), .ref l] : List V) ++ [] = [.ref f, .int e, .ref l]
        rw [show ((e + 1 : Nat) : Int) - 1 = (e : Int) by omega]
        rfl
      · have hD4 : H4 D = some (.lst acc) := kn4.lst hDi (by simp [nDf, nDl])
        have tk : TupK H' (upd H4 D (.lst (acc ++ [v]))) := (kn4.tup (by
          intro a ha
          simp only [List.mem_cons, List.not_mem_nil, or_false] at ha
          rcases ha with z | z <;> rw [z]
          · exact fdi.lst
          · exact .lst hli)).trans ((Kp.set (S := [D]) (by simp)).tup (by
          intro a ha
          rw [List.mem_singleton.mp ha]
          exact .lst hD4))
        have tk4 : TupK H4 (upd H4 D (.lst (acc ++ [v]))) := (Kp.set (S := [D]) (by simp)).tup (by
          intro a ha
          rw [List.mem_singleton.mp ha]
          exact .lst hD4)
        have al : acc.length < sizeLine := Nat.lt_of_le_of_lt (show acc.length ≤ 3 by rw [dpa_len dai]; omega) (by decide)
        have em : n + 2 + i * costV e + costV e = n + 2 + (i + 1) * costV e := by rw [Nat.add_mul, Nat.one_mul]; omega
        refine ⟨acc, hD4, al, ds ++ [d], acc ++ [v], k', ?_, ?_, ?_, upd_same, ?_, ?_, ?_, ?_⟩
        · rw [← em]
          exact fd4.kp (S := [D]) (Kp.set (by simp)) (by simpa using nDf.symm) (by simpa using nDs.symm)
        · exact tabs_kp T4 (Kp.set (S := [D]) (by simp)) (by
            intro a ha
            rw [List.mem_singleton.mp ha]
            exact Or.inr ⟨_, hD4⟩)
        · rw [upd_ne nDl.symm]
          exact hl4
        · exact dpa_app (dai.tk (tupDs_all.mpr fun x hx => tupD_VD (vdi x hx)) tk) (DpAll.one (dv.tk (tupD_VD vd) tk4))
        · rw [List.length_append, List.length_singleton]
          omega
        · intro x hx
          rcases List.mem_append.mp hx with z | z
          · exact vdi x z
          · rw [List.mem_singleton.mp z]
            exact vd
        · exact ((kni.wide (by simp)).trans ((kn4.wide (by simp)).trans (Kn.of (Kp.set (S := [D, f, l]) (by simp))))).drop (by
            cases q2 : H D with
            | none => rfl
            | some o =>
              by_cases z : D ∈ [f, l]
              · simp [nDf, nDl] at z
              · have := kB D o q2 z
                rw [hD] at this
                cases this)
    · exact ⟨ds, acc, kk, fdi.up (by rw [Nat.add_mul, Nat.one_mul]; omega), Ti, hli, hDi, dai, by omega, vdi, kni⟩
  case hd =>
    rintro H' ⟨ds, acc, kk, fdi, Ti, hli, hDi, dai, dli, vdi, kni⟩
    have hm3 : many.toNat ≤ 3 := by omega
    have hcm : many.toNat * costV e ≤ 3 * costV e := Nat.mul_le_mul_right _ hm3
    have tds : tupDs ds = true := tupDs_all.mpr fun x hx => tupD_VD (vdi x hx)
    -- if way < 4: return ('row', tuple(some))
    refine ⟨_, rfl, _, _, rfl, rfl, _, rfl, ?_⟩
    refine ite2 (fun hc => ?_) (fun hc => ?_)
    · refine ⟨_, rfl, D, acc, rfl, .inl ⟨SqL.of hDi, fun t ht => ?_⟩⟩
      refine ⟨by show 2 ≤ sizeLine; decide, fun t2 ht2 => ?_⟩
      have s2 := (same_new (o := .tup acc) ht).trans (same_new (o := .tup [.str "row", .ref t]) ht2)
      exact q (.ref t2) (rowD ds) kk _ (.row (by omega) vdi) (dp_new (.cons (.str _) (.cons (dp_new dai ht) .nil)) ht2) ((fdi.on s2).up (by omega)) (Ti.ext s2) (s2 _ _ hli) (kni.trans (Kn.same s2))
    · refine ⟨_, rfl, _, rfl, f, sl, D, n + 2 + many.toNat * costV e, acc, ds, rfl, fdi, Ti, hDi, nDf, dai, tds, by omega, by omega, fun v es H4 fo pm dv fd4 T4 kn4 => ?_⟩
      have le : es.length ≤ 3 := by
        have := pm.length_eq
        rw [List.length_map] at this
        omega
      exact q v (treeD es) kk H4 (.tree (by omega) fo (fun x hx => vdi x.2 (pm.mem_iff.mp (List.mem_map.mpr ⟨x, hx, rfl⟩)))) dv (fd4.up (by omega)) T4 (kn4.lst hli (by simpa using nlf)) (kni.trans (kn4.wide (by simp)))
theorem ok_lvalue {T : List (Addr × Str)} (D : DefG K mg "_law_value" s_lvalue)
    (c_ldraw : CalG P w K mg base 1 "_law_draw" spDraw []) (c_lplain : CalG P w K mg base 2 "_law_plain" (spPlain K) []) (c_ltree : CalG P w K mg base 4 "_law_tree" (spTree K T) [])
    (m_min : mg "min" = none) (m_range : mg "range" = none) (m_tuple : mg "tuple" = none) : ∀ dp, CalG P w K mg base (4 + dp + 1) "_law_value" (spValue K T dp) []
  | 0 => value_step D (cal_none D lvalue_binds) (.inl rfl) c_ldraw c_lplain c_ltree m_min m_range m_tuple
  | e + 1 => value_step D ((ok_lvalue D c_ldraw c_lplain c_ltree m_min m_range m_tuple e).mono (by omega)) (.inr ⟨e, rfl, rfl⟩) c_ldraw c_lplain c_ltree m_min m_range m_tuple
end
end Dat

set_option Elab.async false
set_option linter.all false
set_option maxRecDepth 100000
set_option maxHeartbeats 4000000
/-! Drawn documents. -/
namespace Dat
open PySem PySem.Spec PyProof.Rows L2 LamX PySem.W
/-- a document's fields -/
structure DocOk (es : List (Str × PyData)) : Prop where
  few : es.length ≤ 5
  fields : FieldsOk es
  vals : ∀ e ∈ es, VD 3 e.2
def costD : Nat := 5 * costV 3 + 20
def spDoc (K : PySem.W.Frag) (T : List (Addr × Str)) : Sp := fun vs H Q _ => ∃ (f sl : Addr) (n : Nat), vs = [.ref f] ∧ Feed H f sl n ∧ Tabs T H ∧ n + costD ≤ 999999000 ∧
  ∀ (v : V) (es : List (Str × PyData)) (H' : Hp), DocOk es → Dp K H' v (treeD es) → Feed H' f sl (n + costD) → Tabs T H' → Kn [f] H H' → Q v H'
section
variable {P : Program} {w : World} {K : PySem.W.Frag} {mg : Str → Option Value} {base : Heap}
theorem ok_ldocument {T : List (Addr × Str)} (D : DefG K mg "_law_document" s_ldocument)
    (c_ldraw : CalG P w K mg base 1 "_law_draw" spDraw []) (c_lvalue : CalG P w K mg base 8 "_law_value" (spValue K T 3) []) (c_ltree : CalG P w K mg base 4 "_law_tree" (spTree K T) [])
    (m_range : mg "range" = none) : CalG P w K mg base 9 "_law_document" (spDoc K T) [] := by
  refine calG D sc_ldocument (fun f fd F => F.binds fun _ _ _ _ _ _ us hl => match us, hl with | [_], _ => rfl) (fun vs H Q E h => ?_) (fun f cdv A outer s H vs Q E gd hr h => ?_)
  · obtain ⟨f, sl, n, rfl, _⟩ := h
    rfl
  obtain ⟨f, sl, n, rfl, hF, hT, hn, q⟩ := h
  have nd := sc_ldocument.nd
  obtain ⟨of, hof⟩ := hF.ex1
  obtain ⟨os, hos⟩ := hF.ex2
  have ec : costV 3 = 3 * (3 * (3 * 3 + 10) + 10) + 10 := rfl
  have ed : costD = 5 * costV 3 + 20 := rfl
  refine ⟨_, (pss_cons (ps_par (i := 1) (j := 2) rfl nd rfl rfl (by decide) rfl rfl (pa_cons (pe_lst (pa_cons pe_int pa_nil)) (pa_cons (pe_lst pa_nil) pa_nil)) rfl)
(pss_cons (ps_for PassesOwn.never rfl (pi_range1 rfl m_range (pa_cons (pe_ix (k_ixL K) (pe_lst (pa_cons pe_int (pa_cons pe_int (pa_cons pe_int (pa_cons pe_int (pa_cons pe_int pa_nil)))))) (pe_cG c_ldraw gd hr (by omega) (by rfl) (pa_cons (pv 0) (pa_cons pe_int pa_nil))) (fun _ _ => rfl)) pa_nil)) (pg_name (i := 3) nd rfl (Or.inl rfl))
(pss_one (ps_if (pt_cmpR op_gt (pe_ix (k_ixL K) (pv 1) pe_int (fun _ _ => rfl)) pe_int (nomark _))
(pss_one (ps_expr (k_bm K PySem.F.plainAttrs_list PySem.F.slot_list_append PySem.F.type_list_append mt_append (pv 2) (pa_cons (pe_cG c_lvalue gd hr (by omega) (by rfl) (pa_cons (pv 0) (pa_cons pe_int (pa_cons (pv 1) pa_nil)))) pa_nil))))
pss_nil)))
(pss_one (ps_ret (pe_cG c_ltree gd hr (by omega) (by rfl) (pa_cons (pv 0) (pa_cons (pv 2) pa_nil))))))), ?_⟩
  -- left, some = ([29], [])
  refine ⟨by show 1 ≤ sizeLine; decide, fun l hl0 => ⟨by show 0 ≤ sizeLine; decide, fun D hD0 => ⟨_, _, rfl, ?_⟩⟩⟩
  have s1 := (same_new (o := .lst [.int 29]) hl0).trans (same_new (o := .lst []) hD0)
  have hD1 : H D = none := (same_new hl0).free hD0
  have nlf : l ≠ f := fun z => ne_of_none hof hl0 z.symm
  have nls : l ≠ sl := fun z => ne_of_none hos hl0 z.symm
  have nDf : D ≠ f := fun z => ne_of_none hof hD1 z.symm
  have nDs : D ≠ sl := fun z => ne_of_none hos hD1 z.symm
  have nlD : l ≠ D := ne_of_none upd_same hD0
  -- for k in range([3, 4, 5, 0, 2][draw(feed, 5)])
  refine ⟨by show 5 ≤ sizeLine; decide, fun p hp => ?_⟩
  have s2 := s1.trans (same_new (o := .lst [.int 3, .int 4, .int 5, .int 0, .int 2]) hp)
  have nfp : p ≠ f := fun z => ne_of_none (s1 _ _ hof) hp z.symm
  refine ⟨_, rfl, f, sl, 5, n, rfl, hF.on s2, by decide, by decide, by omega, fun r H2 r0 r5 fd2 k2 => ?_⟩
  have hp2 : H2 p = some (.lst [.int 3, .int 4, .int 5, .int 0, .int 2]) := k2 _ _ upd_same (by simpa using nfp)
  have nlp : l ≠ p := ne_of_none (show (upd (upd H l (.lst [.int 29])) D (.lst [])) l = some (.lst [.int 29]) by rw [upd_ne nlD, upd_same]) hp
  have nDp : D ≠ p := ne_of_none (show (upd (upd H l (.lst [.int 29])) D (.lst [])) D = some (.lst []) from upd_same) hp
  have hl2 : H2 l = some (.lst [.int 29]) := k2 _ _ (by rw [upd_ne nlp, upd_ne nlD, upd_same]) (by simpa using nlf)
  have hD2 : H2 D = some (.lst []) := k2 _ _ (by rw [upd_ne nDp, upd_same]) (by simpa using nDf)
  have kA : Kp [f] H H2 := (Kp.of s2).trans k2
  have hSf : ∀ a ∈ [f], H a = none ∨ ∃ xs, H a = some (.lst xs) := by
    intro a ha
    rw [List.mem_singleton.mp ha]
    obtain ⟨ns, i, l', c, z2, _⟩ := hF
    exact Or.inr ⟨_, z2⟩
  have T2 : Tabs T H2 := tabs_kp hT kA hSf
  have at5 : ∃ m : Nat, atI ([.int 3, .int 4, .int 5, .int 0, .int 2] : List V) r = some (.int m) ∧ m ≤ 5 := by
    have cs : r = 0 ∨ r = 1 ∨ r = 2 ∨ r = 3 ∨ r = 4 := by omega
    rcases cs with z | z | z | z | z <;> rw [z]
    · exact ⟨3, rfl, by decide⟩
    · exact ⟨4, rfl, by decide⟩
    · exact ⟨5, rfl, by decide⟩
    · exact ⟨0, rfl, by decide⟩
    · exact ⟨2, rfl, by decide⟩
  obtain ⟨m, hm, m5⟩ := at5
  refine ⟨p, _, r, .int m, rfl, rfl, SqL.of hp2, hm, m, rfl, by omega, by omega, ?_⟩
  refine for_range (lo := 0) (n := m) (fun i σ H' => ∃ (y : Option V) (ds : List PyData) (acc : List V) (kk : Int), σ = [some (.ref f), some (.ref l), some (.ref D), y] ∧ Feed H' f sl (n + 1 + i * costV 3) ∧ Tabs T H' ∧ H' l = some (.lst [.int kk]) ∧ H' D = some (.lst acc) ∧
    DpAll K H' acc ds ∧ ds.length ≤ i ∧ (∀ d ∈ ds, VD 3 d) ∧ Kn [f] H H') ?h0 ?hs ?hd
  case h0 => exact ⟨none, [], [], 29, rfl, fd2.up (by omega), T2, hl2, hD2, .nil, Nat.le_refl _, (fun d hd => by cases hd), Kn.of kA⟩
  case hs =>
    rintro i σ H' hi ⟨y, ds, acc, kk, rfl, fdi, Ti, hli, hDi, dai, dli, vdi, kni⟩
    have hci : i * costV 3 ≤ 4 * costV 3 := Nat.mul_le_mul_right _ (by omega)
    refine ⟨_, rfl, l, _, 0, _, rfl, rfl, SqL.of hli, rfl, _, _, rfl, rfl, _, rfl, ?_⟩
    refine ite2 (fun hc => ?_) (fun hc => ?_)
    · refine ⟨_, rfl, .inl ⟨rfl, _, SqL.of hDi⟩, _, rfl, _, rfl, f, sl, l, n + 1 + i * costV 3, kk, rfl, fdi, Ti, hli, nlf, nls, by omega, fun v d k' H4 vd dv fd4 T4 hl4 kn4 => ?_⟩
      have hD4 : H4 D = some (.lst acc) := kn4.lst hDi (by simp [nDf, nlD.symm])
      have tk4 : TupK H4 (upd H4 D (.lst (acc ++ [v]))) := (Kp.set (S := [D]) (by simp)).tup (by
        intro a ha
        rw [List.mem_singleton.mp ha]
        exact .lst hD4)
      have tk : TupK H' (upd H4 D (.lst (acc ++ [v]))) := (kn4.tup (by
        intro a ha
        simp only [List.mem_cons, List.not_mem_nil, or_false] at ha
        rcases ha with z | z <;> rw [z]
        · exact fdi.lst
        · exact .lst hli)).trans tk4
      have al : acc.length < sizeLine := Nat.lt_of_le_of_lt (show acc.length ≤ 5 by rw [dpa_len dai]; omega) (by decide)
      have em : n + 1 + i * costV 3 + costV 3 = n + 1 + (i + 1) * costV 3 := by rw [Nat.add_mul, Nat.one_mul]; omega
      refine ⟨D, acc, v, rfl, rfl, hD4, al, _, ds ++ [d], acc ++ [v], k', rfl, ?_, ?_, ?_, upd_same, ?_, ?_, ?_, ?_⟩
      · rw [← em]
        exact fd4.kp (S := [D]) (Kp.set (by simp)) (by simpa using nDf.symm) (by simpa using nDs.symm)
      · exact tabs_kp T4 (Kp.set (S := [D]) (by simp)) (by
          intro a ha
          rw [List.mem_singleton.mp ha]
          exact Or.inr ⟨_, hD4⟩)
      · rw [upd_ne nlD]
        exact hl4
      · exact dpa_app (dai.tk (tupDs_all.mpr fun x hx => tupD_VD (vdi x hx)) tk) (DpAll.one (dv.tk (tupD_VD vd) tk4))
      · rw [List.length_append, List.length_singleton]
        omega
      · intro x hx
        rcases List.mem_append.mp hx with z | z
        · exact vdi x z
        · rw [List.mem_singleton.mp z]
          exact vd
      · exact (((kni.wide (by simp)).trans ((kn4.wide (by simp)).trans (Kn.of (Kp.set (S := [D, l, f]) (by simp))))).drop hD1).drop hl0
    · exact ⟨_, ds, acc, kk, rfl, fdi.up (by rw [Nat.add_mul, Nat.one_mul]; omega), Ti, hli, hDi, dai, by omega, vdi, kni⟩
  case hd =>
    rintro σ H' ⟨y, ds, acc, kk, rfl, fdi, Ti, hli, hDi, dai, dli, vdi, kni⟩
    have hcm : m * costV 3 ≤ 5 * costV 3 := Nat.mul_le_mul_right _ m5
    have tds : tupDs ds = true := tupDs_all.mpr fun x hx => tupD_VD (vdi x hx)
    refine ⟨_, rfl, _, rfl, f, sl, D, n + 1 + m * costV 3, acc, ds, rfl, fdi, Ti, hDi, nDf, dai, tds, by omega, by omega, fun v es H4 fo pm dv fd4 T4 kn4 => ?_⟩
    have le : es.length ≤ 5 := by
      have := pm.length_eq
      rw [List.length_map] at this
      omega
    exact q v es H4 ⟨le, fo, fun x hx => vdi x.2 (pm.mem_iff.mp (List.mem_map.mpr ⟨x, hx, rfl⟩))⟩ dv (fd4.up (by omega)) T4 (kni.trans kn4)
end
end Dat

set_option Elab.async false
set_option linter.all false
set_option maxRecDepth 100000
set_option maxHeartbeats 4000000
/-! More rules; small data, and which are alike. -/
namespace Dat
open PySem PySem.Spec PyProof.Rows L2 LamX PySem.W RZ
section
variable {X : Cx} (K : PySem.W.Frag)
theorem k_piZ {e e2 : Expr} {ta : TA} {p pos tpos : Pos} {elts : List Expr} {kk : Nat} (hg : Gl X "zip") (hm : X.mg "zip" = none) (ha : PA X [e, e2] ta)
    (hs : starEach [e, e2] X.env = (false, eval e X.env) :: starEach [e2] X.env := by rfl) (hpl : (backTo pos (starEach [e2] X.env)).any (·.1) = false := by rfl) (h : X.K = K := by rfl) :
    PI X (.Tuple elts kk tpos) (.Call (.Name "zip" p) [e, e2] [] pos) (iZipA K ta) := h ▸ pi_zipA hg hm ha hs hpl
end
/-- a text several times over -/
def strRep (x : Str) (n : Nat) : Str := ⟨(List.replicate n x.cps).foldl (· ++ ·) #[]⟩
theorem op_mul_str {X : Cx} : OpR X (binaryOp .Mult) (fun x y H Q => ∃ (a : Str) (n : Int), x = .str a ∧ y = .int n ∧ 2 ≤ n ∧ n ≤ 1000 ∧ 0 < a.length ∧ a.length ≤ 1000 ∧ Q (.str (strRep a n.toNat)) H) := by
  intro pins s σ H x y v u Q I rx ry h
  obtain ⟨a, n, rfl, rfl, h1, h2, h3, h4, q⟩ := h
  obtain ⟨t, rfl⟩ := rx
  obtain ⟨t', rfl⟩ := ry
  have e1 : ¬ n < 1 := by omega
  have e2 : (n == 1 || a.length == 0) = false := by
    have z1 : (n == 1) = false := by simp; omega
    have z2 : (a.length == 0) = false := by simp; omega
    rw [z1, z2]
    rfl
  refine PySem.P.mul_str (by
      have z1 : ¬ n < -(2 ^ 63 : Int) := by omega
      have z2 : ¬ n ≥ 2 ^ 63 := by omega
      rw [decide_eq_false z1, decide_eq_false z2]; rfl) (fun _ _ => ?_) (fun _ _ => ?_) ?_
  · have hq : (1000 : Int) ≤ (2 ^ 63 - 1) / n := by
      rw [Int.le_ediv_iff_mul_le (by omega)]
      omega
    omega
  · have : a.length * n.toNat ≤ 1000 * 1000 := Nat.mul_le_mul h4 (by omega)
    have sl : sizeLine = 16777216 := rfl
    exact decide_eq_false (by omega)
  · rw [if_neg e1, e2]
    refine ⟨PySem.fits_reps ?_, ⟨.str (strRep a n.toNat), H, I.tok _, ⟨s.toks, rfl⟩, q⟩⟩
    have : a.length * n.toNat ≤ 1000 * 1000 := Nat.mul_le_mul h4 (by omega)
    have sl : sizeLine = 16777216 := rfl
    exact decide_eq_false (by omega)

theorem lc_zipT {K : PySem.W.Frag} {a b : Addr} {xs ys : List V} {g : TG} {tt : TT} {te : TE} {vs : List Nat} {σ : L2.St} {H1 : Hp} {D : Addr} {Qd : Hp → Prop} (hl : xs.length = ys.length) (Pv : Nat → Hp → Prop) (h0 : Pv 0 (upd H1 D (.lst [])))
    (hq : ∀ i H, Pv i H → SqT K H a xs ∧ SqT K H b ys)
    (hs : ∀ i x y T H, xs[i]? = some x → ys[i]? = some y → Pv i H → H T = none → g (.ref T) (wipe σ vs) (upd H T (.tup [x, y])) fun σ2 H2 => wipe σ2 vs = wipe σ vs ∧ tt σ2 H2 fun b H3 =>
      if b = true then te σ2 H3 fun y H4 => ∃ acc, H4 D = some (.lst acc) ∧ acc.length < sizeLine ∧ Pv (i + 1) (upd H4 D (.lst (acc ++ [y]))) else Pv (i + 1) H3) (hd : ∀ H, Pv xs.length H → Qd H) :
    ∃ W : Nat → Nat → Hp → Prop, (∃ m, W 0 m (upd H1 D (.lst []))) ∧ ∀ i m H, W i m H →
      ((ItzT K a b).stop i H ∧ Qd H) ∨ ((ItzT K a b).go i H ∧ ∃ Nx : Hp → Prop, (∀ H', Nx H' → ∃ m', m' < m ∧ W (i + 1) m' H') ∧ ∀ x H', (ItzT K a b).yld i H x H' → g x (wipe σ vs) H' fun σ2 H2 => wipe σ2 vs = wipe σ vs ∧ tt σ2 H2 fun b H3 =>
        if b = true then te σ2 H3 fun y H4 => ∃ acc, H4 D = some (.lst acc) ∧ acc.length < sizeLine ∧ Nx (upd H4 D (.lst (acc ++ [y]))) else Nx H3) := by
  refine ⟨fun i m H => m = xs.length - i ∧ i ≤ xs.length ∧ Pv i H, ⟨xs.length, by simp, Nat.zero_le _, h0⟩, ?_⟩
  rintro i m H ⟨rfl, hi, p⟩
  obtain ⟨qx, qy⟩ := hq i H p
  by_cases hlt : i < xs.length
  · have hx : xs[i]? = some xs[i] := List.getElem?_eq_getElem hlt
    have hlt2 : i < ys.length := by omega
    have hy : ys[i]? = some ys[i] := List.getElem?_eq_getElem hlt2
    refine .inr ⟨⟨xs, ys, _, _, qx, qy, hx, hy⟩, Pv (i + 1), fun H' p' => ⟨xs.length - (i + 1), by omega, rfl, hlt, p'⟩, fun v H' y => ?_⟩
    obtain ⟨T, x', y', rfl, hT, rfl, f1, f2⟩ := y
    exact hs i x' y' T H (f1 xs qx) (f2 ys qy) p hT
  · have e : i = xs.length := by omega
    subst e
    exact .inl ⟨⟨xs, ys, qx, qy, Or.inl (Nat.le_refl _)⟩, hd H p⟩

/-! ### small data -/
def isB : PyData → Bool
  | .bool _ => true
  | _ => false
def isT : PyData → Bool
  | .tuple _ => true
  | _ => false
def isS : PyData → Bool
  | .str _ => true
  | _ => false
def isI : PyData → Bool
  | .bool _ => true
  | .int _ => true
  | _ => false
mutual
def okD : PyData → Bool
  | .none => false
  | .bool _ => true
  | .int i => decide (i.natAbs < 2 ^ 140)
  | .str x => PyData.strOk x && decide (x.length ≤ 16)
  | .list _ => false
  | .tuple xs => decide (xs.length ≤ 20) && okDs xs
  | .dict _ => false
def okDs : List PyData → Bool
  | [] => true
  | x :: xs => okD x && okDs xs
end
theorem okDs_all {xs : List PyData} : okDs xs = true ↔ ∀ x ∈ xs, okD x = true := by
  induction xs with
  | nil => simp [okDs]
  | cons x xs ih => simp [okDs, ih]
theorem okD_tup {xs : List PyData} (h : okD (.tuple xs) = true) : xs.length ≤ 20 ∧ ∀ x ∈ xs, okD x = true := by
  have h' : (decide (xs.length ≤ 20) && okDs xs) = true := by simpa [okD] using h
  rw [Bool.and_eq_true, decide_eq_true_eq] at h'
  exact ⟨h'.1, okDs_all.mp h'.2⟩
mutual
theorem lay_ok : ∀ d : PyData, okD d = true → d.canLay0 = true
  | .none, h => by simp [okD] at h
  | .bool _, _ => by simp [PyData.canLay0]
  | .int _, _ => by simp [PyData.canLay0]
  | .str x, h => by
    have h' : (PyData.strOk x && decide (x.length ≤ 16)) = true := by simpa [okD] using h
    rw [Bool.and_eq_true] at h'
    simpa [PyData.canLay0] using h'.1
  | .list _, h => by simp [okD] at h
  | .dict _, h => by simp [okD] at h
  | .tuple xs, h => by
    have h' : (decide (xs.length ≤ 20) && okDs xs) = true := by simpa [okD] using h
    rw [Bool.and_eq_true] at h'
    simpa [PyData.canLay0] using lays_ok xs h'.2
theorem lays_ok : ∀ ds : List PyData, okDs ds = true → PyData.canLayAll0 ds = true
  | [], _ => by simp [PyData.canLayAll0]
  | d :: ds, h => by
    have h' : okD d = true ∧ okDs ds = true := by simpa [okDs] using h
    simp [PyData.canLayAll0, lay_ok d h'.1, lays_ok ds h'.2]
end
mutual
theorem tup_ok : ∀ d : PyData, okD d = true → tupD d = true
  | .none, h => by simp [okD] at h
  | .bool _, _ => by simp [tupD]
  | .int _, _ => by simp [tupD]
  | .str x, h => by simp [tupD]
  | .list _, h => by simp [okD] at h
  | .dict _, h => by simp [okD] at h
  | .tuple xs, h => by
    have h' : (decide (xs.length ≤ 20) && okDs xs) = true := by simpa [okD] using h
    rw [Bool.and_eq_true] at h'
    simpa [tupD] using tups_ok xs h'.2
theorem tups_ok : ∀ ds : List PyData, okDs ds = true → tupDs ds = true
  | [], _ => by simp [tupDs]
  | d :: ds, h => by
    have h' : okD d = true ∧ okDs ds = true := by simpa [okDs] using h
    simp [tupDs, tup_ok d h'.1, tups_ok ds h'.2]
end
theorem shaped_ok {d : PyData} (h : okD d = true) (hd : d.depth ≤ 64) : SeqAt.shaped d = true := by
  unfold SeqAt.shaped
  rw [lay_ok d h, decide_eq_true hd]
  rfl
theorem depth_tup {xs : List PyData} {n : Nat} (h : (PyData.tuple xs).depth ≤ n + 1) : ∀ x ∈ xs, x.depth ≤ n := by
  have h' : PyData.depthAll xs ≤ n := by simpa [PyData.depth] using h
  clear h
  induction xs with
  | nil => intro x hx; cases hx
  | cons y ys ih =>
    simp only [PyData.depthAll] at h'
    intro x hx
    rcases List.mem_cons.mp hx with z | z
    · rw [z]; omega
    · exact ih (by omega) x z
theorem depth_tup0 {xs : List PyData} : ¬ (PyData.tuple xs).depth ≤ 0 := by simp [PyData.depth]

/-! ### alike -/
mutual
def lkD : PyData → PyData → Bool
  | .tuple xs, e => match e with
    | .tuple ys => lkAll xs ys
    | _ => false
  | d, e => (isB d == isB e) && PyData.eqv d e
def lkAll : List PyData → List PyData → Bool
  | [], [] => true
  | x :: xs, y :: ys => lkD x y && lkAll xs ys
  | [], _ :: _ => false
  | _ :: _, [] => false
end
theorem lk_tup (xs ys : List PyData) : lkD (.tuple xs) (.tuple ys) = lkAll xs ys := by simp only [lkD]
theorem lk_not {d e : PyData} (hd : okD d = true) (h : (isT d && isT e) = false) : lkD d e = ((isB d == isB e) && PyData.eqv d e) := by
  cases d with
  | tuple xs =>
    cases e with
    | tuple ys => simp [isT] at h
    | _ => simp [lkD, isB, PyData.eqv]
  | _ => simp only [lkD]
theorem lk_kinds {d e : PyData} (hd : okD d = true) (he : okD e = true) (h : (isT d && isT e) = false) :
    lkD d e = (((isT d == isT e) && ((isB d == isB e) && (isS d == isS e))) && PyData.eqv d e) := by
  rw [lk_not hd h]
  cases d <;> cases e <;> simp_all [isB, isT, isS, PyData.eqv, okD]
theorem lkAll_len : ∀ {xs ys : List PyData}, xs.length ≠ ys.length → lkAll xs ys = false
  | [], [], h => absurd rfl h
  | [], _ :: _, _ => by simp only [lkAll]
  | _ :: _, [], _ => by simp only [lkAll]
  | x :: xs, y :: ys, h => by
    simp only [lkAll, lkAll_len (xs := xs) (ys := ys) (by simpa using h), Bool.and_false]
/-- pair by pair, up to i -/
def lkB (xs ys : List PyData) (i : Nat) : List Bool := ((xs.zip ys).take i).map fun p => lkD p.1 p.2
theorem lkAll_zip : ∀ {xs ys : List PyData}, xs.length = ys.length → lkAll xs ys = ((xs.zip ys).map fun p => lkD p.1 p.2).all id
  | [], [], _ => by simp only [lkAll]; rfl
  | x :: xs, y :: ys, h => by
    simp only [lkAll, List.zip_cons_cons, List.map_cons, List.all_cons, id]
    rw [lkAll_zip (by simpa using h)]
  | [], _ :: _, h => by simp at h
  | _ :: _, [], h => by simp at h

theorem lkB_le (xs ys : List PyData) (i : Nat) : (lkB xs ys i).length ≤ xs.length := by
  unfold lkB
  rw [List.length_map, List.length_take, List.length_zip]
  omega
theorem lkB_succ {xs ys : List PyData} {i : Nat} {d e : PyData} (h1 : xs[i]? = some d) (h2 : ys[i]? = some e) : lkB xs ys (i + 1) = lkB xs ys i ++ [lkD d e] := by
  unfold lkB
  have : (xs.zip ys)[i]? = some (d, e) := List.getElem?_zip_eq_some.mpr ⟨h1, h2⟩
  rw [List.take_add_one, this, List.map_append]
  rfl
theorem lkB_all {xs ys : List PyData} (h : xs.length = ys.length) : (lkB xs ys xs.length).all id = lkAll xs ys := by
  rw [lkAll_zip h]
  unfold lkB
  rw [List.take_of_length_le (by rw [List.length_zip]; omega)]
/-- the places that aren't alike, up to i -/
def unl (xs ys : List PyData) : Nat → List Int
  | 0 => []
  | i + 1 => unl xs ys i ++ (if lkD (xs.getD i .none) (ys.getD i .none) = true then [] else [(i : Int)])
theorem unl_succ (xs ys : List PyData) (i : Nat) : unl xs ys (i + 1) = unl xs ys i ++ (if lkD (xs.getD i .none) (ys.getD i .none) = true then [] else [(i : Int)]) := rfl
theorem unl_le (xs ys : List PyData) : ∀ i, (unl xs ys i).length ≤ i
  | 0 => Nat.le_refl _
  | i + 1 => by
    have := unl_le xs ys i
    rw [unl_succ, List.length_append]
    split <;> simp <;> omega
theorem getD_of {xs : List PyData} {i : Nat} {d : PyData} (h : xs[i]? = some d) : xs.getD i .none = d := by rw [List.getD_eq_getElem?_getD, h]; rfl
theorem unl_empty {xs ys : List PyData} (h : xs.length = ys.length) : ∀ i, i ≤ xs.length → (unl xs ys i).isEmpty = (lkB xs ys i).all id
  | 0, _ => by simp [unl, lkB]
  | i + 1, hi => by
    have h1 : xs[i]? = some (xs[i]'(by omega)) := List.getElem?_eq_getElem _
    have h2 : ys[i]? = some (ys[i]'(by omega)) := List.getElem?_eq_getElem _
    rw [lkB_succ h1 h2, List.all_append, ← unl_empty h i (by omega)]
    rw [unl_succ, getD_of h1, getD_of h2]
    by_cases c : lkD xs[i] ys[i] = true
    · rw [if_pos c, c]
      simp
    · rw [if_neg c]
      simp [Bool.not_eq_true _ ▸ c]
/-- the kinds of a thing -/
def kinD (d : PyData) : PyData := .tuple [.bool (isT d), .bool (isB d), .bool (isS d)]
theorem kin_eqv (d e : PyData) : PyData.eqv (kinD d) (kinD e) = ((isT d == isT e) && ((isB d == isB e) && (isS d == isS e))) := by
  simp [kinD, PyData.eqv, PyData.eqvAll]
theorem kin_shaped (d : PyData) : SeqAt.shaped (kinD d) = true := shaped_ok (by simp [kinD, okD, okDs]) (by simp [kinD, PyData.depth, PyData.depthAll])
theorem kin_tup (d : PyData) : tupD (kinD d) = true := tup_ok _ (by simp [kinD, okD, okDs])
/-- where nothing stood, what comes there turns nothing -/
theorem same_upd0 {H H' : Hp} {p : Addr} {o : HO} (h : H p = none) (s : Same H H') : Same H (upd H' p o) := fun a u e => by
  rw [upd_ne (ne_of_none e h)]
  exact s a u e

/-! ### isinstance of small data -/
section
variable {K : PySem.W.Frag} {H : Hp} {v : V} {d : PyData}
theorem isi_tup (h : Dp K H v d) (ok : okD d = true) : ∃ t, TyX K H v t ∧ PySem.W.kitOne K t (.type "tuple") = some (isT d) := by
  refine ⟨_, ty_of h, ?_⟩
  cases d with
  | none => simp [okD] at ok
  | list xs => simp [okD] at ok
  | dict xs => simp [okD] at ok
  | _ => rfl
theorem isi_bool (h : Dp K H v d) (ok : okD d = true) : ∃ t, TyX K H v t ∧ PySem.W.kitOne K t (.type "bool") = some (isB d) := by
  refine ⟨_, ty_of h, ?_⟩
  cases d with
  | none => simp [okD] at ok
  | list xs => simp [okD] at ok
  | dict xs => simp [okD] at ok
  | _ => rfl
theorem isi_str (h : Dp K H v d) (ok : okD d = true) : ∃ t, TyX K H v t ∧ PySem.W.kitOne K t (.type "str") = some (isS d) := by
  refine ⟨_, ty_of h, ?_⟩
  cases d with
  | none => simp [okD] at ok
  | list xs => simp [okD] at ok
  | dict xs => simp [okD] at ok
  | _ => rfl
theorem isi_int (h : Dp K H v d) (ok : okD d = true) : ∃ t, TyX K H v t ∧ PySem.W.kitOne K t (.type "int") = some (isI d) := by
  refine ⟨_, ty_of h, ?_⟩
  cases d with
  | none => simp [okD] at ok
  | list xs => simp [okD] at ok
  | dict xs => simp [okD] at ok
  | _ => rfl
end
end Dat

set_option Elab.async false
set_option linter.all false
set_option maxRecDepth 100000
set_option maxHeartbeats 4000000
/-! is_like, key_of, and the law's own looks. -/
namespace Dat
open PySem PySem.Spec PyProof.Rows L2 LamX PySem.W RZ
abbrev s_islike : Stmt := topS 1
abbrev N_islike : List Str := ["one", "other", "part", "match"]
abbrev P_islike : List Str := ["one", "other"]
theorem sc_islike : FnScope N_islike P_islike (defScope s_islike) := ⟨rfl, rfl, rfl, by decide +kernel, rfl, by decide +kernel, by decide +kernel⟩
abbrev s_keyof : Stmt := topS 2
abbrev N_keyof : List Str := ["plain"]
abbrev P_keyof : List Str := ["plain"]
theorem sc_keyof : FnScope N_keyof P_keyof (defScope s_keyof) := ⟨rfl, rfl, rfl, by decide +kernel, rfl, by decide +kernel, by decide +kernel⟩
abbrev s_lrank : Stmt := topS 10
abbrev N_lrank : List Str := ["_law_plain_here"]
abbrev P_lrank : List Str := ["_law_plain_here"]
theorem sc_lrank : FnScope N_lrank P_lrank (defScope s_lrank) := ⟨rfl, rfl, rfl, by decide +kernel, rfl, by decide +kernel, by decide +kernel⟩
abbrev s_lissame : Stmt := topS 11
abbrev N_lissame : List Str := ["_law_one", "_law_other", "_law_kinds", "_law_k", "_law_some"]
abbrev P_lissame : List Str := ["_law_one", "_law_other"]
theorem sc_lissame : FnScope N_lissame P_lissame (defScope s_lissame) := ⟨rfl, rfl, rfl, by decide +kernel, rfl, by decide +kernel, by decide +kernel⟩
def spLike (K : PySem.W.Frag) (n : Nat) : Sp := fun vs H Q _ => ∃ (v u : V) (d e : PyData), vs = [v, u] ∧ Dp K H v d ∧ Dp K H u e ∧ okD d = true ∧ okD e = true ∧ d.depth ≤ n ∧ e.depth ≤ 60 ∧ n ≤ 60 ∧ ∀ H', Same H H' → Q (.bl (lkD d e)) H'
section
variable {P : Program} {w : World} {K : PySem.W.Frag} {mg : Str → Option Value} {base : Heap}
theorem islike_binds : ∀ f fd, Fun K "is_like" "is_like" s_islike f fd → Binds K fd P_islike [] := fun f fd F => F.binds fun _ _ _ _ _ _ us hl => match us, hl with | [_, _], _ => rfl
theorem like_step {n : Nat} {sp' : Sp} (D : DefG K mg "is_like" s_islike) (c_islike : CalG P w K mg base n "is_like" sp' []) (hrec : n = 0 ∨ ∃ e, n = e + 1 ∧ sp' = spLike K e)
    (m_isinstance : mg "isinstance" = none) (m_tuple : mg "tuple" = none) (m_bool : mg "bool" = none) (m_len : mg "len" = none) (m_all : mg "all" = none) (m_zip : mg "zip" = none) : CalG P w K mg base (n + 1) "is_like" (spLike K n) [] := by
  refine calG D sc_islike islike_binds (fun vs H Q E h => ?_) (fun f cdv A outer s H vs Q E gd hr h => ?_)
  · obtain ⟨v, u, d, e, rfl, _⟩ := h
    rfl
  obtain ⟨v, u, d, e, rfl, dv, du, od, oe, hd, he, hn, q⟩ := h
  have nd := sc_islike.nd
  have hu := hr.units
  refine ⟨_, (pss_cons (ps_if (PW.pt (pw_and (pt_val (pe_callB (k_isi K) (by rfl) m_isinstance b_isinstance (pa_cons (pv 0) (pa_cons (pe_bltn (v := .ty "tuple") (by rfl) m_tuple b_tuple rfl) pa_nil)))) (pw_and1 (pt_val (pe_callB (k_isi K) (by rfl) m_isinstance b_isinstance (pa_cons (pv 1) (pa_cons (pe_bltn (v := .ty "tuple") (by rfl) m_tuple b_tuple rfl) pa_nil)))))))
(pss_cons (ps_if (pt_cmpR op_ne (pe_callB (k_len K) (by rfl) m_len b_len (pa_cons (pv 0) pa_nil)) (pe_callB (k_len K) (by rfl) m_len b_len (pa_cons (pv 1) pa_nil)) (nomark _))
(pss_one (ps_ret pe_bl))
pss_nil)
(pss_one (ps_ret (pe_callB (k_all K) (by rfl) m_all b_all (pa_cons (pe_lc (own := [("part", 2), ("match", 3)]) (g := _) (tt := tYes) rfl nd (k_piZ K (by rfl) m_zip (pa_cons (pv 0) (pa_cons (pv 1) pa_nil))) (blkOk_by (N := N_islike) (sc := defScope s_islike) (by decide +kernel)) (fun _ _ _ _ _ => (k_pgT K (n := 2) (pgs_cons (pg_name (i := 2) nd rfl (Or.inl rfl)) (pgs_cons (pg_name (i := 3) nd rfl (Or.inl rfl)) pgs_nil)))) (fun _ _ _ _ _ => pts_nil) (fun _ _ _ _ _ => (pe_cG c_islike gd hr (by omega) (by rfl) (pa_cons (pv 2) (pa_cons (pv 3) pa_nil))))) pa_nil)))))
pss_nil)
(pss_one (ps_ret (pe_and (pe_cmpR op_eq (pe_callB (k_isi K) (by rfl) m_isinstance b_isinstance (pa_cons (pv 0) (pa_cons (pe_bltn (v := .ty "bool") (by rfl) m_bool b_bool rfl) pa_nil))) (pe_callB (k_isi K) (by rfl) m_isinstance b_isinstance (pa_cons (pv 1) (pa_cons (pe_bltn (v := .ty "bool") (by rfl) m_bool b_bool rfl) pa_nil))) (nomark _)) (pe_one (pe_cmpR (k_eqD K hu) (pv 0) (pv 1) (nomark _))))))), ?_⟩
  obtain ⟨t1, ty1, ki1⟩ := isi_tup dv od
  obtain ⟨t2, ty2, ki2⟩ := isi_tup du oe
  refine seq_if (isT d && isT e) (ans_and (fun Q' q' => ⟨_, rfl, _, _, _, _, _, rfl, .ty _, ty1, ki1, _, rfl, q'⟩) (fun _ Q' q' => ⟨_, rfl, _, _, _, _, _, rfl, .ty _, ty2, ki2, _, rfl, q'⟩)) (fun hb => ?_) (fun hb => ?_)
  · rw [Bool.and_eq_true] at hb
    obtain ⟨xs, rfl⟩ : ∃ xs, d = .tuple xs := by cases d <;> simp_all [isT]
    obtain ⟨ys, rfl⟩ : ∃ ys, e = .tuple ys := by cases e <;> simp_all [isT]
    obtain ⟨m, rfl, rfl⟩ : ∃ m, n = m + 1 ∧ sp' = spLike K m := by
      rcases hrec with z | z
      · subst z
        exact absurd hd depth_tup0
      · exact z
    obtain ⟨a, vs, rfl, ha, hxs⟩ := dv.tupE
    obtain ⟨b, us, rfl, hb', hys⟩ := du.tupE
    obtain ⟨lx, ox⟩ := okD_tup od
    obtain ⟨ly, oy⟩ := okD_tup oe
    have tx : tupDs xs = true := tups_ok xs (okDs_all.mpr ox)
    have ty : tupDs ys = true := tups_ok ys (okDs_all.mpr oy)
    have el := dpa_len hxs
    have em := dpa_len hys
    refine ⟨_, rfl, a, _, rfl, .inr ha, _, rfl, b, _, rfl, .inr hb', rfl, _, rfl, ?_⟩
    refine ite2 (fun hc => ?_) (fun hc => ?_)
    · skip
      have ne : xs.length ≠ ys.length := by
        intro z
        rw [el, em, z] at hc
        simp at hc
      have := q H (Same.refl H)
      rw [lk_tup, lkAll_len ne] at this
      exact this
    · have eq : xs.length = ys.length := by
        rw [el, em] at hc
        simp at hc
        omega
      skip
      refine ⟨_, rfl, _, rfl, a, b, vs, us, rfl, .inr ⟨ha, hb', fun D hD => ?_⟩⟩
      refine lc_zipT (xs := vs) (ys := us) (by omega) (fun i H' => Same H H' ∧ H' D = some (.lst ((lkB xs ys i).map V.bl))) ?h0 ?hq ?hs ?hd
      case h0 => exact ⟨same_new hD, upd_same⟩
      case hq =>
        rintro i H' ⟨sm, _⟩
        exact ⟨SqT.same sm ha, SqT.same sm hb'⟩
      case hs =>
        rintro i x y T H' hx hy ⟨sm, hD'⟩ hT
        have nDT : D ≠ T := ne_of_none hD' hT
        have sT : Same H (upd H' T (.tup [x, y])) := sm.trans (same_new hT)
        obtain ⟨d, hdi, dx⟩ := dpa_getV hxs hx
        obtain ⟨e, hei, dy⟩ := dpa_getV hys hy
        have md := List.mem_of_getElem? hdi
        have me := List.mem_of_getElem? hei
        refine ⟨T, [x, y], rfl, SqT.of upd_same, rfl, x, _, rfl, y, _, rfl, rfl, rfl, _, rfl, _, rfl, x, y, d, e, rfl, dx.on sT, dy.on sT, ox d md, oy e me, depth_tup hd d md, ?_, by omega, fun H2 s2 => ?_⟩
        · have := depth_tup (n := 59) he e me
          omega
        · have z2 : H2 D = some (.lst ((lkB xs ys i).map V.bl)) := s2 _ _ (by rw [upd_ne nDT]; exact hD')
          refine ⟨_, z2, ?_, ?_, ?_⟩
          · rw [List.length_map]
            exact Nat.lt_of_le_of_lt (Nat.le_trans (lkB_le xs ys i) lx) (by decide)
          · exact same_upd0 hD (sT.trans s2)
          · rw [upd_same, lkB_succ hdi hei, List.map_append]
            rfl
      case hd =>
        rintro H' ⟨sm, hD'⟩
        refine ⟨D, lkB xs ys vs.length, rfl, SqL.of hD', ?_⟩
        rw [el, lkB_all eq, ← lk_tup]
        exact q H' sm
  · obtain ⟨t3, ty3, ki3⟩ := isi_bool dv od
    obtain ⟨t4, ty4, ki4⟩ := isi_bool du oe
    have lk := lk_not (e := e) od hb
    refine ⟨_, rfl, _, _, _, _, _, rfl, .ty _, ty3, ki3, _, rfl, _, _, _, _, _, rfl, .ty _, ty4, ki4, rfl, ?_⟩
    refine ⟨_, rfl, ?_⟩
    refine ite2 (fun hc => ?_) (fun hc => ?_)
    · refine ⟨_, rfl, _, rfl, d, e, dv, du, shaped_ok od (by omega), shaped_ok oe (by omega), ?_⟩
      have hc' : (isB d == isB e) = true := by
        have z := of_decide_eq_true hc
        have z2 : isB d = isB e := by simpa using z
        simp [z2]
      rw [hc', Bool.true_and] at lk
      rw [← lk]
      exact q H (Same.refl H)
    · have hc' : (isB d == isB e) = false := by
        have z2 : ¬ isB d = isB e := by simpa using hc
        simp [z2]
      rw [hc', Bool.false_and] at lk
      rw [← lk]
      exact q H (Same.refl H)
theorem ok_islike (D : DefG K mg "is_like" s_islike) (m_isinstance : mg "isinstance" = none) (m_tuple : mg "tuple" = none) (m_bool : mg "bool" = none) (m_len : mg "len" = none) (m_all : mg "all" = none) (m_zip : mg "zip" = none) :
    ∀ n, CalG P w K mg base (n + 1) "is_like" (spLike K n) []
  | 0 => like_step D (cal_none D islike_binds) (.inl rfl) m_isinstance m_tuple m_bool m_len m_all m_zip
  | n + 1 => like_step D (ok_islike D m_isinstance m_tuple m_bool m_len m_all m_zip n) (.inr ⟨n, rfl, rfl⟩) m_isinstance m_tuple m_bool m_len m_all m_zip

theorem lsame_binds : ∀ f fd, Fun K "_law_is_same" "_law_is_same" s_lissame f fd → Binds K fd P_lissame [] := fun f fd F => F.binds fun _ _ _ _ _ _ us hl => match us, hl with | [_, _], _ => rfl
theorem same_step {n : Nat} {sp' : Sp} (D : DefG K mg "_law_is_same" s_lissame) (c_lissame : CalG P w K mg base n "_law_is_same" sp' []) (hrec : n = 0 ∨ ∃ e, n = e + 1 ∧ sp' = spLike K e)
    (m_isinstance : mg "isinstance" = none) (m_tuple : mg "tuple" = none) (m_bool : mg "bool" = none) (m_str : mg "str" = none) (m_len : mg "len" = none) (m_range : mg "range" = none) : CalG P w K mg base (n + 1) "_law_is_same" (spLike K n) [] := by
  refine calG D sc_lissame lsame_binds (fun vs H Q E h => ?_) (fun f cdv A outer s H vs Q E gd hr h => ?_)
  · obtain ⟨v, u, d, e, rfl, _⟩ := h
    rfl
  obtain ⟨v, u, d, e, rfl, dv, du, od, oe, hd, he, hn, q⟩ := h
  have nd := sc_lissame.nd
  have hu := hr.units
  refine ⟨_, (pss_cons (ps_if (PW.pt (pw_and (pt_val (pe_callB (k_isi K) (by rfl) m_isinstance b_isinstance (pa_cons (pv 0) (pa_cons (pe_bltn (v := .ty "tuple") (by rfl) m_tuple b_tuple rfl) pa_nil)))) (pw_and1 (pt_val (pe_callB (k_isi K) (by rfl) m_isinstance b_isinstance (pa_cons (pv 1) (pa_cons (pe_bltn (v := .ty "tuple") (by rfl) m_tuple b_tuple rfl) pa_nil)))))))
(pss_cons (ps_if (pt_cmpR op_ne (pe_callB (k_len K) (by rfl) m_len b_len (pa_cons (pv 0) pa_nil)) (pe_callB (k_len K) (by rfl) m_len b_len (pa_cons (pv 1) pa_nil)) (nomark _))
(pss_one (ps_ret pe_bl))
pss_nil)
(pss_one (ps_ret (pe_cmpR (k_eqD K hu) (pe_lc (own := [("_law_k", 3)]) (g := (gName 3)) (tt := _) rfl nd (pi_range1 rfl m_range (pa_cons (pe_callB (k_len K) (by rfl) m_len b_len (pa_cons (pv 0) pa_nil)) pa_nil)) (blkOk_by (N := N_lissame) (sc := defScope s_lissame) (by decide +kernel)) (fun _ _ _ _ _ => (pg_name (i := 3) nd rfl (Or.inl rfl))) (fun _ _ _ _ _ => (pts_one (pt_not (pt_val (pe_cG c_lissame gd hr (by omega) (by rfl) (pa_cons (pe_ix (k_ixT K) (pv 0) (pv 3) (fun _ _ => rfl)) (pa_cons (pe_ix (k_ixT K) (pv 1) (pv 3) (fun _ _ => rfl)) pa_nil))))))) (fun _ _ _ _ _ => (pv 3))) (pe_lst pa_nil) (nomark _)))))
pss_nil)
(pss_cons (ps_setLc (i := 2) (own := [("_law_some", 4)]) (g := (gName 4)) (tt := tYes) rfl nd rfl rfl (sw_true rfl rfl rfl (by decide +kernel)) (k_piT K (pe_tup (pa_cons (pv 0) (pa_cons (pv 1) pa_nil)))) (blkOk_by (N := N_lissame) (sc := defScope s_lissame) (by decide +kernel)) (fun _ _ _ _ _ => (pg_name (i := 4) nd rfl (Or.inl rfl))) (fun _ _ _ _ _ => pts_nil) (fun _ _ _ _ _ => (pe_tup (pa_cons (pe_callB (k_isi K) (by rfl) m_isinstance b_isinstance (pa_cons (pv 4) (pa_cons (pe_bltn (v := .ty "tuple") (by rfl) m_tuple b_tuple rfl) pa_nil))) (pa_cons (pe_callB (k_isi K) (by rfl) m_isinstance b_isinstance (pa_cons (pv 4) (pa_cons (pe_bltn (v := .ty "bool") (by rfl) m_bool b_bool rfl) pa_nil))) (pa_cons (pe_callB (k_isi K) (by rfl) m_isinstance b_isinstance (pa_cons (pv 4) (pa_cons (pe_bltn (v := .ty "str") (by rfl) m_str b_str rfl) pa_nil))) pa_nil))))))
(pss_one (ps_ret (pe_and (pe_cmpR (k_eqD K hu) (pe_ix (k_ixL K) (pv 2) pe_int (fun _ _ => rfl)) (pe_ix (k_ixL K) (pv 2) pe_int (fun _ _ => rfl)) (nomark _)) (pe_one (pe_cmpR (k_eqD K hu) (pv 0) (pv 1) (nomark _)))))))), ?_⟩
  obtain ⟨t1, ty1, ki1⟩ := isi_tup dv od
  obtain ⟨t2, ty2, ki2⟩ := isi_tup du oe
  refine seq_if (isT d && isT e) (ans_and (fun Q' q' => ⟨_, rfl, _, _, _, _, _, rfl, .ty _, ty1, ki1, _, rfl, q'⟩) (fun _ Q' q' => ⟨_, rfl, _, _, _, _, _, rfl, .ty _, ty2, ki2, _, rfl, q'⟩)) (fun hb => ?_) (fun hb => ?_)
  · rw [Bool.and_eq_true] at hb
    obtain ⟨xs, rfl⟩ : ∃ xs, d = .tuple xs := by cases d <;> simp_all [isT]
    obtain ⟨ys, rfl⟩ : ∃ ys, e = .tuple ys := by cases e <;> simp_all [isT]
    obtain ⟨m, rfl, rfl⟩ : ∃ m, n = m + 1 ∧ sp' = spLike K m := by
      rcases hrec with z | z
      · subst z
        exact absurd hd depth_tup0
      · exact z
    obtain ⟨a, vs, rfl, ha, hxs⟩ := dv.tupE
    obtain ⟨b, us, rfl, hb', hys⟩ := du.tupE
    obtain ⟨lx, ox⟩ := okD_tup od
    obtain ⟨ly, oy⟩ := okD_tup oe
    have el := dpa_len hxs
    have em := dpa_len hys
    refine ⟨_, rfl, a, _, rfl, .inr ha, _, rfl, b, _, rfl, .inr hb', rfl, _, rfl, ?_⟩
    refine ite2 (fun hc => ?_) (fun hc => ?_)
    · have ne : xs.length ≠ ys.length := by
        intro z
        rw [el, em, z] at hc
        simp at hc
      have := q H (Same.refl H)
      rw [lk_tup, lkAll_len ne] at this
      exact this
    · have eq : xs.length = ys.length := by
        rw [el, em] at hc
        simp at hc
        omega
      refine ⟨_, rfl, a, _, rfl, .inr ha, (vs.length : Int), rfl, by omega, by omega, fun D hD => ?_⟩
      refine lc_range (n := vs.length) (fun i H' => Same H H' ∧ H' D = some (.lst ((unl xs ys i).map V.int))) ?h0 ?hs ?hd
      case h0 => exact ⟨same_new hD, upd_same⟩
      case hs =>
        rintro i H' hi ⟨sm, hD'⟩
        have hxi : vs[i]? = some (vs[i]'hi) := List.getElem?_eq_getElem _
        have hyi : us[i]? = some (us[i]'(by omega)) := List.getElem?_eq_getElem _
        obtain ⟨d, hdi, dx⟩ := dpa_getV hxs hxi
        obtain ⟨e, hei, dy⟩ := dpa_getV hys hyi
        have md := List.mem_of_getElem? hdi
        have me := List.mem_of_getElem? hei
        have ei : (0 : Int) + (i : Int) = (i : Int) := by omega
        have de := depth_tup (n := 59) he e me
        refine ⟨rfl, _, rfl, _, rfl, a, vs, i, _, rfl, by rw [ei], SqT.same sm ha, atI_nat hxi, _, rfl, _, rfl, b, us, i, _, rfl, by rw [ei], SqT.same sm hb', atI_nat hyi, _, _, d, e, rfl, dx.on sm, dy.on sm, ox d md, oy e me, depth_tup hd d md, by omega, by omega, fun H2 s2 => ?_⟩
        have z2 : H2 D = some (.lst ((unl xs ys i).map V.int)) := s2 _ _ hD'
        refine ⟨_, rfl, ?_⟩
        refine ite2 (fun hc => ?_) (fun hc => ?_)
        · have nl : ¬ lkD (xs.getD i .none) (ys.getD i .none) = true := by
            rw [getD_of hdi, getD_of hei]
            simpa using hc
          refine ⟨_, rfl, _, z2, ?_, ?_, ?_⟩
          · rw [List.length_map]
            exact Nat.lt_of_le_of_lt (Nat.le_trans (unl_le xs ys i) (show i ≤ 20 by omega)) (by decide)
          · exact same_upd0 hD (sm.trans s2)
          · rw [upd_same, unl_succ, if_neg nl, List.map_append, ei]
            rfl
        · have nl : lkD (xs.getD i .none) (ys.getD i .none) = true := by
            rw [getD_of hdi, getD_of hei]
            simpa using hc
          refine ⟨sm.trans s2, ?_⟩
          rw [unl_succ, if_pos nl, List.append_nil]
          exact z2
      case hd =>
        rintro H' ⟨sm, hD'⟩
        refine ⟨by show 0 ≤ sizeLine; decide, fun p hp => ?_⟩
        have nDp : D ≠ p := ne_of_none hD' hp
        refine ⟨.list ((unl xs ys vs.length).map PyData.int), .list [], .lst (SqL.of (by rw [upd_ne nDp]; exact hD')) (dpAll_ints _), .lst (SqL.of upd_same) .nil, lk_shaped _, lk_shaped [], ?_⟩
        rw [ns_empty, el, unl_empty eq xs.length (Nat.le_refl _), lkB_all eq, ← lk_tup]
        exact q _ (same_upd0 (sm.free hp) sm)
  · refine ⟨_, rfl, _, rfl, by show 2 ≤ sizeLine; decide, fun p hp => ?_⟩
    have s1 := same_new (o := .tup [v, u]) hp
    refine ⟨p, rfl, ⟨_, SqT.of upd_same⟩, fun D hD => ?_⟩
    have nDp : p ≠ D := ne_of_none upd_same hD
    have hD0 := s1.free hD
    have data2 : ∀ (i : Nat) (x : V) (H' : Hp), [v, u][i]? = some x → Same H H' → ∃ dd, Dp K H' x dd ∧ okD dd = true ∧ [kinD d, kinD e][i]? = some (kinD dd) := by
      intro i x H' hx sm
      match i, hx with
      | 0, hx => cases hx; exact ⟨d, dv.on sm, od, rfl⟩
      | 1, hx => cases hx; exact ⟨e, du.on sm, oe, rfl⟩
      | i + 2, hx => simp at hx
    refine lc_tup (xs := [v, u]) (fun i H' => Same H H' ∧ H' p = some (.tup [v, u]) ∧ ∃ acc, H' D = some (.lst acc) ∧ DpAll K H' acc ([kinD d, kinD e].take i)) ?h0 ?hl ?hs ?hd
    case h0 => exact ⟨s1.trans (same_new hD), by rw [upd_ne nDp, upd_same], [], upd_same, .nil⟩
    case hl =>
      rintro i H' _ ⟨_, z, _⟩
      exact SqT.of z
    case hs =>
      rintro i x H' hx ⟨sm, zp, acc, zD, da⟩
      obtain ⟨dd, dx, od', hk⟩ := data2 i x H' hx sm
      obtain ⟨t3, ty3, ki3⟩ := isi_tup dx od'
      obtain ⟨t4, ty4, ki4⟩ := isi_bool dx od'
      obtain ⟨t5, ty5, ki5⟩ := isi_str dx od'
      refine ⟨rfl, _, rfl, _, _, _, _, _, rfl, .ty _, ty3, ki3, _, rfl, _, _, _, _, _, rfl, .ty _, ty4, ki4, _, rfl, _, _, _, _, _, rfl, .ty _, ty5, ki5, by show 3 ≤ sizeLine; decide, fun t ht => ?_⟩
      have st := same_new (o := .tup [.bl (isT dd), .bl (isB dd), .bl (isS dd)]) ht
      refine ⟨acc, st _ _ zD, ?_, ?_⟩
      · have := dpa_len da
        rw [List.length_take] at this
        exact Nat.lt_of_le_of_lt (show acc.length ≤ 2 by simp at this; omega) (by decide)
      · have nDt : D ≠ t := ne_of_none zD ht
        have tk4 : TupK (upd H' t (.tup [.bl (isT dd), .bl (isB dd), .bl (isS dd)])) (upd (upd H' t (.tup [.bl (isT dd), .bl (isB dd), .bl (isS dd)])) D (.lst (acc ++ [.ref t]))) := (Kp.set (S := [D]) (by simp)).tup (by
          intro a ha
          rw [List.mem_singleton.mp ha]
          exact .lst (st _ _ zD))
        have td : tupDs ([kinD d, kinD e].take i) = true := tupDs_take (by simp [tupDs, kin_tup]) i
        refine ⟨same_upd0 hD0 (sm.trans st), by rw [upd_ne nDp]; exact st _ _ zp, _, upd_same, ?_⟩
        rw [List.take_add_one, hk]
        exact dpa_app (da.tk td ((TupK.of st).trans tk4)) (DpAll.one ((dp_new (.cons (.bl _) (.cons (.bl _) (.cons (.bl _) .nil))) ht).tk (kin_tup dd) tk4))
    case hd =>
      rintro H' ⟨sm, zp, acc, zD, da⟩
      have da' : DpAll K H' acc [kinD d, kinD e] := da
      obtain ⟨x0, h0, d0⟩ := dpa_get da' (i := 0) rfl
      obtain ⟨x1, h1, d1⟩ := dpa_get da' (i := 1) rfl
      have lk := lk_kinds (e := e) od oe hb
      refine ⟨_, rfl, D, acc, 0, x0, rfl, rfl, SqL.of zD, atI_nat h0, _, rfl, D, acc, 1, x1, rfl, rfl, SqL.of zD, atI_nat h1, kinD d, kinD e, d0, d1, kin_shaped d, kin_shaped e, _, rfl, ?_⟩
      rw [kin_eqv]
      refine ite2 (fun hc => ?_) (fun hc => ?_)
      · refine ⟨_, rfl, _, rfl, d, e, dv.on sm, du.on sm, shaped_ok od (by omega), shaped_ok oe (by omega), ?_⟩
        rw [hc, Bool.true_and] at lk
        rw [← lk]
        exact q _ sm
      · rw [Bool.eq_false_iff.mpr hc, Bool.false_and] at lk
        rw [← lk]
        exact q _ sm
theorem ok_lissame (D : DefG K mg "_law_is_same" s_lissame) (m_isinstance : mg "isinstance" = none) (m_tuple : mg "tuple" = none) (m_bool : mg "bool" = none) (m_str : mg "str" = none) (m_len : mg "len" = none) (m_range : mg "range" = none) :
    ∀ n, CalG P w K mg base (n + 1) "_law_is_same" (spLike K n) []
  | 0 => same_step D (cal_none D lsame_binds) (.inl rfl) m_isinstance m_tuple m_bool m_str m_len m_range
  | n + 1 => same_step D (ok_lissame D m_isinstance m_tuple m_bool m_str m_len m_range n) (.inr ⟨n, rfl, rfl⟩) m_isinstance m_tuple m_bool m_str m_len m_range
end
end Dat

set_option Elab.async false
set_option linter.all false
set_option maxRecDepth 100000
set_option maxHeartbeats 4000000
/-! The keys of plains. -/
namespace Dat
open PySem PySem.Spec PyProof.Rows L2 LamX PySem.W RZ
/-- the kind's place, and the plain -/
def rkD : PyData → Int
  | .bool _ => 0
  | .int _ => 1
  | _ => 2
def keyD (d : PyData) : PyData := .tuple [.int (rkD d), d]
theorem rk_bool {d : PyData} (h : isB d = true) : rkD d = 0 := by cases d <;> simp_all [isB, rkD]
theorem rk_int {d : PyData} (h : isI d = true) (n : ¬ isB d = true) : rkD d = 1 := by cases d <;> simp_all [isB, isI, rkD]
theorem rk_str {d : PyData} (o : okD d = true) (h : ¬ isI d = true) : rkD d = 2 := by cases d <;> simp_all [isI, rkD, okD]
theorem rk_str' {d : PyData} (h : isS d = true) : rkD d = 2 := by cases d <;> simp_all [isS, rkD]
theorem rk_int' {d : PyData} (o : okD d = true) (t : isT d = false) (h : ¬ isS d = true) (n : ¬ isB d = true) : rkD d = 1 := by cases d <;> simp_all [isS, isB, isT, rkD, okD]
def spKey (K : PySem.W.Frag) : Sp := fun vs H Q _ => ∃ (v : V) (d : PyData), vs = [v] ∧ Dp K H v d ∧ okD d = true ∧ isT d = false ∧ ∀ (y : V) (H' : Hp), Same H H' → Dp K H' y (keyD d) → Q y H'
section
variable {P : Program} {w : World} {K : PySem.W.Frag} {mg : Str → Option Value} {base : Heap}
theorem ok_keyof (D : DefG K mg "key_of" s_keyof) (m_isinstance : mg "isinstance" = none) (m_bool : mg "bool" = none) (m_int : mg "int" = none) : CalG P w K mg base 1 "key_of" (spKey K) [] := by
  refine calG D sc_keyof (fun f fd F => F.binds fun _ _ _ _ _ _ us hl => match us, hl with | [_], _ => rfl) (fun vs H Q E h => ?_) (fun f cdv A outer s H vs Q E gd hr h => ?_)
  · obtain ⟨v, d, rfl, _⟩ := h
    rfl
  obtain ⟨v, d, rfl, dv, od, nt, q⟩ := h
  have nd := sc_keyof.nd
  obtain ⟨t1, ty1, ki1⟩ := isi_bool dv od
  obtain ⟨t2, ty2, ki2⟩ := isi_int dv od
  have fin : ∀ (i : Int) (p : Addr), rkD d = i → H p = none → Q (.ref p) (upd H p (.tup [.int i, v])) := fun i p e hp =>
    q _ _ (same_new hp) (by unfold keyD; rw [e]; exact dp_new (.cons (.int _) (.cons dv .nil)) hp)
  refine ⟨_, (pss_cons (ps_if (pt_val (pe_callB (k_isi K) (by rfl) m_isinstance b_isinstance (pa_cons (pv 0) (pa_cons (pe_bltn (v := .ty "bool") (by rfl) m_bool b_bool rfl) pa_nil))))
(pss_one (ps_ret (pe_tup (pa_cons pe_int (pa_cons (pv 0) pa_nil)))))
pss_nil)
(pss_cons (ps_if (pt_val (pe_callB (k_isi K) (by rfl) m_isinstance b_isinstance (pa_cons (pv 0) (pa_cons (pe_bltn (v := .ty "int") (by rfl) m_int b_int rfl) pa_nil))))
(pss_one (ps_ret (pe_tup (pa_cons pe_int (pa_cons (pv 0) pa_nil)))))
pss_nil)
(pss_one (ps_ret (pe_tup (pa_cons pe_int (pa_cons (pv 0) pa_nil))))))), ?_⟩
  refine ⟨_, rfl, _, _, _, _, _, rfl, .ty _, ty1, ki1, _, rfl, ?_⟩
  refine ite2 (fun hc => ?_) (fun hc => ?_)
  · exact ⟨_, rfl, by show 2 ≤ sizeLine; decide, fun p hp => fin 0 p (rk_bool hc) hp⟩
  refine ⟨_, rfl, _, _, _, _, _, rfl, .ty _, ty2, ki2, _, rfl, ?_⟩
  refine ite2 (fun hc2 => ?_) (fun hc2 => ?_)
  · exact ⟨_, rfl, by show 2 ≤ sizeLine; decide, fun p hp => fin 1 p (rk_int hc2 hc) hp⟩
  exact ⟨_, rfl, by show 2 ≤ sizeLine; decide, fun p hp => fin 2 p (rk_str od hc2) hp⟩
theorem ok_lrank (D : DefG K mg "_law_rank" s_lrank) (m_isinstance : mg "isinstance" = none) (m_bool : mg "bool" = none) (m_str : mg "str" = none) : CalG P w K mg base 1 "_law_rank" (spKey K) [] := by
  refine calG D sc_lrank (fun f fd F => F.binds fun _ _ _ _ _ _ us hl => match us, hl with | [_], _ => rfl) (fun vs H Q E h => ?_) (fun f cdv A outer s H vs Q E gd hr h => ?_)
  · obtain ⟨v, d, rfl, _⟩ := h
    rfl
  obtain ⟨v, d, rfl, dv, od, nt, q⟩ := h
  have nd := sc_lrank.nd
  obtain ⟨t1, ty1, ki1⟩ := isi_bool dv od
  obtain ⟨t2, ty2, ki2⟩ := isi_str dv od
  have fin : ∀ (i : Int) (p : Addr), rkD d = i → H p = none → Q (.ref p) (upd H p (.tup [.int i, v])) := fun i p e hp =>
    q _ _ (same_new hp) (by unfold keyD; rw [e]; exact dp_new (.cons (.int _) (.cons dv .nil)) hp)
  refine ⟨_, (pss_cons (ps_if (pt_val (pe_callB (k_isi K) (by rfl) m_isinstance b_isinstance (pa_cons (pv 0) (pa_cons (pe_bltn (v := .ty "str") (by rfl) m_str b_str rfl) pa_nil))))
(pss_one (ps_ret (pe_tup (pa_cons pe_int (pa_cons (pv 0) pa_nil)))))
pss_nil)
(pss_one (ps_ret (pe_ifExp (pt_val (pe_callB (k_isi K) (by rfl) m_isinstance b_isinstance (pa_cons (pv 0) (pa_cons (pe_bltn (v := .ty "bool") (by rfl) m_bool b_bool rfl) pa_nil)))) (pe_tup (pa_cons pe_int (pa_cons (pv 0) pa_nil))) (pe_tup (pa_cons pe_int (pa_cons (pv 0) pa_nil))))))), ?_⟩
  refine ⟨_, rfl, _, _, _, _, _, rfl, .ty _, ty2, ki2, _, rfl, ?_⟩
  refine ite2 (fun hc => ?_) (fun hc => ?_)
  · exact ⟨_, rfl, by show 2 ≤ sizeLine; decide, fun p hp => fin 2 p (rk_str' hc) hp⟩
  refine ⟨_, rfl, _, _, _, _, _, rfl, .ty _, ty1, ki1, _, rfl, ?_⟩
  refine ite2 (fun hc2 => ?_) (fun hc2 => ?_)
  · exact ⟨_, rfl, by show 2 ≤ sizeLine; decide, fun p hp => fin 0 p (rk_bool hc2) hp⟩
  exact ⟨_, rfl, by show 2 ≤ sizeLine; decide, fun p hp => fin 1 p (rk_int' od nt hc hc2) hp⟩
end
end Dat

set_option Elab.async false
set_option linter.all false
set_option maxRecDepth 100000
set_option maxHeartbeats 4000000
/-! How long repr of small data is. -/
namespace Dat
open PySem PySem.Spec PyProof.Rows L2 LamX PySem.W
mutual
def szD : PyData → Nat
  | .tuple xs => szDs xs + 3
  | .list xs => szDs xs + 3
  | _ => 200
def szDs : List PyData → Nat
  | [] => 0
  | x :: xs => szD x + 2 + szDs xs
end
theorem szDs_app : ∀ (xs ys : List PyData), szDs (xs ++ ys) = szDs xs + szDs ys
  | [], ys => by simp [szDs]
  | x :: xs, ys => by
    rw [List.cons_append, szDs, szDs, szDs_app xs ys]
    omega
theorem szDs_le {n : Nat} : ∀ {xs : List PyData}, (∀ x ∈ xs, szD x ≤ n) → szDs xs ≤ xs.length * (n + 2)
  | [], _ => by simp [szDs]
  | x :: xs, h => by
    have h1 := h x List.mem_cons_self
    have h2 := szDs_le (xs := xs) fun y hy => h y (List.mem_cons_of_mem _ hy)
    rw [szDs, List.length_cons, Nat.add_mul]
    omega
theorem join_le (ts : List Str) : (Str.join ", " ts).length ≤ piled ts := by
  by_cases h : ts = []
  · subst h
    exact Nat.le_refl _
  · have := join_length_add ts h
    omega
theorem tup_le (ts : List Str) : (tupleText ts).length ≤ piled ts + 3 := by
  unfold tupleText
  rw [strLen_append, strLen_append]
  have e1 : ((("(" : String) : Str)).length = 1 := rfl
  have e3 : (((if ts.length == 1 then ",)" else ")" : String) : Str)).length ≤ 2 := by split <;> decide
  have := join_le ts
  rw [e1]
  omega
theorem lst_le : ∀ ts : List Str, (listText ts).length ≤ piled ts + 3
  | [] => by show (2 : Nat) ≤ _; omega
  | t :: r => by
    have h := textFrom_length_pos r 1 (("[" : Str) ++ (if (0 : Nat) > 0 then ", " else "" : String) ++ t) (Nat.succ_pos 0)
    have e : ((("[" : Str) ++ (if (0 : Nat) > 0 then ", " else "" : String) ++ t)).length = 1 + t.length := by
      rw [strLen_append, strLen_append]
      rfl
    have e2 : (listText (t :: r)).length = (textFrom 1 (("[" : Str) ++ (if (0 : Nat) > 0 then ", " else "" : String) ++ t) r).length + 1 := by
      show (textFrom 1 (("[" : Str) ++ (if (0 : Nat) > 0 then ", " else "" : String) ++ t) r ++ "]").length = _
      rw [strLen_append]
      rfl
    rw [e2, h, e, piled_cons]
    omega
mutual
theorem shown_le : ∀ d : PyData, okD d = true → d.shown.length ≤ szD d
  | .none, h => by simp [okD] at h
  | .bool b, _ => by cases b <;> simp only [PyData.shown, szD] <;> decide
  | .int i, h => by
    have h' : i.natAbs < 2 ^ 140 := by simpa [okD] using h
    have hl : i.natAbs.log2 < 140 := by
      by_cases z : i.natAbs = 0
      · rw [z]
        decide
      · exact (Nat.log2_lt z).mpr h'
    have := PySem.int_text_length_le (a := i) (by decide : 0 < 140) hl
    show (Str.ofString (toString i)).length ≤ 200
    rw [PySem.ofString_length]
    omega
  | .str x, h => by
    have h' : (PyData.strOk x && decide (x.length ≤ 16)) = true := by simpa [okD] using h
    rw [Bool.and_eq_true, decide_eq_true_eq] at h'
    have := StrLaws.reprText_len x (by
      intro c hc
      have h1 : x.cps.all (· < 0x110000) = true := h'.1
      have h2 := (Array.all_eq_true_iff_forall_mem.mp h1) c (Array.mem_toList_iff.mp hc)
      have h3 : c < 0x110000 := by simpa using h2
      exact Nat.lt_trans h3 (by decide))
    simp only [PyData.shown, szD]
    omega
  | .list _, h => by simp [okD] at h
  | .dict _, h => by simp [okD] at h
  | .tuple xs, h => by
    have h' : (decide (xs.length ≤ 20) && okDs xs) = true := by simpa [okD] using h
    rw [Bool.and_eq_true] at h'
    have h1 := shownAll_le xs h'.2
    have h2 := tup_le (PyData.shownAll xs)
    simp only [PyData.shown, szD]
    omega
theorem shownAll_le : ∀ ds : List PyData, okDs ds = true → piled (PyData.shownAll ds) ≤ szDs ds
  | [], _ => by simp [PyData.shownAll, szDs, piled]
  | d :: ds, h => by
    have h' : okD d = true ∧ okDs ds = true := by simpa [okDs] using h
    have h1 := shown_le d h'.1
    have h2 := shownAll_le ds h'.2
    simp only [PyData.shownAll, szDs, piled_cons]
    omega
end
mutual
theorem showable_ok : ∀ d : PyData, okD d = true → d.showable = true
  | .none, h => by simp [okD] at h
  | .bool b, _ => by simp [PyData.showable]
  | .int i, h => by
    have h' : i.natAbs < 2 ^ 140 := by simpa [okD] using h
    have hl : i.natAbs.log2 < 1920 := by
      by_cases z : i.natAbs = 0
      · rw [z]
        decide
      · exact Nat.lt_trans ((Nat.log2_lt z).mpr h') (by decide)
    simpa [PyData.showable] using hl
  | .str x, h => by simp [PyData.showable]
  | .list _, h => by simp [okD] at h
  | .dict _, h => by simp [okD] at h
  | .tuple xs, h => by
    have h' : (decide (xs.length ≤ 20) && okDs xs) = true := by simpa [okD] using h
    rw [Bool.and_eq_true] at h'
    simpa [PyData.showable] using showables_ok xs h'.2
theorem showables_ok : ∀ ds : List PyData, okDs ds = true → PyData.showableAll ds = true
  | [], _ => by simp [PyData.showableAll]
  | d :: ds, h => by
    have h' : okD d = true ∧ okDs ds = true := by simpa [okDs] using h
    simp [PyData.showableAll, showable_ok d h'.1, showables_ok ds h'.2]
end
theorem depths_le {n : Nat} : ∀ {ds : List PyData}, (∀ x ∈ ds, x.depth ≤ n) → PyData.depthAll ds ≤ n
  | [], _ => by simp [PyData.depthAll]
  | d :: ds, h => by
    have h1 := h d List.mem_cons_self
    have h2 := depths_le (ds := ds) fun y hy => h y (List.mem_cons_of_mem _ hy)
    rw [PyData.depthAll]
    omega
theorem depth_tupLe {n : Nat} {ds : List PyData} (h : ∀ x ∈ ds, x.depth ≤ n) : (PyData.tuple ds).depth ≤ n + 1 := by
  rw [PyData.depth]
  have := depths_le h
  omega

/-! ### of drawn values -/
def bz : Nat → Nat
  | 0 => 200
  | n + 1 => 5 * bz n + 1300
theorem ok_PL : ∀ d ∈ PL, okD d = true ∧ d.depth = 0 ∧ szD d = 200 := by
  intro d hd
  simp only [PL, List.mem_cons, List.not_mem_nil, or_false] at hd
  rcases hd with h | h | h | h | h | h | h | h | h | h | h | h | h | h <;> (rw [h]; exact ⟨by decide +kernel, by rfl, by simp [szD]⟩)
theorem ok_word : ∀ x ∈ WL, okD (.str x) = true := by
  intro x hx
  simp only [WL, List.mem_cons, List.not_mem_nil, or_false] at hx
  rcases hx with h | h | h | h | h | h <;> (rw [h]; decide +kernel)
theorem ok_pair {e : Str × PyData} (h1 : e.1 ∈ WL) (h2 : okD e.2 = true) : okD (pairD e) = true := by
  have := ok_word _ h1
  unfold pairD
  simp only [okD, okDs, List.length_cons, List.length_nil, h2] at this ⊢
  simp [this]
theorem ok_tree {es : List (Str × PyData)} (h5 : es.length ≤ 5) (fo : FieldsOk es) (h : ∀ e ∈ es, okD e.2 = true) : okD (treeD es) = true := by
  have a : okDs (es.map pairD) = true := okDs_all.mpr fun x hx => by
    obtain ⟨e, he, rfl⟩ := List.mem_map.mp hx
    exact ok_pair (fo.pool e he) (h e he)
  have b : okD (.str "tree") = true := by decide +kernel
  have c : decide ((es.map pairD).length ≤ 20) = true := by rw [List.length_map]; exact decide_eq_true (by omega)
  unfold treeD
  rw [okD, okDs, okDs, okDs, b, okD, a, c]
  rfl
theorem depth_tree {es : List (Str × PyData)} {n : Nat} (h : ∀ e ∈ es, e.2.depth ≤ n) : (treeD es).depth ≤ n + 3 := by
  refine depth_tupLe fun x hx => ?_
  rcases List.mem_cons.mp hx with z | z
  · rw [z]
    exact Nat.zero_le _
  · rw [List.mem_singleton.mp z]
    refine depth_tupLe fun y hy => ?_
    obtain ⟨e, he, rfl⟩ := List.mem_map.mp hy
    refine depth_tupLe fun w hw => ?_
    rcases List.mem_cons.mp hw with q | q
    · rw [q]
      exact Nat.zero_le _
    · rw [List.mem_singleton.mp q]
      exact h e he
theorem sz_tree {es : List (Str × PyData)} {n : Nat} (h5 : es.length ≤ 5) (h : ∀ e ∈ es, szD e.2 ≤ bz n) : szD (treeD es) ≤ bz (n + 1) := by
  have a : szDs (es.map pairD) ≤ (es.map pairD).length * (bz n + 207 + 2) := szDs_le fun x hx => by
    obtain ⟨e, he, rfl⟩ := List.mem_map.mp hx
    have := h e he
    simp only [pairD, szD, szDs]
    omega
  rw [List.length_map] at a
  have b : es.length * (bz n + 207 + 2) ≤ 5 * (bz n + 207 + 2) := Nat.mul_le_mul_right _ h5
  simp only [treeD, szD, szDs, bz]
  omega
theorem VD_ok {n : Nat} {d : PyData} (h : VD n d) : okD d = true ∧ d.depth ≤ 3 * n ∧ szD d ≤ bz n := by
  have mono : ∀ n, 200 ≤ bz n := by
    intro n
    cases n with
    | zero => exact Nat.le_refl _
    | succ n => simp only [bz]; omega
  induction h with
  | @plain n d h =>
    obtain ⟨a, b, c⟩ := ok_PL _ h
    exact ⟨a, by omega, by rw [c]; exact mono n⟩
  | @row n ds h3 _ ih =>
    refine ⟨?_, ?_, ?_⟩
    · have a : okDs ds = true := okDs_all.mpr fun x hx => (ih x hx).1
      have b : okD (.str "row") = true := by decide +kernel
      have c : decide (ds.length ≤ 20) = true := decide_eq_true (by omega)
      unfold rowD
      rw [okD, okDs, okDs, okDs, b, okD, a, c]
      rfl
    · have : (rowD ds).depth ≤ 3 * n + 2 := depth_tupLe fun x hx => by
        rcases List.mem_cons.mp hx with z | z
        · rw [z]
          exact Nat.zero_le _
        · rw [List.mem_singleton.mp z]
          exact depth_tupLe fun y hy => (ih y hy).2.1
      omega
    · have a : szDs ds ≤ ds.length * (bz n + 2) := szDs_le fun x hx => (ih x hx).2.2
      have b : ds.length * (bz n + 2) ≤ 3 * (bz n + 2) := Nat.mul_le_mul_right _ h3
      simp only [rowD, szD, szDs, bz]
      omega
  | @tree n es h5 fo _ ih =>
    exact ⟨ok_tree h5 fo fun e he => (ih e he).1, by have := depth_tree (es := es) (n := 3 * n) fun e he => (ih e he).2.1; omega, sz_tree h5 fun e he => (ih e he).2.2⟩
end Dat

set_option Elab.async false
set_option linter.all false
set_option maxRecDepth 100000
set_option maxHeartbeats 4000000
/-! Expressions that give one datum wherever they stand, and turn nothing. -/
namespace Dat
open PySem PySem.Spec PyProof.Rows L2 LamX PySem.W
def Lit (K : PySem.W.Frag) (te : TE) (d : PyData) : Prop := ∀ (σ : L2.St) (H : Hp) (Q : VK), (∀ v H', Same H H' → Dp K H' v d → Q v H') → te σ H Q
def Lits (K : PySem.W.Frag) (ta : TA) (ds : List PyData) : Prop := ∀ (σ : L2.St) (H : Hp) (Q : List V → Hp → Prop), (∀ vs H', Same H H' → DpAll K H' vs ds → Q vs H') → ta σ H Q
section
variable {K : PySem.W.Frag} {te tb : TE} {ta : TA} {d e : PyData} {ds es : List PyData}
theorem lit_int {i : Int} : Lit K (tC (.int i)) (.int i) := fun _ H _ q => q _ H (Same.refl H) (.int i)
theorem lit_bl {b : Bool} : Lit K (tC (.bl b)) (.bool b) := fun _ H _ q => q _ H (Same.refl H) (.bl b)
theorem lit_str {x : Str} : Lit K (tC (.str x)) (.str x) := fun _ H _ q => q _ H (Same.refl H) (.str x)
theorem lit_neg {i : Int} : Lit K (tUn (rU fun i => .int (-i)) (tC (.int i))) (.int (-i)) := fun _ H _ q => ⟨i, rfl, q _ H (Same.refl H) (.int (-i))⟩
theorem lits_nil : Lits K tNil [] := fun _ H _ q => q _ H (Same.refl H) .nil
theorem lits_cons (h : Lit K te d) (t : Lits K ta ds) : Lits K (tCons te ta) (d :: ds) := fun σ H Q q => h σ H _ fun v H1 s1 dv => t σ H1 _ fun vs H2 s2 dvs => q _ H2 (s1.trans s2) (.cons (dv.on s2) dvs)
theorem lit_tup (h : Lits K ta ds) (hl : ds.length ≤ 1000) : Lit K (tTup ta) (.tuple ds) := fun σ H Q q => h σ H _ fun vs H1 s1 dvs =>
  ⟨Nat.le_trans (Nat.le_of_eq (dpa_len dvs)) (Nat.le_trans hl (by decide)), fun p hp => q _ _ (s1.trans (same_new hp)) (dp_new dvs hp)⟩
theorem lit_pow {i j : Int} (hc : CPow i j) : Lit K (tOp (rI CPow fun i j => .int (i ^ j.toNat)) (tC (.int i)) (tC (.int j))) (.int (i ^ j.toNat)) := fun _ H _ q => ⟨i, j, rfl, rfl, hc, q _ H (Same.refl H) (.int _)⟩
theorem lit_rep {x : Str} {n : Int} (h1 : 2 ≤ n) (h2 : n ≤ 1000) (h3 : 0 < x.length) (h4 : x.length ≤ 1000) : Lit K (tOp (fun x y H Q => ∃ (a : Str) (n : Int), x = .str a ∧ y = .int n ∧ 2 ≤ n ∧ n ≤ 1000 ∧ 0 < a.length ∧ a.length ≤ 1000 ∧ Q (.str (strRep a n.toNat)) H) (tC (.str x)) (tC (.int n))) (.str (strRep x n.toNat)) :=
  fun _ H _ q => ⟨x, n, rfl, rfl, h1, h2, h3, h4, q _ H (Same.refl H) (.str _)⟩
def rgD (n : Nat) : List PyData := (List.range n).map fun (i : Nat) => PyData.int i
theorem rgV_map (n : Nat) : rgV 0 (n : Int) = ((List.range n).map fun (i : Nat) => (i : Int)).map V.int := by
  unfold rgV
  simp
theorem lit_rg {n : Nat} (hn : n ≤ 1000) : Lit K (tTupRg (tRg1 (tC (.int (n : Int))))) (.tuple (rgD n)) := fun _ H _ q =>
  ⟨(n : Int), rfl, ⟨by decide, by decide, by omega, by omega, by omega⟩, fun p hp => q _ _ (same_new hp) (dp_new (by
    rw [rgV_map, show rgD n = ((List.range n).map fun (i : Nat) => (i : Int)).map PyData.int by unfold rgD; rw [List.map_map]; rfl]
    exact dpAll_ints _) hp)⟩
theorem lit_catT (h : Lit K te (.tuple ds)) (g : Lit K tb (.tuple es)) (n1 : ds ≠ []) (n2 : es ≠ []) (l1 : ds.length ≤ 1000) (l2 : es.length ≤ 1000) : Lit K (tOp (rCatA K) te tb) (.tuple (ds ++ es)) := fun σ H Q q => h σ H _ fun v H1 s1 dv => g σ H1 _ fun u H2 s2 du => by
  obtain ⟨a, xs, rfl, ha, hx⟩ := (dv.on s2).tupE
  obtain ⟨b, ys, rfl, hb, hy⟩ := du.tupE
  have e1 := dpa_len hx
  have e2 := dpa_len hy
  refine ⟨a, b, xs, ys, rfl, rfl, ha, hb, Nat.le_trans (show xs.length + ys.length ≤ 2000 by omega) (by decide), fun z => absurd (by rw [z] at e1; exact List.length_eq_zero_iff.mp e1.symm) n1, fun _ z => absurd (by rw [z] at e2; exact List.length_eq_zero_iff.mp e2.symm) n2, fun _ _ p hp => ?_⟩
  exact q _ _ ((s1.trans s2).trans (same_new hp)) (dp_new (dpa_app hx hy) hp)
end
end Dat

set_option Elab.async false
set_option linter.all false
set_option maxRecDepth 100000
set_option maxHeartbeats 4000000
/-! Plains that rise by their keys. -/
namespace Dat
open PySem PySem.Spec PyProof.Rows L2 LamX PySem.W
/-- plains -/
def plD (d : PyData) : Bool := okD d && !isT d
theorem plD_ok {d : PyData} (h : plD d = true) : okD d = true ∧ isT d = false := by
  unfold plD at h
  rw [Bool.and_eq_true, Bool.not_eq_true'] at h
  exact h
def phD : PyData → Int × Int × Str
  | .bool b => (0, (if b then 1 else 0), "")
  | .int i => (1, i, "")
  | .str x => (2, 0, x)
  | _ => (3, 0, "")
theorem alike_rank {d e : PyData} (hd : plD d = true) (he : plD e = true) (h : rkD d = rkD e) : alike d e = true := by
  cases d <;> cases e <;> simp_all [plD, okD, isT, rkD, alike]
theorem rank_keys {ds : List PyData} (h : ∀ d ∈ ds, plD d = true) : RankK (ds.map keyD) := by
  refine ⟨fun d hd => ?_, fun i e e' h1 h2 => ?_⟩
  · obtain ⟨x, hx, rfl⟩ := List.mem_map.mp hd
    refine ⟨rkD x, x, rfl, ?_⟩
    have := h x hx
    cases x <;> simp_all [plD, okD]
  · obtain ⟨x, hx, ex⟩ := List.mem_map.mp h1
    obtain ⟨y, hy, ey⟩ := List.mem_map.mp h2
    unfold keyD at ex ey
    cases ex
    injection ey with q1
    injection q1 with q2 q3
    injection q2 with q4
    injection q3 with q5 q6
    subst q5
    exact alike_rank (h _ hx) (h _ hy) q4.symm
/-- neither the less: the ranks rise, and within one rank the plains do -/
theorem key_rise {d e : PyData} (hd : plD d = true) (he : plD e = true) (n : phD d ≠ phD e) (h : dataLt (keyD e) (keyD d) = false) : rkD d ≤ rkD e ∧ (rkD d = rkD e → dataLt d e = true) := by
  unfold keyD at h
  by_cases q : rkD e = rkD d
  · refine ⟨by omega, fun _ => ?_⟩
    rw [q] at h
    rw [dataLt_tuple, dataLt_all_yes (by simp [alike]) (by simp [PyData.eqv]), dataLt_cons (alike_rank he hd q)] at h
    cases d with
    | none => simp [plD, okD] at hd
    | list _ => simp [plD, okD] at hd
    | dict _ => simp [plD, okD] at hd
    | tuple _ => simp [plD, isT] at hd
    | bool a =>
      cases e with
      | bool b => cases a <;> cases b <;> simp_all [phD, dataLt_bool, PyData.eqv, b2i]
      | _ => simp [rkD] at q
    | int i =>
      cases e with
      | int j =>
        have nij : i ≠ j := fun z => n (by rw [z])
        rw [show PyData.eqv (.int j) (.int i) = false by simp [PyData.eqv]; omega, if_neg (by decide), dataLt_int] at h
        rw [dataLt_int]
        have h1 : ¬ j < i := of_decide_eq_false h
        exact decide_eq_true (by omega)
      | _ => simp [rkD] at q
    | str x =>
      cases e with
      | str y =>
        have nxy : x ≠ y := fun z => n (by rw [z])
        rw [show PyData.eqv (.str y) (.str x) = false by simp [PyData.eqv]; exact fun z => nxy z.symm, if_neg (by decide), dataLt_str] at h
        rw [dataLt_str]
        have h1 : ¬ y.cps.toList < x.cps.toList := of_decide_eq_false h
        refine decide_eq_true ?_
        by_cases z : x.cps.toList < y.cps.toList
        · exact z
        · exact absurd (str_ext (List.le_antisymm (List.not_lt.mp h1) (List.not_lt.mp z))) nxy
      | none => simp [plD, okD] at he
      | list _ => simp [plD, okD] at he
      | dict _ => simp [plD, okD] at he
      | tuple _ => simp [plD, isT] at he
      | _ => simp [rkD] at q
  · have ne : PyData.eqv (.int (rkD e)) (.int (rkD d)) = false := by simp [PyData.eqv]; exact q
    rw [dataLt_tuple, dataLt_all_no (by simp [alike]) ne, dataLt_int] at h
    have h1 : ¬ rkD e < rkD d := of_decide_eq_false h
    exact ⟨by omega, fun z => absurd z.symm q⟩

def KeyAt (K : PySem.W.Frag) (H : Hp) (z : V × PyData) (d : PyData) : Prop := Dp K H z.1 d ∧ z.2 = keyD d
theorem each_keysD {K : PySem.W.Frag} {H : Hp} : ∀ {xs : List V} {ds : List PyData}, DpAll K H xs ds → EachIs (KeyAt K H) (xs.zip (ds.map keyD)) ds
  | _, [], h => by
    cases h
    exact .nil
  | _, d :: ds, h => by
    cases h with
    | cons h1 h2 => exact .cons ⟨h1, rfl⟩ (each_keysD h2)
theorem keysD_each {K : PySem.W.Frag} {H : Hp} : ∀ {ms : List (V × PyData)} {ds : List PyData}, EachIs (KeyAt K H) ms ds → DpAll K H (ms.map (·.1)) ds
  | _, _, .nil => .nil
  | _, _, .cons h t => .cons h.1 (keysD_each t)
theorem keysD_rise {K : PySem.W.Frag} {H : Hp} : ∀ {ms : List (V × PyData)} {ds : List PyData}, EachIs (KeyAt K H) ms ds → ms.Pairwise (fun a b => dataLe false Prod.snd a b = true) → ds.Pairwise fun a b => dataLt (keyD b) (keyD a) = false
  | _, _, .nil, _ => .nil
  | _, _, .cons (a := m) (b := d) (as := ms) (bs := ds) h t, p => by
    cases p with
    | cons p1 p2 =>
      refine .cons (fun b hb => ?_) (keysD_rise t p2)
      have mb : ∃ m', m' ∈ ms ∧ KeyAt K H m' b := by
        have lz := t.length
        obtain ⟨i, hi, e1⟩ := List.mem_iff_getElem.mp hb
        refine ⟨ms[i]'(by omega), List.getElem_mem _, t.zip (ms[i]'(by omega), b) (List.mem_of_getElem? (i := i) ?_)⟩
        rw [List.getElem?_zip_eq_some]
        exact ⟨List.getElem?_eq_getElem _, by rw [← e1]; exact List.getElem?_eq_getElem hi⟩
      obtain ⟨m', hm', _, k2⟩ := mb
      have z := p1 m' hm'
      rw [dataLe_eq] at z
      simp only [cond_false, h.2, k2, Bool.not_eq_true'] at z
      exact z
/-- the plains, sorted by their keys -/
theorem keyed_plains {K : PySem.W.Frag} {H : Hp} {xs : List V} {ds : List PyData} (h : DpAll K H xs ds) (hp : ∀ d ∈ ds, plD d = true) (hn : (ds.map phD).Nodup) :
    ∃ rs : List PyData, DpAll K H (keyed xs (ds.map keyD)) rs ∧ (∀ d ∈ rs, plD d = true) ∧ rs.length = ds.length ∧ rs.Pairwise fun d e => rkD d ≤ rkD e ∧ (rkD d = rkD e → dataLt d e = true) := by
  have tot : TotalLe (dataLe (β := V × PyData) false Prod.snd) := sortLe_total _ _ _
  obtain ⟨rs, e1, p1⟩ := perm_each (List.mergeSort_perm (xs.zip (ds.map keyD)) (dataLe false Prod.snd)) (each_keysD h)
  have pw := keysD_rise e1 (List.pairwise_mergeSort tot.trans (fun a b => by rw [Bool.or_eq_true]; exact tot.total a b) _)
  have nd : (rs.map phD).Nodup := (p1.map _).nodup_iff.mpr hn
  have pl : ∀ d ∈ rs, plD d = true := fun d hd => hp d (p1.mem_iff.mp hd)
  refine ⟨rs, keysD_each e1, pl, p1.length_eq, ?_⟩
  rw [List.Nodup, List.pairwise_map] at nd
  exact (pw.and nd).imp_of_mem fun {a b} ha hb z => key_rise (pl a ha) (pl b hb) z.2 z.1
end Dat

set_option Elab.async false
set_option linter.all false
set_option maxRecDepth 100000
set_option maxHeartbeats 4000000
/-! a < b of alike data. -/
namespace Dat
open PySem PySem.Spec PyProof.Rows L2 LamX PySem.W
def rLtD (K : PySem.W.Frag) : R2 := fun x y H Q => ∃ d e, Dp K H x d ∧ Dp K H y e ∧ alike d e = true ∧ d ≠ .none ∧ d.depth ≤ 64 ∧ Q (.bl (dataLt d e)) H
theorem op_ltD {X : Cx} (hu : X.A.units + 64 < cLine) : OpR X (compareOp .Lt) (rLtD X.K) := by
  intro pins s σ H x y v u Q I rx ry h
  obtain ⟨d, e, hd, he, al, nn, dl, q⟩ := h
  obtain ⟨as, r1⟩ := Dp.reads I d x v hd rx
  obtain ⟨bs, r2⟩ := Dp.reads I e y u he ry
  exact lt_data r1 r2 al nn (by have := Nat.min_le_left d.depth e.depth; omega) ⟨.bl _, H, I, rfl, q⟩
theorem k_ltD {X : Cx} (K : PySem.W.Frag) (hu : X.A.units + 64 < cLine) (h : X.K = K := by rfl) : OpR X (compareOp .Lt) (rLtD K) := h ▸ op_ltD hu
end Dat

set_option Elab.async false
set_option linter.all false
set_option maxRecDepth 100000
set_option maxHeartbeats 4000000
/-! The law's own def. -/
namespace Dat
open PySem PySem.Spec PyProof.Rows L2 LamX PySem.W RZ
abbrev s_law : Stmt := topS 12
abbrev N_law : List Str := ["_law_script", "_law_feed_here", "_law_document_here", "_law_plains", "_law_some", "_law_kept", "_law_one", "_law_other", "_law_plain_here", "_law_rising", "_law_kinds", "_law_k", "_law_pair"]
abbrev P_law : List Str := ["_law_script"]
theorem sc_law : FnScope N_law P_law (defScope s_law) := ⟨rfl, rfl, rfl, by decide +kernel, rfl, by decide +kernel, by decide +kernel⟩
def PLN : List PyData := [.int 0, .int 1, .int 2, .int (-1), .bool true, .bool false, .str "", .str "a", .str "1", .str "yes", .str "0", .int 999999, .int (-999999), .int (10 ^ (40 : Int).toNat), .str (strRep "a" (16 : Int).toNat), .str "tree", .str "row"]
def SM4 : List PyData := [.tuple [.str "row", .tuple []], .tuple [.str "tree", .tuple []], .tuple [.str "row", .tuple [.int 1]], .tuple [.str "row", .tuple [.bool true]]]
def SM5 : List PyData := [.tuple [.str "row", .tuple [.str "a", .int 0]], .tuple [.str "row", .tuple [.str "a", .bool false]], .tuple [.str "tree", .tuple [.tuple [.str "a", .int 1]]], .tuple [.str "tree", .tuple [.tuple [.str "a", .bool true]]]]
def SM6 : List PyData := [.tuple [.str "row", .tuple (rgD 10)], .tuple [.str "row", .tuple (rgD 9 ++ [.bool true])], .tuple [.str "row", .tuple (rgD 9 ++ [.str "9"])]]
section
variable {P : Program} {w : World} {K : PySem.W.Frag} {mg : Str → Option Value} {base : Heap}
def spLaw (K : PySem.W.Frag) (T : List (Addr × Str)) : Sp := fun vs H Q _ => ∃ (a : Addr) (ns : List Int), vs = [.ref a] ∧ SqL K H a (ns.map V.int) ∧ ns.length ≤ 63 ∧ Tabs T H ∧ ∀ H', Q (.bl true) H'
theorem seq_set {te : TE} {i : Nat} {v : TS} {D : Ends} {σ : L2.St} {H : Hp} (h : te σ H fun x H1 => v D (σ.set i (some x)) H1) : tSeq (tAsg te (gName i)) v D σ H := h
theorem lst_of {ta : TA} {ds : List PyData} {σ : L2.St} {H : Hp} {Q : VK} (h : Lits K ta ds) (hl : ds.length ≤ 1000) (q : ∀ (vs : List V) (p : Addr) (H' : Hp), Same H H' → DpAll K H' vs ds → H' p = some (.lst vs) → H p = none → Q (.ref p) H') : tLst ta σ H Q :=
  h σ H _ fun vs H1 s1 dvs => ⟨Nat.le_trans (Nat.le_of_eq (dpa_len dvs)) (Nat.le_trans hl (by decide)), fun p hp => q vs p _ (s1.trans (same_new hp)) (dvs.on (same_new hp)) upd_same (s1.free hp)⟩
theorem lst_two {ta : TA} {te : TE} {i : Nat} {v : V} {σ : L2.St} {H : Hp} {Q : VK} (hv : σ[i]? = some (some v))
    (q : te σ H fun u H1 => ta σ H1 fun vs H2 => (v :: u :: vs).length ≤ sizeLine ∧ ∀ p, H2 p = none → Q (.ref p) (upd H2 p (.lst (v :: u :: vs)))) : tLst (tCons (tVar i) (tCons te ta)) σ H Q := ⟨v, hv, q⟩
theorem cat_of {H : Hp} {l b : Addr} {xs zs : List V} {Q : VK} (h1 : H l = some (.lst xs)) (h2 : H b = some (.lst zs)) (hl : xs.length + zs.length ≤ 1000) (q : ∀ (p : Addr) (H' : Hp), Same H H' → H' p = some (.lst (xs ++ zs)) → H p = none → Q (.ref p) H') : rCat (.ref l) (.ref b) H Q :=
  ⟨l, b, xs, zs, rfl, rfl, h1, h2, Nat.le_trans hl (by decide), fun p hp => q p _ (same_new hp) upd_same hp⟩
theorem tupD_doc {es : List (Str × PyData)} (h : DocOk es) : tupD (treeD es) = true := tup_ok _ (ok_tree h.few h.fields fun e he => (VD_ok (h.vals e he)).1)
theorem ok_PLN : okDs PLN = true := by decide +kernel
theorem tupDs_PLN : tupDs PLN = true := tups_ok _ ok_PLN
theorem szDs_PLN : szDs PLN ≤ 4000 := by decide +kernel
theorem depth_PLN : PyData.depthAll PLN ≤ 15 := by decide +kernel
theorem ok_SM4 : okDs SM4 = true := by decide +kernel
theorem szDs_SM4 : szDs SM4 ≤ 20000 := by decide +kernel
theorem depth_SM4 : PyData.depthAll SM4 ≤ 15 := by decide +kernel
theorem ok_SM5 : okDs SM5 = true := by decide +kernel
theorem szDs_SM5 : szDs SM5 ≤ 20000 := by decide +kernel
theorem depth_SM5 : PyData.depthAll SM5 ≤ 15 := by decide +kernel
theorem ok_SM6 : okDs SM6 = true := by decide +kernel
theorem szDs_SM6 : szDs SM6 ≤ 20000 := by decide +kernel
theorem depth_SM6 : PyData.depthAll SM6 ≤ 15 := by decide +kernel
theorem depth_mem {n : Nat} : ∀ {ds : List PyData}, PyData.depthAll ds ≤ n → ∀ x ∈ ds, x.depth ≤ n
  | [], _, x, h => by cases h
  | d :: ds, h, x, hx => by
    rw [PyData.depthAll] at h
    rcases List.mem_cons.mp hx with z | z
    · rw [z]; omega
    · exact depth_mem (by omega) x z
structure Fine (ds : List PyData) (n : Nat) : Prop where
  ok : ∀ d ∈ ds, okD d = true
  depth : ∀ d ∈ ds, d.depth ≤ 15
  size : szDs ds ≤ n
theorem Fine.app {xs ys : List PyData} {n m : Nat} (a : Fine xs n) (b : Fine ys m) : Fine (xs ++ ys) (n + m) :=
  ⟨fun d hd => (List.mem_append.mp hd).elim (a.ok d) (b.ok d), fun d hd => (List.mem_append.mp hd).elim (a.depth d) (b.depth d), by rw [szDs_app]; exact Nat.add_le_add a.size b.size⟩
theorem fine_PLN : Fine PLN 4000 := ⟨okDs_all.mp ok_PLN, depth_mem depth_PLN, szDs_PLN⟩
theorem fine_SM4 : Fine SM4 20000 := ⟨okDs_all.mp ok_SM4, depth_mem depth_SM4, szDs_SM4⟩
theorem fine_SM5 : Fine SM5 20000 := ⟨okDs_all.mp ok_SM5, depth_mem depth_SM5, szDs_SM5⟩
theorem fine_SM6 : Fine SM6 20000 := ⟨okDs_all.mp ok_SM6, depth_mem depth_SM6, szDs_SM6⟩
theorem Fine.up {xs : List PyData} {n m : Nat} (a : Fine xs n) (h : n ≤ m) : Fine xs m := ⟨a.ok, a.depth, Nat.le_trans a.size h⟩
theorem fine_doc {es : List (Str × PyData)} (h : DocOk es) : Fine [treeD es] 400000 := by
  have v : VD 4 (treeD es) := .tree h.few h.fields h.vals
  obtain ⟨a, b, c⟩ := VD_ok v
  refine ⟨fun d hd => ?_, fun d hd => ?_, ?_⟩
  · rw [List.mem_singleton.mp hd]
    exact a
  · rw [List.mem_singleton.mp hd]
    omega
  · have : bz 4 = 327800 := by rfl
    simp only [szDs]
    omega
theorem fine_vals {n : Nat} {ds : List PyData} (hn : n ≤ 3) (hl : ds.length ≤ 6) (h : ∀ d ∈ ds, VD n d) : Fine ds 500000 := by
  have bm : bz n ≤ 65300 := by
    have e0 : bz 0 = 200 := rfl
    have e1 : bz 1 = 2300 := rfl
    have e2 : bz 2 = 12800 := rfl
    have e3 : bz 3 = 65300 := rfl
    have cs : n = 0 ∨ n = 1 ∨ n = 2 ∨ n = 3 := by omega
    rcases cs with z | z | z | z <;> subst z <;> omega
  refine ⟨fun d hd => (VD_ok (h d hd)).1, fun d hd => ?_, ?_⟩
  · have := (VD_ok (h d hd)).2.1
    omega
  · have a : szDs ds ≤ ds.length * (65300 + 2) := szDs_le fun x hx => Nat.le_trans (VD_ok (h x hx)).2.2 bm
    have b : ds.length * (65300 + 2) ≤ 6 * (65300 + 2) := Nat.mul_le_mul_right _ hl
    omega
/-- behind the making -/
def LawAt (K : PySem.W.Frag) (T : List (Addr × Str)) (H : Hp) (P S : Addr) (ds : List PyData) : Prop := ∃ pv sv, H P = some (.lst pv) ∧ DpAll K H pv PLN ∧ H S = some (.lst sv) ∧ DpAll K H sv ds ∧ Fine ds 5000000 ∧ ds.length ≤ 100 ∧ Tabs T H
theorem repr_list {ds : List PyData} (h : Fine ds 5000000) : (PyData.list ds).showable = true ∧ (PyData.list ds).depth ≤ 60 ∧ (PyData.list ds).shown.length ≤ sizeLine := by
  refine ⟨?_, ?_, ?_⟩
  · rw [PyData.showable]
    exact showables_ok ds (okDs_all.mpr h.ok)
  · rw [PyData.depth]
    have := depths_le h.depth
    omega
  · have h1 := shownAll_le ds (okDs_all.mpr h.ok)
    have h2 := lst_le (PyData.shownAll ds)
    have h3 := h.size
    rw [PyData.shown]
    exact Nat.le_trans (show (listText (PyData.shownAll ds)).length ≤ 5000003 by omega) (by decide)
theorem repr_bool (b : Bool) : (PyData.bool b).shown.length ≤ sizeLine := Nat.le_trans (shown_le (.bool b) (by simp [okD])) (by simp only [szD]; decide)
theorem repr_key {d : PyData} (h : plD d = true) : (keyD d).showable = true ∧ (keyD d).depth ≤ 40 ∧ (keyD d).shown.length ≤ sizeLine := by
  obtain ⟨ok, nt⟩ := plD_ok h
  have hi : okD (.int (rkD d)) = true := by cases d <;> simp [rkD, okD]
  have hk : okD (keyD d) = true := by
    unfold keyD
    rw [okD, okDs, okDs, okDs, hi, ok]
    rfl
  have hz : d.depth = 0 ∧ szD d = 200 := by cases d <;> simp_all [plD, okD, isT, PyData.depth, szD]
  refine ⟨showable_ok _ hk, ?_, Nat.le_trans (shown_le _ hk) ?_⟩
  · have : (keyD d).depth ≤ 0 + 1 := depth_tupLe fun x hx => by
      rcases List.mem_cons.mp hx with z | z
      · rw [z]
        exact Nat.zero_le _
      · rw [List.mem_singleton.mp z]
        omega
    omega
  · have : szD (keyD d) = 407 := by
      unfold keyD
      simp only [szD, szDs, hz.2]
    rw [this]
    decide
theorem Kn.free {S : List Addr} {H H1 : Hp} {p : Addr} (a : Kn S H H1) (h : H1 p = none) (n : p ∉ S) : ∀ o, H p = some o → ∃ ps, o = .tbl ps := fun o e => by
  by_cases c : ∃ ps, o = .tbl ps
  · exact c
  · have := a p o e n (fun ps z => c ⟨ps, z⟩)
    rw [h] at this
    cases this
theorem plD_PLN : ∀ d ∈ PLN, plD d = true := by
  have : PLN.all plD = true := by decide +kernel
  exact fun d hd => List.all_eq_true.mp this d hd
theorem nodup_PLN : (PLN.map phD).Nodup := by decide +kernel
theorem ok_law {c PT fL : Addr} {fdL : FuncData} {T : List (Addr × Str)} (FL : FunC K "law" "law" s_law fL fdL (.ref c)) (TB : TabB base mg c PT) (hm : (PT, lamQ "law") ∈ T) (hux : ∀ p ∈ T, p.1 = PT → p.2 = lamQ "law")
    (c_lfeed : CalG P w K mg base 20 "_law_feed" (spFeed K) []) (c_ldocument : CalG P w K mg base 20 "_law_document" (spDoc K T) []) (c_lvalue : CalG P w K mg base 20 "_law_value" (spValue K T 2) [])
    (c_islike : CalG P w K mg base 20 "is_like" (spLike K 15) []) (c_lissame : CalG P w K mg base 20 "_law_is_same" (spLike K 15) [])
    (c_keyof : CalG P w K mg base 1 "key_of" (spKey K) []) (c_lrank : CalG P w K mg base 1 "_law_rank" (spKey K) [])
    (m_range : mg "range" = none) (m_tuple : mg "tuple" = none) (m_repr : mg "repr" = none) (m_sorted : mg "sorted" = none) (m_isinstance : mg "isinstance" = none) (m_bool : mg "bool" = none) (m_str : mg "str" = none) (m_int : mg "int" = none) (m_len : mg "len" = none) :
    FnG P w K mg base 21 fL fdL P_law (spLaw K T) := by
  refine fnGC FL sc_law (fun vs H Q E h => ?_) (fun A outer s H vs Q E gd hr h => ?_)
  · obtain ⟨a, ns, rfl, _⟩ := h
    rfl
  obtain ⟨a, ns, rfl, hS, h63, hT, q⟩ := h
  have nd := sc_law.nd
  have hu := hr.units
  refine ⟨_, (pss_cons (ps_set (i := 1) nd rfl (Or.inr rfl) (pe_cG c_lfeed gd hr (by omega) (by rfl) (pa_cons (pv 0) pa_nil)))
(pss_cons (ps_set (i := 2) nd rfl (Or.inl rfl) (pe_cG c_ldocument gd hr (by omega) (by rfl) (pa_cons (pv 1) pa_nil)))
(pss_cons (ps_set (i := 3) nd rfl (Or.inl rfl) (pe_lst (pa_cons pe_int (pa_cons pe_int (pa_cons pe_int (pa_cons (pe_un un_neg pe_int) (pa_cons pe_bl (pa_cons pe_bl (pa_cons pe_str (pa_cons pe_str (pa_cons pe_str (pa_cons pe_str (pa_cons pe_str (pa_cons pe_int (pa_cons (pe_un un_neg pe_int) (pa_cons (pe_op op_pow pe_int pe_int) (pa_cons (pe_op op_mul_str pe_str pe_int) (pa_cons pe_str (pa_cons pe_str pa_nil)))))))))))))))))))
(pss_cons (ps_set (i := 4) nd rfl (Or.inl rfl) (pe_op op_cat (pv 3) (pe_lst (pa_cons (pv 2) (pa_cons (pe_cG c_ldocument gd hr (by omega) (by rfl) (pa_cons (pv 1) pa_nil)) (pa_cons (pe_tup (pa_cons pe_str (pa_cons (pe_tup pa_nil) pa_nil))) (pa_cons (pe_tup (pa_cons pe_str (pa_cons (pe_tup pa_nil) pa_nil))) (pa_cons (pe_tup (pa_cons pe_str (pa_cons (pe_tup (pa_cons pe_int pa_nil)) pa_nil))) (pa_cons (pe_tup (pa_cons pe_str (pa_cons (pe_tup (pa_cons pe_bl pa_nil)) pa_nil))) pa_nil)))))))))
(pss_cons (ps_set (i := 4) nd rfl (Or.inl rfl) (pe_op op_cat (pv 4) (pe_lst (pa_cons (pe_tup (pa_cons pe_str (pa_cons (pe_tup (pa_cons pe_str (pa_cons pe_int pa_nil))) pa_nil))) (pa_cons (pe_tup (pa_cons pe_str (pa_cons (pe_tup (pa_cons pe_str (pa_cons pe_bl pa_nil))) pa_nil))) (pa_cons (pe_tup (pa_cons pe_str (pa_cons (pe_tup (pa_cons (pe_tup (pa_cons pe_str (pa_cons pe_int pa_nil))) pa_nil)) pa_nil))) (pa_cons (pe_tup (pa_cons pe_str (pa_cons (pe_tup (pa_cons (pe_tup (pa_cons pe_str (pa_cons pe_bl pa_nil))) pa_nil)) pa_nil))) pa_nil)))))))
(pss_cons (ps_set (i := 4) nd rfl (Or.inl rfl) (pe_op op_cat (pv 4) (pe_lst (pa_cons (pe_tup (pa_cons pe_str (pa_cons (pe_tupRg rfl (by rfl) m_tuple (prg_1 (by rfl) m_range pe_int)) pa_nil))) (pa_cons (pe_tup (pa_cons pe_str (pa_cons (pe_op (k_catT K) (pe_tupRg rfl (by rfl) m_tuple (prg_1 (by rfl) m_range pe_int)) (pe_tup (pa_cons pe_bl pa_nil))) pa_nil))) (pa_cons (pe_tup (pa_cons pe_str (pa_cons (pe_op (k_catT K) (pe_tupRg rfl (by rfl) m_tuple (prg_1 (by rfl) m_range pe_int)) (pe_tup (pa_cons pe_str pa_nil))) pa_nil))) pa_nil))))))
(C8.pss_cut (ps_set (i := 4) nd rfl (Or.inl rfl) (pe_op op_cat (pe_op op_cat (pv 4) (pe_lc (own := [("_law_pair", 12)]) (g := (gName 12)) (tt := tYes) rfl nd (k_piT K (pe_ix (k_ixT K) (pv 2) pe_int (fun _ _ => rfl))) (blkOk_by (N := N_law) (sc := defScope s_law) (by decide +kernel)) (fun _ _ _ _ _ => (pg_name (i := 12) nd rfl (Or.inl rfl))) (fun _ _ _ _ _ => pts_nil) (fun _ _ _ _ _ => (pe_ix (k_ixT K) (pv 12) pe_int (fun _ _ => rfl))))) (pe_lc (own := [("_law_k", 11)]) (g := (gName 11)) (tt := tYes) rfl nd (pi_range1 rfl m_range (pa_cons pe_int pa_nil)) (blkOk_by (N := N_law) (sc := defScope s_law) (by decide +kernel)) (fun _ _ _ _ _ => (pg_name (i := 11) nd rfl (Or.inl rfl))) (fun _ _ _ _ _ => pts_nil) (fun _ _ _ _ _ => (pe_cG c_lvalue gd hr (by omega) (by rfl) (pa_cons (pv 1) (pa_cons pe_int (pa_cons (pe_lst (pa_cons pe_int pa_nil)) pa_nil))))))))
(pss_cons (ps_set (i := 5) nd rfl (Or.inl rfl) (pe_callB (k_repr K gd hu) (by rfl) m_repr b_repr (pa_cons (pv 4) pa_nil)))
(C8.pss_cut (ps_for PassesOwn.never rfl (k_piL K (pv 4)) (pg_name (i := 6) nd rfl (Or.inl rfl))
(pss_one (ps_for PassesOwn.never rfl (k_piL K (pv 4)) (pg_name (i := 7) nd rfl (Or.inl rfl))
(pss_one (ps_if (pt_cmpR op_ne (pe_callB (k_repr K gd hu) (by rfl) m_repr b_repr (pa_cons (pe_cG c_islike gd hr (by omega) (by rfl) (pa_cons (pv 6) (pa_cons (pv 7) pa_nil))) pa_nil)) (pe_callB (k_repr K gd hu) (by rfl) m_repr b_repr (pa_cons (pe_cG c_lissame gd hr (by omega) (by rfl) (pa_cons (pv 6) (pa_cons (pv 7) pa_nil))) pa_nil)) (nomark _))
(pss_one (ps_ret pe_bl))
pss_nil)))))
(C8.pss_cut (ps_for PassesOwn.never rfl (k_piL K (pv 3)) (pg_name (i := 8) nd rfl (Or.inl rfl))
(pss_one (ps_if (pt_cmpR op_ne (pe_callB (k_repr K gd hu) (by rfl) m_repr b_repr (pa_cons (pe_cG c_keyof gd hr (by omega) (by rfl) (pa_cons (pv 8) pa_nil)) pa_nil)) (pe_callB (k_repr K gd hu) (by rfl) m_repr b_repr (pa_cons (pe_cG c_lrank gd hr (by omega) (by rfl) (pa_cons (pv 8) pa_nil)) pa_nil)) (nomark _))
(pss_one (ps_ret pe_bl))
pss_nil)))
(C8.pss_cut (ps_set (i := 9) nd rfl (Or.inl rfl) (pe_sortedLam (p := "_law_plain_here") (k := 1) TB rfl hm hux gd (hr.mono (by omega)) rfl (by rfl) m_sorted (pa_cons (pv 3) pa_nil) ⟨rfl, rfl, rfl, by decide +kernel, rfl, by decide +kernel, by decide +kernel⟩ (fun f cd A outer s H E gd hr => (pe_cG c_keyof gd hr (by omega) (by rfl) (pa_cons (pv 0) pa_nil)))))
(C8.pss_cut (ps_setLc (i := 10) (own := [("_law_one", 6)]) (g := (gName 6)) (tt := tYes) rfl nd rfl rfl (sw_true rfl rfl rfl (by decide +kernel)) (k_piL K (pv 9)) (blkOk_by (N := N_law) (sc := defScope s_law) (by decide +kernel)) (fun _ _ _ _ _ => (pg_name (i := 6) nd rfl (Or.inl rfl))) (fun _ _ _ _ _ => pts_nil) (fun _ _ _ _ _ => (pe_ifExp (pt_val (pe_callB (k_isi K) (by rfl) m_isinstance b_isinstance (pa_cons (pv 6) (pa_cons (pe_bltn (v := .ty "str") (by rfl) m_str b_str rfl) pa_nil)))) pe_int (pe_op op_sub pe_int (pe_callTy call_int1 (by rfl) m_int b_int (pa_cons (pe_callB (k_isi K) (by rfl) m_isinstance b_isinstance (pa_cons (pv 6) (pa_cons (pe_bltn (v := .ty "bool") (by rfl) m_bool b_bool rfl) pa_nil))) pa_nil))))))
(C8.pss_cut (ps_for PassesOwn.never rfl (pi_range2 rfl m_range (pa_cons pe_int (pa_cons (pe_callB (k_len K) (by rfl) m_len b_len (pa_cons (pv 9) pa_nil)) pa_nil))) (pg_name (i := 11) nd rfl (Or.inl rfl))
(pss_one (ps_if (PW.pt (pw_or (pt_cmpR op_gt (pe_ix (k_ixL K) (pv 10) (pe_op op_sub (pv 11) pe_int) (fun _ _ => rfl)) (pe_ix (k_ixL K) (pv 10) (pv 11) (fun _ _ => rfl)) (nomark _)) (pw_or1 (PW.pt (pw_and (pt_cmpR op_eq (pe_ix (k_ixL K) (pv 10) (pe_op op_sub (pv 11) pe_int) (fun _ _ => rfl)) (pe_ix (k_ixL K) (pv 10) (pv 11) (fun _ _ => rfl)) (nomark _)) (pw_and1 (pt_not (pt_cmpR (k_ltD K hu) (pe_ix (k_ixL K) (pv 9) (pe_op op_sub (pv 11) pe_int) (fun _ _ => rfl)) (pe_ix (k_ixL K) (pv 9) (pv 11) (fun _ _ => rfl)) (nomark _)))))))))
(pss_one (ps_ret pe_bl))
pss_nil)))
(pss_one (ps_ret (pe_cmpR op_eq (pe_callB (k_repr K gd hu) (by rfl) m_repr b_repr (pa_cons (pv 4) pa_nil)) (pv 5) (nomark _))))))))))))))))), ?_⟩
  have hc9 : costD ≤ 100000 := by decide
  -- the feed, the document
  refine seq_set ⟨_, rfl, a, ns, rfl, hS, h63, fun f sl H1 hf hsl F1 s1 => ?_⟩
  refine seq_set ⟨_, rfl, f, sl, 0, rfl, F1, hT.ext s1, by omega, fun dv es H2 eok ddv F2 T2 k2 => ?_⟩
  -- the plains
  refine seq_set (lst_of (K := K) (ds := PLN) (lits_cons lit_int (lits_cons lit_int (lits_cons lit_int (lits_cons lit_neg (lits_cons lit_bl (lits_cons lit_bl (lits_cons lit_str (lits_cons lit_str (lits_cons lit_str (lits_cons lit_str (lits_cons lit_str (lits_cons lit_int (lits_cons lit_neg (lits_cons (lit_pow ⟨by decide, by decide, by decide⟩) (lits_cons (lit_rep (by decide) (by decide) (by decide) (by decide)) (lits_cons lit_str (lits_cons lit_str lits_nil))))))))))))))))) (by decide) fun pv P3 H3 s3 dp3 hP3 np3 => ?_)
  have dv3 := ddv.on s3
  have F3 := F2.on s3
  have T3 := T2.ext s3
  -- some = plains + [..]
  refine seq_set ⟨_, rfl, lst_two rfl ⟨_, rfl, f, sl, 0 + costD, rfl, F3, T3, by omega, fun dv2 es2 H4 eok2 ddv2 F4 T4 k4 => ?_⟩⟩
  dsimp only
  refine ((lits_cons (lit_tup (lits_cons lit_str (lits_cons (lit_tup lits_nil (by decide)) lits_nil)) (by decide)) (lits_cons (lit_tup (lits_cons lit_str (lits_cons (lit_tup lits_nil (by decide)) lits_nil)) (by decide)) (lits_cons (lit_tup (lits_cons lit_str (lits_cons (lit_tup (lits_cons lit_int lits_nil) (by decide)) lits_nil)) (by decide)) (lits_cons (lit_tup (lits_cons lit_str (lits_cons (lit_tup (lits_cons lit_bl lits_nil) (by decide)) lits_nil)) (by decide)) lits_nil)))) : Lits K _ SM4) _ _ _ fun vs4 H5' s5' d5' => ⟨?_, fun p5 hp5 => ?_⟩
  · rw [List.length_cons, List.length_cons, dpa_len d5']
    decide
  have s5 := s5'.trans (same_new (o := .lst (dv :: dv2 :: vs4)) hp5)
  have d5 := d5'.on (same_new (o := .lst (dv :: dv2 :: vs4)) hp5)
  have h5 : upd H5' p5 (.lst (dv :: dv2 :: vs4)) p5 = some (.lst (dv :: dv2 :: vs4)) := upd_same
  generalize upd H5' p5 (.lst (dv :: dv2 :: vs4)) = H5 at s5 d5 h5 ⊢
  have tk4 : TupK H3 H5 := (k4.tup (by
    intro b hb
    rw [List.mem_singleton.mp hb]
    exact F3.lst)).trans (TupK.of s5)
  have dv5 := dv3.tk (tupD_doc eok) tk4
  have dp5 := dp3.tk (tupDs_PLN) tk4
  obtain ⟨of, hof⟩ := F2.ex1
  have nPf : P3 ≠ f := fun z => ne_of_none hof np3 z.symm
  have hP5 : H5 P3 = some (.lst pv) := s5 _ _ (k4.lst hP3 (by simpa using nPf))
  have F5 := F4.on s5
  have T5 := T4.ext s5
  have dv25 := ddv2.on s5
  refine cat_of hP5 h5 ?_ fun p6 H6 s6 h6 n6 => ?_
  · rw [List.length_cons, List.length_cons, dpa_len dp5, dpa_len d5]
    decide
  have da6 : DpAll K H6 (pv ++ (dv :: dv2 :: vs4)) (PLN ++ (treeD es :: treeD es2 :: SM4)) := (dpa_app dp5 (.cons dv5 (.cons dv25 d5))).on s6
  -- some = some + [..], twice
  refine seq_set ⟨_, rfl, lst_of (K := K) (ds := SM5) (lits_cons (lit_tup (lits_cons lit_str (lits_cons (lit_tup (lits_cons lit_str (lits_cons lit_int lits_nil)) (by decide)) lits_nil)) (by decide)) (lits_cons (lit_tup (lits_cons lit_str (lits_cons (lit_tup (lits_cons lit_str (lits_cons lit_bl lits_nil)) (by decide)) lits_nil)) (by decide)) (lits_cons (lit_tup (lits_cons lit_str (lits_cons (lit_tup (lits_cons (lit_tup (lits_cons lit_str (lits_cons lit_int lits_nil)) (by decide)) lits_nil) (by decide)) lits_nil)) (by decide)) (lits_cons (lit_tup (lits_cons lit_str (lits_cons (lit_tup (lits_cons (lit_tup (lits_cons lit_str (lits_cons lit_bl lits_nil)) (by decide)) lits_nil) (by decide)) lits_nil)) (by decide)) lits_nil)))) (by decide) fun vs7 p7 H7 s7 d7 h7 _ => cat_of (s7 _ _ h6) h7 ?_ fun p8 H8 s8 h8 n8 => ?_⟩
  · rw [dpa_len da6, dpa_len d7, List.length_append]
    simp only [List.length_cons]
    decide
  have da8 := (dpa_app (da6.on s7) d7).on s8
  refine seq_set ⟨_, rfl, lst_of (K := K) (ds := SM6) (lits_cons (lit_tup (lits_cons lit_str (lits_cons (lit_rg (n := 10) (by decide)) lits_nil)) (by decide)) (lits_cons (lit_tup (lits_cons lit_str (lits_cons (lit_catT (lit_rg (n := 9) (by decide)) (lit_tup (lits_cons lit_bl lits_nil) (by decide)) (by decide) (by decide) (by decide) (by decide)) lits_nil)) (by decide)) (lits_cons (lit_tup (lits_cons lit_str (lits_cons (lit_catT (lit_rg (n := 9) (by decide)) (lit_tup (lits_cons lit_str lits_nil) (by decide)) (by decide) (by decide) (by decide) (by decide)) lits_nil)) (by decide)) lits_nil))) (by decide) fun vs9 p9 H9 s9 d9 h9 _ => cat_of (s9 _ _ h8) h9 ?_ fun p10 H10 s10 h10 n10 => ?_⟩
  · rw [dpa_len da8, dpa_len d9, List.length_append, List.length_append]
    simp only [List.length_cons]
    decide
  have da10 := (dpa_app (da8.on s9) d9).on s10
  have s610 : Same H5 H10 := s6.trans (s7.trans (s8.trans (s9.trans s10)))
  have F10 := F5.on s610
  have T10 := T5.ext s610
  have dv10 := dv5.on s610
  have hP10 := s610 _ _ hP5
  have dp10 := dp5.on s610
  refine ⟨fun σ' H' => ∃ (P S : Addr) (ds : List PyData), σ' = [some (.ref a), some (.ref f), some dv, some (.ref P), some (.ref S), none, none, none, none, none, none, none, none] ∧ LawAt K T H' P S ds, ?_, ?_⟩
  · obtain ⟨ad, vs, rfl, hs, hvs⟩ := dv10.tupE
    obtain ⟨u1, hu1, du1⟩ := dpa_get hvs (i := 1) rfl
    obtain ⟨ae, us, rfl, hes, hus⟩ := du1.tupE
    refine ⟨_, rfl, _, rfl, ad, vs, 1, .ref ae, rfl, rfl, hs, atI_nat hu1, ae, rfl, ⟨us, hes⟩, fun D hD => ?_⟩
    refine lc_tup (xs := us) (fun i H' => Same H10 H' ∧ ∃ acc, H' D = some (.lst acc) ∧ DpAll K H' acc ((es.map (·.2)).take i)) ?h0 ?hl ?hs ?hd
    case h0 => exact ⟨same_new hD, [], upd_same, .nil⟩
    case hl =>
      rintro i H' _ ⟨sm, _⟩
      exact SqT.same sm hes
    case hs =>
      rintro i x H' hx ⟨sm, acc, zD, da⟩
      obtain ⟨d, hd, dx⟩ := dpa_getV hus hx
      rw [List.getElem?_map] at hd
      cases he : es[i]? with
      | none => rw [he] at hd; cases hd
      | some e =>
        rw [he] at hd
        cases hd
        have me := List.mem_of_getElem? he
        obtain ⟨aa, ws, rfl, hws, hwv⟩ := (dx.on sm).tupE
        obtain ⟨wv, hw, dw⟩ := dpa_get hwv (i := 1) rfl
        have tk : TupK H' (upd H' D (.lst (acc ++ [wv]))) := (Kp.set (S := [D]) (by simp)).tup (by
          intro b hb
          rw [List.mem_singleton.mp hb]
          exact .lst zD)
        refine ⟨rfl, _, rfl, aa, ws, 1, wv, rfl, rfl, hws, atI_nat hw, acc, zD, ?_, same_upd0 hD sm, _, upd_same, ?_⟩
        · have := dpa_len da
          rw [List.length_take, List.length_map] at this
          have := eok.few
          exact Nat.lt_of_le_of_lt (show acc.length ≤ 5 by omega) (by decide)
        · rw [List.take_add_one, List.getElem?_map, he]
          exact dpa_app (da.tk (tupDs_all.mpr fun y hy => by
            obtain ⟨e', he', rfl⟩ := List.mem_map.mp (List.mem_of_mem_take hy)
            exact tup_ok _ (VD_ok (eok.vals e' he')).1) tk) (DpAll.one (dw.tk (tup_ok _ (VD_ok (eok.vals e me)).1) tk))
    case hd =>
      rintro H' ⟨sm, acc, zD, da⟩
      have lus : us.length = es.length := by rw [dpa_len hus, List.length_map]
      rw [show (es.map (·.2)).take us.length = es.map (·.2) from List.take_of_length_le (by rw [List.length_map]; omega)] at da
      have lac : acc.length ≤ 5 := by
        have z := dpa_len da
        have := eok.few
        rw [List.length_map] at z
        omega
      have l10 := dpa_len da10
      simp only [List.length_append, List.length_cons, show PLN.length = 17 from rfl, show SM4.length = 4 from rfl, show SM5.length = 4 from rfl, show SM6.length = 3 from rfl] at l10
      refine cat_of (sm _ _ h10) zD (by simp only [List.length_append, List.length_cons]; omega) fun p11 H11 s11 h11 n11 => ?_
      have sA := sm.trans s11
      have F11 := F10.on sA
      have T11 := T10.ext sA
      have hP11 := sA _ _ hP10
      have dp11 := dp10.on sA
      have da11 := (dpa_app (da10.on sm) da).on s11
      have ec2 : costV 2 = 67 := rfl
      refine ⟨6, rfl, by decide, by decide, fun D2 hD2 => ?_⟩
      obtain ⟨of11, hof11⟩ := F11.ex1
      obtain ⟨os11, hos11⟩ := F11.ex2
      have nDf : D2 ≠ f := fun z => ne_of_none hof11 hD2 z.symm
      have nDs : D2 ≠ sl := fun z => ne_of_none hos11 hD2 z.symm
      refine lc_range (n := 6) (fun i H' => ∃ (ds : List PyData) (acc : List V), Feed H' f sl (0 + costD + costD + i * costV 2) ∧ Tabs T H' ∧ H' D2 = some (.lst acc) ∧ DpAll K H' acc ds ∧ ds.length ≤ i ∧ (∀ d ∈ ds, VD 2 d) ∧ Kn [f] H11 H') ?h0 ?hs ?hd
      case h0 => exact ⟨[], [], (F11.on (same_new hD2)).up (by omega), T11.ext (same_new hD2), upd_same, .nil, Nat.le_refl _, (fun d hd => by cases hd), Kn.same (same_new hD2)⟩
      case hs =>
        rintro i H' hi ⟨ds, ac, fdi, Ti, zD2, dai, dli, vdi, kni⟩
        obtain ⟨ofi, hofi⟩ := fdi.ex1
        obtain ⟨osi, hosi⟩ := fdi.ex2
        have hci : i * costV 2 ≤ 6 * costV 2 := Nat.mul_le_mul_right _ (by omega)
        refine ⟨rfl, _, rfl, by show 1 ≤ sizeLine; decide, fun l hl => ?_⟩
        have sl' := same_new (o := .lst [.int 5]) hl
        have nlf : l ≠ f := fun z => ne_of_none hofi hl z.symm
        have nls : l ≠ sl := fun z => ne_of_none hosi hl z.symm
        have nDl : D2 ≠ l := ne_of_none zD2 hl
        refine ⟨f, sl, l, 0 + costD + costD + i * costV 2, 5, rfl, fdi.on sl', Ti.ext sl', upd_same, nlf, nls, by omega, fun v d k' H4 vd dv fd4 T4 hl4 kn4 => ?_⟩
        have zD4 : H4 D2 = some (.lst ac) := kn4.lst (sl' _ _ zD2) (by simp [nDf, nDl])
        have tk4 : TupK H4 (upd H4 D2 (.lst (ac ++ [v]))) := (Kp.set (S := [D2]) (by simp)).tup (by
          intro b hb
          rw [List.mem_singleton.mp hb]
          exact .lst zD4)
        have tk : TupK H' (upd H4 D2 (.lst (ac ++ [v]))) := (TupK.of sl').trans ((kn4.tup (by
          intro b hb
          simp only [List.mem_cons, List.not_mem_nil, or_false] at hb
          rcases hb with z | z <;> rw [z]
          · exact (fdi.on sl').lst
          · exact .lst upd_same)).trans tk4)
        have al : ac.length < sizeLine := Nat.lt_of_le_of_lt (show ac.length ≤ 6 by rw [dpa_len dai]; omega) (by decide)
        have em : 0 + costD + costD + i * costV 2 + costV 2 = 0 + costD + costD + (i + 1) * costV 2 := by rw [Nat.add_mul, Nat.one_mul]; omega
        refine ⟨ac, zD4, al, ds ++ [d], ac ++ [v], ?_, ?_, upd_same, ?_, ?_, ?_, ?_⟩
        · rw [← em]
          exact fd4.kp (S := [D2]) (Kp.set (by simp)) (by simpa using nDf.symm) (by simpa using nDs.symm)
        · exact tabs_kp T4 (Kp.set (S := [D2]) (by simp)) (by
            intro b hb
            rw [List.mem_singleton.mp hb]
            exact Or.inr ⟨_, zD4⟩)
        · exact dpa_app (dai.tk (tupDs_all.mpr fun x hx => tupD_VD (vdi x hx)) tk) (DpAll.one (dv.tk (tupD_VD vd) tk4))
        · rw [List.length_append, List.length_singleton]
          omega
        · intro x hx
          rcases List.mem_append.mp hx with z | z
          · exact vdi x z
          · rw [List.mem_singleton.mp z]
            exact vd
        · have kA : Kn [f] H' H4 := ((Kn.same (S := [l, f]) sl').trans (kn4.wide (by
            intro x hx
            simp only [List.mem_cons, List.not_mem_nil, or_false] at hx ⊢
            exact hx.symm))).drop hl
          exact (((kni.trans kA).wide (S' := [D2, f]) (by simp)).trans (Kn.of (Kp.set (S := [D2, f]) (by simp)))).drop hD2
      case hd =>
        rintro H12 ⟨ds, ac, fdi, Ti, zD2, dai, dli, vdi, kni⟩
        obtain ⟨off, hof10⟩ := F10.ex1
        have tk : TupK H11 H12 := kni.tup (by
          intro b hb
          rw [List.mem_singleton.mp hb]
          exact F11.lst)
        have n11f : p11 ≠ f := by
          intro z
          rw [z] at h11
          obtain ⟨ns', i', l', c', z2, _⟩ := F11
          rw [z2] at h11
          have := HO.lst.inj (Option.some.inj h11)
          have l2 := congrArg List.length this
          simp only [List.length_append, List.length_cons, List.length_nil] at l2
          omega
        have h12 := kni.lst h11 (by simpa using n11f)
        have hP12 := kni.lst hP11 (by simpa using nPf)
        have td : Fine ((PLN ++ treeD es :: treeD es2 :: SM4 ++ SM5 ++ SM6) ++ es.map (·.2)) 1400000 := by
          have fe : Fine (es.map (·.2)) 500000 := fine_vals (n := 3) (Nat.le_refl _) (by have := eok.few; rw [List.length_map]; omega) fun d hd => by
            obtain ⟨e', he', rfl⟩ := List.mem_map.mp hd
            exact eok.vals e' he'
          have f4 : Fine (treeD es :: treeD es2 :: SM4) (400000 + (400000 + 20000)) := (fine_doc eok).app ((fine_doc eok2).app fine_SM4)
          exact ((((fine_PLN.app f4).app fine_SM5).app fine_SM6).app fe).up (by decide)
        refine cat_of h12 zD2 ?_ fun p13 H13 s13 h13 n13 => ⟨P3, p13, _, rfl, pv, _, s13 _ _ hP12, (dp11.tk tupDs_PLN tk).on s13, h13, (dpa_app (da11.tk (tupDs_all.mpr fun x hx => tup_ok _ (td.ok x hx)) tk) dai).on s13, ?_, ?_, Ti.ext s13⟩
        · have := dpa_len dai
          simp only [List.length_append, List.length_cons]
          omega
        · exact (td.app (fine_vals (n := 2) (by decide) dli vdi)).up (by decide)
        · have := eok.few
          simp only [List.length_append, List.length_cons, List.length_map, show PLN.length = 17 from rfl, show SM4.length = 4 from rfl, show SM5.length = 4 from rfl, show SM6.length = 3 from rfl]
          omega
  · rintro σ0 H0 ⟨P, S, ds, rfl, pv, sv, hP, dP, hS, dS, fine, hlen, T0⟩
    obtain ⟨r1, r2, r3⟩ := repr_list fine
    have okd := fine.ok
    have dpd := fine.depth
    refine seq_set ⟨_, rfl, .ref S, .list ds, rfl, .lst (SqL.of hS) dS, r1, r2, r3, ?_⟩
    -- every two of them
    refine ⟨fun σ' H' => (∃ o6 o7 : Option V, σ' = [some (.ref a), some (.ref f), some dv, some (.ref P), some (.ref S), some (.str (PyData.list ds).shown), o6, o7, none, none, none, none, none]) ∧ Same H0 H', ?_, ?_⟩
    · refine ⟨_, rfl, S, rfl, ⟨sv, SqL.of hS⟩, ?_⟩
      refine for_list (xs := sv) (fun i σ' H' => (∃ o6 o7 : Option V, σ' = [some (.ref a), some (.ref f), some dv, some (.ref P), some (.ref S), some (.str (PyData.list ds).shown), o6, o7, none, none, none, none, none]) ∧ Same H0 H') ?h0 ?hl ?hs ?hd
      case h0 => exact ⟨⟨none, none, rfl⟩, Same.refl H0⟩
      case hl => exact fun i σ' H' _ z => SqL.of (z.2 _ _ hS)
      case hd => exact fun σ' H' z => z
      case hs =>
        rintro i x σ' H' hx ⟨⟨o6, o7, rfl⟩, sm⟩
        obtain ⟨d, hd, dx⟩ := dpa_getV dS hx
        have md := List.mem_of_getElem? hd
        refine ⟨_, rfl, S, rfl, ⟨sv, SqL.of (sm _ _ hS)⟩, ?_⟩
        refine for_list (xs := sv) (fun i σ' H' => (∃ o7 : Option V, σ' = [some (.ref a), some (.ref f), some dv, some (.ref P), some (.ref S), some (.str (PyData.list ds).shown), some x, o7, none, none, none, none, none]) ∧ Same H0 H') ?h0 ?hl ?hs ?hd
        case h0 => exact ⟨⟨o7, rfl⟩, sm⟩
        case hl => exact fun i σ' H' _ z => SqL.of (z.2 _ _ hS)
        case hd => exact fun σ' H' ⟨⟨o7, e⟩, z⟩ => ⟨⟨_, o7, e⟩, z⟩
        case hs =>
          rintro j y σ' H' hy ⟨⟨o7, rfl⟩, sm⟩
          obtain ⟨e, he, dy⟩ := dpa_getV dS hy
          have me := List.mem_of_getElem? he
          have dpe := dpd e me
          refine ⟨_, rfl, _, rfl, x, y, d, e, rfl, dx.on sm, dy.on sm, okd d md, okd e me, dpd d md, by omega, by decide, fun H2 s2 => ?_⟩
          have sm2 := sm.trans s2
          refine ⟨_, _, rfl, .bl _, rfl, Nat.zero_le _, repr_bool _, _, rfl, _, rfl, x, y, d, e, rfl, dx.on sm2, dy.on sm2, okd d md, okd e me, dpd d md, by omega, by decide, fun H3 s3 => ?_⟩
          refine ⟨_, _, rfl, .bl _, rfl, Nat.zero_le _, repr_bool _, rfl, _, rfl, ?_⟩
          refine ite2 (fun hc => absurd hc (by simp)) (fun _ => ?_)
          exact ⟨⟨_, rfl⟩, sm2.trans s3⟩
    rintro σ1 H1' ⟨⟨o6, o7, rfl⟩, sm1⟩
    -- the keys
    refine ⟨fun σ' H' => (∃ o8 : Option V, σ' = [some (.ref a), some (.ref f), some dv, some (.ref P), some (.ref S), some (.str (PyData.list ds).shown), o6, o7, o8, none, none, none, none]) ∧ Same H0 H', ?_, ?_⟩
    · refine ⟨_, rfl, P, rfl, ⟨pv, SqL.of (sm1 _ _ hP)⟩, ?_⟩
      refine for_list (xs := pv) (fun i σ' H' => (∃ o8 : Option V, σ' = [some (.ref a), some (.ref f), some dv, some (.ref P), some (.ref S), some (.str (PyData.list ds).shown), o6, o7, o8, none, none, none, none]) ∧ Same H0 H') ?h0 ?hl ?hs ?hd
      case h0 => exact ⟨⟨none, rfl⟩, sm1⟩
      case hl => exact fun i σ' H' _ z => SqL.of (z.2 _ _ hP)
      case hd => exact fun σ' H' z => z
      case hs =>
        rintro i x σ' H' hx ⟨⟨o8, rfl⟩, sm⟩
        obtain ⟨d, hd, dx⟩ := dpa_getV dP hx
        have md := List.mem_of_getElem? hd
        have pd := plD_PLN d md
        obtain ⟨k1, k2', k3⟩ := repr_key pd
        refine ⟨_, rfl, x, d, rfl, dx.on sm, (plD_ok pd).1, (plD_ok pd).2, fun y H2 s2 dy => ?_⟩
        have sm2 := sm.trans s2
        refine ⟨_, _, rfl, dy, k1, Nat.le_trans k2' (by decide), k3, _, rfl, x, d, rfl, dx.on sm2, (plD_ok pd).1, (plD_ok pd).2, fun y' H3 s3 dy' => ?_⟩
        refine ⟨_, _, rfl, dy', k1, Nat.le_trans k2' (by decide), k3, rfl, _, rfl, ?_⟩
        refine ite2 (fun hc => absurd hc (by simp)) (fun _ => ?_)
        exact ⟨⟨_, rfl⟩, sm2.trans s3⟩
    rintro σ2 H2' ⟨⟨o8, rfl⟩, sm2⟩
    -- sorted by the keys
    have hP2 := sm2 _ _ hP
    have dP2 := dP.on sm2
    have T2' := T0.ext sm2
    refine ⟨fun σ' H' => ∃ (R : Addr) (rv : List V) (rs : List PyData), σ' = [some (.ref a), some (.ref f), some dv, some (.ref P), some (.ref S), some (.str (PyData.list ds).shown), o6, o7, o8, some (.ref R), none, none, none] ∧ Kn [] H0 H' ∧
      H' R = some (.lst rv) ∧ DpAll K H' rv rs ∧ (∀ d ∈ rs, plD d = true) ∧ rs.length = 17 ∧ rs.Pairwise (fun d e => rkD d ≤ rkD e ∧ (rkD d = rkD e → dataLt d e = true)), ?_, ?_⟩
    · refine ⟨_, rfl, P, pv, PLN.map keyD, rfl, SqL.of hP2, ?_, SortK.rank (rank_keys plD_PLN), ?_, T2', fun H3 eN T3 => ⟨fun i x kd hx hk H4 s4 => ?_, fun D2 H4 s4 n4 h4 => ?_⟩⟩
      · rw [List.length_map, dpa_len dP2]
      · intro d hd
        obtain ⟨e, he, rfl⟩ := List.mem_map.mp hd
        exact (repr_key (plD_PLN e he)).2.1
      · obtain ⟨d, hd, dx⟩ := dpa_getV dP2 hx
        rw [List.getElem?_map, hd] at hk
        cases hk
        have md := List.mem_of_getElem? hd
        have pd := plD_PLN d md
        have tk : TupK H2' H4 := ((Kn.ext (S := []) eN).trans (Kn.same s4)).tup (by simp)
        exact ⟨_, rfl, x, d, rfl, dx.tk (tup_ok _ (plD_ok pd).1) tk, (plD_ok pd).1, (plD_ok pd).2, fun y H' s' dy => ⟨s', dy⟩⟩
      · have kn : Kn [] H2' H4 := (Kn.ext eN).trans (Kn.same s4)
        have tk : TupK H2' H4 := kn.tup (by simp)
        obtain ⟨rs, g1, g2, g3, g4⟩ := keyed_plains (dP2.tk tupDs_PLN tk) plD_PLN nodup_PLN
        exact ⟨D2, _, rs, rfl, (Kn.same sm2).trans kn, h4, g1, g2, g3, g4⟩
    rintro σ3 H3' ⟨R, rv, rs, rfl, kn3, hR, dR, pR, lR, rise⟩
    -- their kinds
    refine ⟨fun σ' H' => ∃ D : Addr, σ' = [some (.ref a), some (.ref f), some dv, some (.ref P), some (.ref S), some (.str (PyData.list ds).shown), o6, o7, o8, some (.ref R), some (.ref D), none, none] ∧ Same H3' H' ∧ H' D = some (.lst (rs.map fun d => V.int (rkD d))), ?_, ?_⟩
    · refine ⟨_, rfl, R, rfl, ⟨rv, SqL.of hR⟩, fun D hD => ?_⟩
      refine lc_list (xs := rv) (fun i H' => Same H3' H' ∧ H' D = some (.lst ((rs.take i).map fun d => V.int (rkD d)))) ?h0 ?hl ?hs ?hd
      case h0 => exact ⟨same_new hD, upd_same⟩
      case hl => exact fun i H' _ z => SqL.of (z.1 _ _ hR)
      case hs =>
        rintro i x H' hx ⟨sm, zD⟩
        obtain ⟨d, hd, dx0⟩ := dpa_getV dR hx
        have dx := dx0.on sm
        have pd := pR d (List.mem_of_getElem? hd)
        obtain ⟨okd', ntd⟩ := plD_ok pd
        obtain ⟨t1, ty1, ki1⟩ := isi_bool dx okd'
        obtain ⟨t2, ty2, ki2⟩ := isi_str dx okd'
        have al : ((rs.take i).map fun d => V.int (rkD d)).length < sizeLine := by
          rw [List.length_map, List.length_take]
          exact Nat.lt_of_le_of_lt (show min i rs.length ≤ 17 by omega) (by decide)
        have fin : ∀ n : Int, n = rkD d → Same H3' (upd H' D (.lst ((rs.take i).map (fun d => V.int (rkD d)) ++ [.int n]))) ∧ upd H' D (.lst ((rs.take i).map (fun d => V.int (rkD d)) ++ [.int n])) D = some (.lst ((rs.take (i + 1)).map fun d => V.int (rkD d))) := by
          intro n en
          refine ⟨same_upd0 hD sm, ?_⟩
          rw [upd_same, List.take_add_one, hd, List.map_append, en]
          rfl
        refine ⟨rfl, _, rfl, _, _, _, _, _, rfl, .ty _, ty2, ki2, _, rfl, ?_⟩
        refine ite2 (fun hc => ?_) (fun hc => ?_)
        · exact ⟨_, zD, al, fin 2 (rk_str' hc).symm⟩
        · refine ⟨_, rfl, _, _, _, _, _, rfl, .ty _, ty1, ki1, .inr ⟨_, rfl, 1, _, rfl, rfl, _, zD, al, fin _ ?_⟩⟩
          by_cases hb : isB d = true
          · rw [if_pos hb, rk_bool hb]
            rfl
          · rw [if_neg hb, rk_int' okd' ntd hc hb]
            rfl
      case hd =>
        rintro H' ⟨sm, zD⟩
        rw [show rs.take rv.length = rs from List.take_of_length_le (by rw [dpa_len dR]; exact Nat.le_refl _)] at zD
        exact ⟨D, rfl, sm, zD⟩
    rintro σ4 H4' ⟨Kd, rfl, sm4, hK⟩
    have lrv : rv.length = 17 := by rw [dpa_len dR, lR]
    have hR4 := sm4 _ _ hR
    have dR4 := dR.on sm4
    -- each rises
    refine ⟨fun σ' H' => (∃ o11 : Option V, σ' = [some (.ref a), some (.ref f), some dv, some (.ref P), some (.ref S), some (.str (PyData.list ds).shown), o6, o7, o8, some (.ref R), some (.ref Kd), o11, none]) ∧ H' = H4', ?_, ?_⟩
    · refine ⟨_, rfl, R, _, rfl, .inl (SqL.of hR4), 1, _, rfl, ⟨by decide, by decide, by omega, by omega⟩, ?_⟩
      refine for_range (lo := 1) (n := ((rv.length : Int) - 1).toNat) (fun i σ' H' => (∃ o11 : Option V, σ' = [some (.ref a), some (.ref f), some dv, some (.ref P), some (.ref S), some (.str (PyData.list ds).shown), o6, o7, o8, some (.ref R), some (.ref Kd), o11, none]) ∧ H' = H4') ?h0 ?hs ?hd
      case h0 => exact ⟨⟨none, rfl⟩, rfl⟩
      case hd => exact fun σ' H' z => z
      case hs =>
        rintro i σ' H' hi ⟨⟨o11, rfl⟩, rfl⟩
        have i16 : i < 16 := by omega
        have at1 : ∀ {xs : List V} {v : V}, xs[i]? = some v → atI xs (1 + (i : Int) - 1) = some v := fun {xs v} h => by
          rw [show 1 + (i : Int) - 1 = (i : Int) by omega]
          exact atI_nat h
        have at2 : ∀ {xs : List V} {v : V}, xs[i + 1]? = some v → atI xs (1 + (i : Int)) = some v := fun {xs v} h => by
          rw [show 1 + (i : Int) = ((i + 1 : Nat) : Int) by omega]
          exact atI_nat h
        have gd1 : rs[i]? = some (rs[i]'(by omega)) := List.getElem?_eq_getElem _
        have ge1 : rs[i + 1]? = some (rs[i + 1]'(by omega)) := List.getElem?_eq_getElem _
        have up := List.pairwise_iff_getElem.mp rise i (i + 1) (by omega) (by omega) (by omega)
        generalize rs[i]'(by omega) = d at gd1 up
        generalize rs[i + 1]'(by omega) = e at ge1 up
        obtain ⟨x, hx, dx⟩ := dpa_get dR4 gd1
        obtain ⟨y, hy, dy⟩ := dpa_get dR4 ge1
        have pd := pR d (List.mem_of_getElem? gd1)
        have pe := pR e (List.mem_of_getElem? ge1)
        have kd : (rs.map fun d => V.int (rkD d))[i]? = some (.int (rkD d)) := by rw [List.getElem?_map, gd1]; rfl
        have ke : (rs.map fun d => V.int (rkD d))[i + 1]? = some (.int (rkD e)) := by rw [List.getElem?_map, ge1]; rfl
        dsimp only [gName]
        refine if_ans (b := (decide (rkD e < rkD d) || (decide (V.int (rkD d) = V.int (rkD e)) && !dataLt d e)))
          (ans_or (fun Q' q' => ⟨_, rfl, _, rfl, _, _, rfl, rfl, Kd, _, _, _, rfl, rfl, SqL.of hK, at1 kd, _, rfl, _, rfl, Kd, _, _, _, rfl, rfl, SqL.of hK, at2 ke, _, _, rfl, rfl, _, rfl, q'⟩)
            (ans_and (fun Q' q' => ⟨_, rfl, _, rfl, _, _, rfl, rfl, Kd, _, _, _, rfl, rfl, SqL.of hK, at1 kd, _, rfl, _, rfl, Kd, _, _, _, rfl, rfl, SqL.of hK, at2 ke, rfl, _, rfl, q'⟩)
              (fun hq Q' q' => ⟨_, rfl, _, rfl, _, _, rfl, rfl, R, _, _, _, rfl, rfl, SqL.of hR4, at1 hx, _, rfl, _, rfl, R, _, _, _, rfl, rfl, SqL.of hR4, at2 hy, d, e, dx, dy, alike_rank pd pe (V.int.inj (of_decide_eq_true hq)), ?_, ?_, _, rfl, q'⟩))) (fun hb => ?_) (fun _ => ?_)
        · intro z
          rw [z] at pd
          simp [plD, okD] at pd
        · have : d.depth = 0 := by cases d <;> simp_all [plD, okD, isT, PyData.depth]
          omega
        · exfalso
          have h1 : decide (rkD e < rkD d) = false := decide_eq_false (by omega)
          rw [h1, Bool.false_or, Bool.and_eq_true, Bool.not_eq_true'] at hb
          rw [up.2 (V.int.inj (of_decide_eq_true hb.1))] at hb
          exact absurd hb.2 (by decide)
        · exact ⟨⟨_, rfl⟩, rfl⟩
    rintro σ5 H5' ⟨⟨o11, rfl⟩, rfl⟩
    have kn4 : Kn [] H0 H5' := kn3.trans (Kn.same sm4)
    have dS4 := dS.tk (tupDs_all.mpr fun x hx => tup_ok _ (okd x hx)) (kn4.tup (by simp))
    have hS4 := kn4.lst hS (by simp)
    refine ⟨_, rfl, .ref S, .list ds, rfl, .lst (SqL.of hS4) dS4, r1, r2, r3, _, rfl, rfl, ?_⟩
    have := q H5'
    simpa using this
end
end Dat

set_option Elab.async false
set_option linter.all false
set_option maxRecDepth 100000
set_option maxHeartbeats 4000000
/-! The end: the law's def called from outside, where nothing is guarded. -/
namespace Dat
open PySem PySem.Spec PyProof.Rows L2 LamX

abbrev tab0 : Obj := { cls := .none, data := .fields #[] }
abbrev scr0 (vs : List Value) : Obj := { cls := .type "list", data := .seq vs.toArray }
/-- at the start: the empty tables, and the script's list unless it is of the written part -/
def hp0 (K : PySem.W.Frag) (ts : List Addr) (a : Addr) (vs : List Value) (ns : List Int) : Hp := fun b =>
  if b ∈ ts then some (.tbl #[]) else if b = a ∧ K.lookup a = none then some (.frz (scr0 vs) (.lst (ns.map V.int))) else none
section
variable {K : PySem.W.Frag} {ts : List Addr} {a b : Addr} {vs : List Value} {ns : List Int}
theorem hp0_tab (h : b ∈ ts) : hp0 K ts a vs ns b = some (.tbl #[]) := if_pos h
theorem hp0_cases (b : Addr) : (b ∈ ts ∧ hp0 K ts a vs ns b = some (.tbl #[])) ∨ (b ∉ ts ∧ b = a ∧ K.lookup a = none ∧ hp0 K ts a vs ns b = some (.frz (scr0 vs) (.lst (ns.map V.int)))) ∨ hp0 K ts a vs ns b = none := by
  by_cases h1 : b ∈ ts
  · exact .inl ⟨h1, if_pos h1⟩
  · by_cases h2 : b = a ∧ K.lookup a = none
    · exact .inr (.inl ⟨h1, h2.1, h2.2, (if_neg h1).trans (if_pos h2)⟩)
    · exact .inr (.inr ((if_neg h1).trans (if_neg h2)))
/-- what is neither a list of the script's form nor an empty table isn't tracked -/
theorem hp0_none {h : Heap} {o : Obj} (ht : ∀ p ∈ ts, h.get? p = some tab0) (ha : h.get? a = some (scr0 vs)) (e : h.get? b = some o) (n1 : o ≠ tab0) (n2 : o ≠ scr0 vs) : hp0 K ts a vs ns b = none := by
  rcases hp0_cases (K := K) (ts := ts) (a := a) (vs := vs) (ns := ns) b with ⟨q, _⟩ | ⟨_, rfl, _⟩ | q
  · exact absurd (Option.some.inj (e.symm.trans (ht b q))) n1
  · exact absurd (Option.some.inj (e.symm.trans ha)) n2
  · exact q
end
theorem ne_tab {o : Obj} (h : o.data ≠ .fields #[]) : o ≠ tab0 := fun z => h (by rw [z])
theorem ne_scr {o : Obj} {vs : List Value} (h : ∀ xs n, o.data ≠ .seq xs n) : o ≠ scr0 vs := fun z => h _ _ (by rw [z])

section
variable {P : Program} {w : World} {K : PySem.W.Frag} {mg mb : Str → Option Value} {k : Nat} {fa a : Addr} {cs : List (Addr × Addr)} {fd : FuncData} {x : Str} {sp : Sp} {s : Shared} {vs : List Value} {ns : List Int}
theorem callG (inK : K.In s.heap) (nsG : s.heap.Ns mainGlobals mg) (nsB : s.heap.Ns builtinsNs mb) (boot : ∀ x : Str, x ≠ "__name__" → mb x = bootBuiltins x) (lim : s.heap.NoLimit) (gens : s.gens = #[])
    (tabs : ∀ p ∈ cs, s.heap.get? p.2 = some tab0) (out : ∀ p ∈ cs, K.lookup p.2 = none) (codes : ∀ p ∈ cs, PySem.W.CodeHd s.heap p.1 p.2)
    (bm : ∃ (m : Addr) (o : Obj), mg "__builtins__" = some (.ref m) ∧ m ≠ builtinsNs ∧ s.heap.get? m = some o ∧ o.cls = .type "module" ∧ o.dict = some builtinsNs ∧ o.data = .plain)
    (scr : s.heap.get? a = some (scr0 vs)) (hints : IntsAre vs ns) (few : ns.length ≤ sizeLine) (room : Room k callerA)
    (F : ∀ base : Heap, K.In base → base.Ns mainGlobals mg → (∀ p ∈ cs, TabB base mg p.1 p.2) → FnG P w K mg base k fa fd [x] sp) (binds : ∀ (s : Shared) (u : Value), BindsTo s fd ⟨[u], []⟩ [(x, u)])
    (keeps : ∀ H : Hp, (∀ p ∈ cs, H p.2 = some (.tbl #[])) → SqL K H a (ns.map V.int) → sp [.ref a] H (fun v _ => v = .bl true) fun _ _ _ => False) :
    codeAny (model P w) callerA (.call (.ref fa) ⟨[.ref a], []⟩) (fun r s' => r = .ok (.ret (.bool true)) ∧ OldK s.heap s'.heap ∧ s'.os = s.os ∧ AllBare s'.gens) s := by
  obtain ⟨ts, ets⟩ : ∃ ts, ts = cs.map (·.2) := ⟨_, rfl⟩
  have inTs : ∀ p ∈ cs, p.2 ∈ ts := fun p hp => by rw [ets]; exact List.mem_map.mpr ⟨p, hp, rfl⟩
  have ofTs : ∀ b ∈ ts, ∃ p ∈ cs, p.2 = b := fun b hb => by rw [ets] at hb; exact List.mem_map.mp hb
  have tabAt : ∀ b ∈ ts, s.heap.get? b = some tab0 := fun b hb => by
    obtain ⟨p, hp, rfl⟩ := ofTs b hb
    exact tabs p hp
  have aOut : a ∉ ts := fun z => by
    have e := congrArg Obj.data (Option.some.inj (scr.symm.trans (tabAt a z)))
    cases e
  have free : ∀ {b : Addr} {o : Obj}, s.heap.get? b = some o → o.data ≠ .fields #[] → (∀ xs n, o.data ≠ .seq xs n) → hp0 K ts a vs ns b = none := fun e n1 n2 => hp0_none tabAt scr e (ne_tab n1) (ne_scr n2)
  have hide : ∀ {b : Addr} {o : Obj}, s.heap.get? b = some o → o.data ≠ .fields #[] → (∀ xs n, o.data ≠ .seq xs n) → (hidT s.heap (hp0 K ts a vs ns)).get? b = some o := fun e n1 n2 => hidT_get e (free e n1 n2)
  have dct : ∀ {b : Addr} {m : Str → Option Value}, s.heap.Ns b m → (hidT s.heap (hp0 K ts a vs ns)).Ns b m := fun {b m} ⟨o, es, ep, e, d, r⟩ =>
    ⟨o, es, ep, hide e (by rw [d]; exact fun z => by cases z) (by rw [d]; exact fun _ _ z => by cases z), d, r⟩
  have rv := vals_ints hints
  -- the heap without the tracked objects
  have kIn : K.In (hidT s.heap (hp0 K ts a vs ns)) := fun b o e => hidT_get (inK b o e) (by
    rcases hp0_cases (K := K) (ts := ts) (a := a) (vs := vs) (ns := ns) b with ⟨q, _⟩ | ⟨_, rfl, q, _⟩ | q
    · obtain ⟨p, hp, rfl⟩ := ofTs b q
      rw [out p hp] at e
      cases e
    · rw [q] at e
      cases e
    · exact q)
  have md : L2.Mod K mg (hidT s.heap (hp0 K ts a vs ns)) := ⟨kIn, dct nsG, ⟨mb, dct nsB, boot⟩, by obtain ⟨mc, h1, h2⟩ := lim; exact ⟨mc, dct h1, h2⟩⟩
  have tb : ∀ p ∈ cs, TabB (hidT s.heap (hp0 K ts a vs ns)) mg p.1 p.2 := fun p hp => by
    have et := tabs p hp
    constructor
    · obtain ⟨o, us, file, tf, flags, tg, inF, text, tt, e1, c1, c2, c3, rest⟩ := codes p hp
      refine ⟨o, us, file, tf, flags, tg, inF, text, tt, hide e1 (fun z => ?_) (fun _ _ z => ?_), c1, c2, c3, rest⟩
      · rw [c2] at z
        injection z with z
        rw [z] at c3
        simp at c3
      · rw [c2] at z
        cases z
    · obtain ⟨m, o, b1, b2, b3, b4, b5, b6⟩ := bm
      refine ⟨m, o, b1, b2, fun q => ?_, fun q => ?_, hide b3 (by rw [b6]; exact fun z => by cases z) (by rw [b6]; exact fun _ _ z => by cases z), b4, b5, b6⟩
      · obtain ⟨g, es, ep, eg, dg, _⟩ := nsG
        rw [q] at b3
        have := Option.some.inj (b3.symm.trans eg)
        rw [this, dg] at b6
        cases b6
      · rw [q] at b3
        have := Option.some.inj (b3.symm.trans et)
        rw [this] at b6
        cases b6
    · intro z
      obtain ⟨g, es, ep, eg, dg, _⟩ := nsG
      rw [z] at eg
      have := Option.some.inj (eg.symm.trans et)
      rw [this] at dg
      cases dg
  -- the tracked objects are as they stand
  have hok : HOk P w (hp0 K ts a vs ns) s.heap := fun b u e => by
    rcases hp0_cases (K := K) (ts := ts) (a := a) (vs := vs) (ns := ns) b with ⟨q, z⟩ | ⟨_, rfl, _, z⟩ | z
    · rw [z] at e
      cases e
      exact tabAt b q
    · rw [z] at e
      cases e
      exact ⟨scr, by rw [List.length_map]; exact few, vs, _, rv, scr⟩
    · rw [z] at e
      cases e
  have list : SqL K (hp0 K ts a vs ns) a (ns.map V.int) := by
    cases q : K.lookup a with
    | none => exact .inl (.inr ⟨scr0 vs, (if_neg aOut).trans (if_pos ⟨rfl, q⟩)⟩)
    | some o =>
      have e := Option.some.inj ((inK a o q).symm.trans scr)
      subst e
      exact .inr ⟨_, vs.toArray, _, q, rfl, rfl, rfl, by rw [List.size_toArray, hints.length]; exact few, by simpa using rv⟩
  have ev : Env0 P w K mg (hidT s.heap (hp0 K ts a vs ns)) callerA [] s (hp0 K ts a vs ns) :=
    ⟨rfl, md, fun b o e => of_hidT e, Nat.le_of_eq (hidT_size _ _), trivial, fun b hb => absurd hb List.not_mem_nil, hok, .of_eq gens⟩
  refine codeAny_mono ((F _ kIn (dct nsG) tb).run callerA [] s _ ⟨[.ref a], []⟩ [.ref a] [.ref a] _ _ rfl room ev (binds s (.ref a)) (.cons rfl .nil) (keeps _ (fun p hp => hp0_tab (inTs p hp)) list)) ?_
  intro r s' h
  match r, h with
  | .error e, h => exact h.elim
  | .ok .next, h => exact h.elim
  | .ok .brk, h => exact h.elim
  | .ok .cont, h => exact h.elim
  | .ok (.ret u), ⟨v, H', os, bare, un, hok', rel, ans⟩ =>
    have ev : v = .bl true := ans
    subst ev
    have eu : u = Value.bool true := rel
    subst eu
    have more : ∀ b ∈ ts, ∃ xs : Array Value, s'.heap.get? b = some { cls := .none, data := .fields xs } := fun b hb => by
      obtain ⟨xs, z⟩ := un.tbls b #[] (hp0_tab hb)
      exact ⟨_, hok' b _ z⟩
    have same : ∀ b o, b ∉ ts → s.heap.get? b = some o → s'.heap.get? b = some o := fun b o nb e => by
      rcases hp0_cases (K := K) (ts := ts) (a := a) (vs := vs) (ns := ns) b with ⟨q, _⟩ | ⟨_, rfl, _, z⟩ | z
      · exact absurd q nb
      · have e2 := (hok' b _ (un.frzs b _ _ z)).1
        rw [Option.some.inj (e.symm.trans scr)]
        exact e2
      · exact un.keep b o e z List.not_mem_nil List.not_mem_nil
    refine ⟨rfl, ⟨fun b o e => ?_, fun b o e => ?_⟩, os, bare⟩
    · by_cases hb : b ∈ ts
      · obtain ⟨p, hp, rfl⟩ := ofTs b hb
        obtain ⟨xs, z⟩ := more _ hb
        have eo := Option.some.inj (e.symm.trans (tabs p hp))
        subst eo
        exact .inr (.inl ⟨((codes p hp).tab (tabs p hp)).isCodeTable, rfl, #[], xs, rfl, by rw [Array.empty_append]; exact z⟩)
      · exact .inl (same b o hb e)
    · by_cases hb : b ∈ ts
      · obtain ⟨xs, z⟩ := more _ hb
        exact ⟨_, z⟩
      · exact ⟨o, same b o hb e⟩
end
/-- what the head must tell of the law's def -/
structure LawG (l : PySem.W.OpenLaw) (w : World) (K : PySem.W.Frag) (k n : Nat) (x : Str) (mg : Str → Option Value) (fa : Addr) (h : Heap) : Prop where
  ex : ∃ (fd : FuncData) (cs : List (Addr × Addr)) (sp : Sp), (∀ p ∈ cs, h.get? p.2 = some tab0 ∧ K.lookup p.2 = none ∧ PySem.W.CodeHd h p.1 p.2) ∧ (∀ (s : Shared) (u : Value), BindsTo s fd ⟨[u], []⟩ [(x, u)]) ∧
    (∀ (H : Hp) (a : Addr) (ns : List Int), ns.length ≤ n → (∀ p ∈ cs, H p.2 = some (.tbl #[])) → SqL K H a (ns.map V.int) → sp [.ref a] H (fun v _ => v = .bl true) fun _ _ _ => False) ∧
    ∀ base : Heap, K.In base → base.Ns mainGlobals mg → (∀ p ∈ cs, TabB base mg p.1 p.2) → FnG l.prog w K mg base k fa fd [x] sp
theorem walkG {l : PySem.W.OpenLaw} {n k : Nat} {q : Program} {loose : List Str} {XP : (Str → Option Value) → Heap → Prop} {YP : World → Heap → Prop} {d : DefRec} {x : Str} (hn : l.most = some n) (hs : n ≤ sizeLine) (hd : d.params.defaults = []) (room : Room k callerA)
    (F : ∀ (w : World) (mg : Str → Option Value) (fa : Addr) (h : Heap), YP w h → h.Ns mainGlobals mg → mg d.name = some (.ref fa) → ∃ K : PySem.W.Frag, K.In h ∧ LawG l w K k n x mg fa h) :
    PySem.W.WalkO q loose XP YP l.row.toRowW d [] (fun f vs => PySem.call f vs) := by
  refine Att.attach_callB hn hd ?_
  intro w s₀ s₁ mg mb fa o pm cd doc a vs ns G Y ho hdat hcd hmg hobj hints hlen hbits hg
  obtain ⟨K, inK, L⟩ := F w mg fa _ Y G.T.g hmg
  obtain ⟨fd, cs, sp, hc, hb, hsp, hF⟩ := L.ex
  exact callG (sp := sp) inK G.T.g G.T.b G.T.builtins G.T.nolimit hg (fun p hp => (hc p hp).1) (fun p hp => (hc p hp).2.1) (fun p hp => (hc p hp).2.2) G.T.bmain hobj hints (Nat.le_trans hlen hs) room hF hb fun H hH hS => hsp H a ns hlen hH hS
end Dat

set_option Elab.async false
set_option linter.all false
set_option maxRecDepth 100000
set_option maxHeartbeats 0
/-! The head: what stands behind the top; the law at every script. -/
namespace Dat
open PySem PySem.Spec PyProof.Rows L2 LamX
def d_islike : He.DefD := ⟨("is_like", none), "is_like", "is_like", defArgs s_islike, defBody s_islike, defScope s_islike, [], []⟩
def d_keyof : He.DefD := ⟨("key_of", none), "key_of", "key_of", defArgs s_keyof, defBody s_keyof, defScope s_keyof, [], []⟩
def d_lfeed : He.DefD := ⟨("_law_feed", none), "_law_feed", "_law_feed", defArgs s_lfeed, defBody s_lfeed, defScope s_lfeed, [], []⟩
def d_ldraw : He.DefD := ⟨("_law_draw", none), "_law_draw", "_law_draw", defArgs s_ldraw, defBody s_ldraw, defScope s_ldraw, [], []⟩
def d_lplain : He.DefD := ⟨("_law_plain", none), "_law_plain", "_law_plain", defArgs s_lplain, defBody s_lplain, defScope s_lplain, [], []⟩
def d_lvalue : He.DefD := ⟨("_law_value", none), "_law_value", "_law_value", defArgs s_lvalue, defBody s_lvalue, defScope s_lvalue, [], []⟩
def d_ltree : He.DefD := ⟨("_law_tree", none), "_law_tree", "_law_tree", defArgs s_ltree, defBody s_ltree, defScope s_ltree, [], []⟩
def d_ldocument : He.DefD := ⟨("_law_document", none), "_law_document", "_law_document", defArgs s_ldocument, defBody s_ldocument, defScope s_ldocument, [], []⟩
def d_lrank : He.DefD := ⟨("_law_rank", none), "_law_rank", "_law_rank", defArgs s_lrank, defBody s_lrank, defScope s_lrank, [], []⟩
def d_lissame : He.DefD := ⟨("_law_is_same", none), "_law_is_same", "_law_is_same", defArgs s_lissame, defBody s_lissame, defScope s_lissame, [], []⟩
def d_law : He.DefD := ⟨("law", none), "law", "law", defArgs s_law, defBody s_law, defScope s_law, [], []⟩
def fnH : List He.DefD := [d_islike, d_keyof, d_lfeed, d_ldraw, d_lplain, d_lvalue, d_ltree, d_ldocument, d_lrank, d_lissame, d_law]
def faH : List He.Fa := [.glo "is_like", .glo "key_of", .glo "_law_feed", .glo "_law_draw", .glo "_law_plain", .glo "_law_value", .glo "_law_tree", .glo "_law_document", .glo "_law_rank", .glo "_law_is_same", .glo "law", .free "len", .free "min", .free "isinstance", .free "repr", .free "all", .free "sorted", .free "tuple", .free "bool", .free "int", .free "str", .free "range", .free "zip"]
def tfH : List He.Defn := [("_law_tree", none), ("law", none)]
def exH (K : PySem.W.Frag) : Bool := decide ((He.cT K ("_law_tree", none)).2 ≠ (He.cT K ("law", none)).2)
abbrev RH : PySem.W.OpenRow := PySem.W.OpenLaw.row PySem.Challenge.rw_pathfolios_k03_like_and_keys
abbrev hkH : PySem.W.Hook := He.hookX 4 faH fnH [] tfH exH
def obH (s : PySem.W.SharedT) : He.AlX := He.obsX 4 faH fnH [] tfH exH (HandSHeadRun.getT s)
theorem obH_eq (s : PySem.W.SharedT) : obH s = hkH.obs s.abs := He.obsX_eq (HandSHeadRun.getT_eq s)
def looseH : List Str := ["is_like", "key_of", "_law_feed", "_law_draw", "_law_plain", "_law_value", "_law_tree", "_law_document", "_law_rank", "_law_is_same"]
theorem runH (w : World) : HandSHeadRun.RunEq RH (PySem.W.view RH.prog [12]) hkH obH 900 looseH w := by
  intro os
  kernel_rfl
theorem fun_of {K : PySem.W.Frag} {x : Str} {st : Stmt} {f : Addr} {fd : FuncData} (F : FunD K x x (defArgs st) (defBody st) (defScope st) [] [] f fd) : Fun K x x st f fd := by
  obtain ⟨oc, od, dV, kV, doc, pm, an, cdv, ct, osl, e, lk, hcd, hD, _⟩ := F.ex
  rcases hD with ⟨_, rfl⟩ | ⟨z, _⟩
  · exact ⟨⟨oc, od, kV, doc, pm, an, cdv, ct, osl, e, lk, hcd⟩, F.kp⟩
  · exact absurd rfl z
theorem funC_of {K : PySem.W.Frag} {x : Str} {st : Stmt} {fd : FuncData} (F : Fun K x x st (He.fAd K (x, none)) fd) : FunC K x x st (He.fAd K (x, none)) fd (.ref (He.cT K (x, none)).1) := by
  obtain ⟨oc, od, kV, doc, pm, an, cdv, ct, osl, e, lk, hcd⟩ := F.ex
  obtain ⟨c, rfl⟩ := He.codeIn_ref hcd
  have ec : (He.cT K (x, none)).1 = c := He.codeOf_eq lk (by rw [e])
  rw [ec]
  exact ⟨⟨oc, od, kV, doc, pm, an, ct, osl, e, lk, hcd⟩, F.kp⟩
theorem tabS_new {H : Hp} {P : Addr} {q : Str} (h : H P = some (.tbl #[])) : TabS H P q := ⟨#[], h, trivial, fun pos cv z => by cases z⟩
theorem facts {w : World} {h : Heap} {K : PySem.W.Frag} {mg : Str → Option Value} {fa : Addr} (inK : K.In h) (G : h.Ns mainGlobals mg) (hfa : mg ("law" : Str) = some (.ref fa)) (c : He.SaysX faH fnH [] tfH exH w h K) : LawG PySem.Challenge.rw_pathfolios_k03_like_and_keys w K 21 63 "_law_script" mg fa h := by
  have cd : He.SaysD faH fnH K := c.t.d
  obtain ⟨fd_islike, F_islike⟩ := cd.def_ 0 (d := d_islike) rfl
  obtain ⟨fd_keyof, F_keyof⟩ := cd.def_ 1 (d := d_keyof) rfl
  obtain ⟨fd_lfeed, F_lfeed⟩ := cd.def_ 2 (d := d_lfeed) rfl
  obtain ⟨fd_ldraw, F_ldraw⟩ := cd.def_ 3 (d := d_ldraw) rfl
  obtain ⟨fd_lplain, F_lplain⟩ := cd.def_ 4 (d := d_lplain) rfl
  obtain ⟨fd_lvalue, F_lvalue⟩ := cd.def_ 5 (d := d_lvalue) rfl
  obtain ⟨fd_ltree, F_ltree⟩ := cd.def_ 6 (d := d_ltree) rfl
  obtain ⟨fd_ldocument, F_ldocument⟩ := cd.def_ 7 (d := d_ldocument) rfl
  obtain ⟨fd_lrank, F_lrank⟩ := cd.def_ 8 (d := d_lrank) rfl
  obtain ⟨fd_lissame, F_lissame⟩ := cd.def_ 9 (d := d_lissame) rfl
  obtain ⟨fd_law, F_law⟩ := cd.def_ 10 (d := d_law) rfl
  have g_islike : mg "is_like" = some (.ref (He.ga K "is_like")) := He.glo_ok inK G (cd.fact 0 (f := .glo "is_like") rfl)
  have g_keyof : mg "key_of" = some (.ref (He.ga K "key_of")) := He.glo_ok inK G (cd.fact 1 (f := .glo "key_of") rfl)
  have g_lfeed : mg "_law_feed" = some (.ref (He.ga K "_law_feed")) := He.glo_ok inK G (cd.fact 2 (f := .glo "_law_feed") rfl)
  have g_ldraw : mg "_law_draw" = some (.ref (He.ga K "_law_draw")) := He.glo_ok inK G (cd.fact 3 (f := .glo "_law_draw") rfl)
  have g_lplain : mg "_law_plain" = some (.ref (He.ga K "_law_plain")) := He.glo_ok inK G (cd.fact 4 (f := .glo "_law_plain") rfl)
  have g_lvalue : mg "_law_value" = some (.ref (He.ga K "_law_value")) := He.glo_ok inK G (cd.fact 5 (f := .glo "_law_value") rfl)
  have g_ltree : mg "_law_tree" = some (.ref (He.ga K "_law_tree")) := He.glo_ok inK G (cd.fact 6 (f := .glo "_law_tree") rfl)
  have g_ldocument : mg "_law_document" = some (.ref (He.ga K "_law_document")) := He.glo_ok inK G (cd.fact 7 (f := .glo "_law_document") rfl)
  have g_lrank : mg "_law_rank" = some (.ref (He.ga K "_law_rank")) := He.glo_ok inK G (cd.fact 8 (f := .glo "_law_rank") rfl)
  have g_lissame : mg "_law_is_same" = some (.ref (He.ga K "_law_is_same")) := He.glo_ok inK G (cd.fact 9 (f := .glo "_law_is_same") rfl)
  have g_law : mg "law" = some (.ref (He.ga K "law")) := He.glo_ok inK G (cd.fact 10 (f := .glo "law") rfl)
  have m_len : mg "len" = none := He.free_ok inK G (cd.fact 11 (f := .free "len") rfl)
  have m_min : mg "min" = none := He.free_ok inK G (cd.fact 12 (f := .free "min") rfl)
  have m_isinstance : mg "isinstance" = none := He.free_ok inK G (cd.fact 13 (f := .free "isinstance") rfl)
  have m_repr : mg "repr" = none := He.free_ok inK G (cd.fact 14 (f := .free "repr") rfl)
  have m_all : mg "all" = none := He.free_ok inK G (cd.fact 15 (f := .free "all") rfl)
  have m_sorted : mg "sorted" = none := He.free_ok inK G (cd.fact 16 (f := .free "sorted") rfl)
  have m_tuple : mg "tuple" = none := He.free_ok inK G (cd.fact 17 (f := .free "tuple") rfl)
  have m_bool : mg "bool" = none := He.free_ok inK G (cd.fact 18 (f := .free "bool") rfl)
  have m_int : mg "int" = none := He.free_ok inK G (cd.fact 19 (f := .free "int") rfl)
  have m_str : mg "str" = none := He.free_ok inK G (cd.fact 20 (f := .free "str") rfl)
  have m_range : mg "range" = none := He.free_ok inK G (cd.fact 21 (f := .free "range") rfl)
  have m_zip : mg "zip" = none := He.free_ok inK G (cd.fact 22 (f := .free "zip") rfl)
  have D_islike : DefG K mg "is_like" s_islike := ⟨_, _, fun_of F_islike, g_islike⟩
  have D_keyof : DefG K mg "key_of" s_keyof := ⟨_, _, fun_of F_keyof, g_keyof⟩
  have D_lfeed : DefG K mg "_law_feed" s_lfeed := ⟨_, _, fun_of F_lfeed, g_lfeed⟩
  have D_ldraw : DefG K mg "_law_draw" s_ldraw := ⟨_, _, fun_of F_ldraw, g_ldraw⟩
  have D_lplain : DefG K mg "_law_plain" s_lplain := ⟨_, _, fun_of F_lplain, g_lplain⟩
  have D_lvalue : DefG K mg "_law_value" s_lvalue := ⟨_, _, fun_of F_lvalue, g_lvalue⟩
  have D_ltree : DefC K mg "_law_tree" s_ltree (.ref (He.cT K ("_law_tree", none)).1) := ⟨_, _, funC_of (fun_of F_ltree), g_ltree⟩
  have D_ldocument : DefG K mg "_law_document" s_ldocument := ⟨_, _, fun_of F_ldocument, g_ldocument⟩
  have D_lrank : DefG K mg "_law_rank" s_lrank := ⟨_, _, fun_of F_lrank, g_lrank⟩
  have D_lissame : DefG K mg "_law_is_same" s_lissame := ⟨_, _, fun_of F_lissame, g_lissame⟩
  have D_law : DefC K mg "law" s_law (.ref (He.cT K ("law", none)).1) := ⟨_, _, funC_of (fun_of F_law), g_law⟩
  have e := hfa.symm.trans g_law
  cases e
  have b := FunD.bindsA (ps := ["_law_script"]) F_law fun _ _ _ _ _ _ us hl => match us, hl with | [_], _ => rfl
  have ht : (("_law_tree", none) : He.Defn) ∈ tfH := by simp [tfH]
  have hl : (("law", none) : He.Defn) ∈ tfH := by simp [tfH]
  have ne : (He.cT K ("_law_tree", none)).2 ≠ (He.cT K ("law", none)).2 := of_decide_eq_true c.more
  refine ⟨fd_law, [He.cT K ("_law_tree", none), He.cT K ("law", none)], spLaw K [((He.cT K ("_law_tree", none)).2, lamQ "_law_tree"), ((He.cT K ("law", none)).2, lamQ "law")], fun p hp => ?_, fun s v => b s [v] rfl, fun H a ns hlen hH hS => ?_, fun base inB GB TB => ?_⟩
  · simp only [List.mem_cons, List.not_mem_nil, or_false] at hp
    rcases hp with z | z <;> rw [z]
    · exact ⟨c.empty _ ht, c.out _ ht, PySem.W.codeHd_of_K inK (c.hd _ ht)⟩
    · exact ⟨c.empty _ hl, c.out _ hl, PySem.W.codeHd_of_K inK (c.hd _ hl)⟩
  · refine ⟨a, ns, rfl, hS, hlen, fun p hp => ?_, fun _ => rfl⟩
    simp only [List.mem_cons, List.not_mem_nil, or_false] at hp
    rcases hp with z | z <;> rw [z]
    · exact tabS_new (hH _ (by simp))
    · exact tabS_new (hH _ (by simp))
  · have mt : ((He.cT K ("_law_tree", none)).2, lamQ "_law_tree") ∈ [((He.cT K ("_law_tree", none)).2, lamQ "_law_tree"), ((He.cT K ("law", none)).2, lamQ "law")] := by simp
    have ml : ((He.cT K ("law", none)).2, lamQ "law") ∈ [((He.cT K ("_law_tree", none)).2, lamQ "_law_tree"), ((He.cT K ("law", none)).2, lamQ "law")] := by simp
    have c_ldraw := ok_ldraw (P := (PySem.Challenge.rw_pathfolios_k03_like_and_keys).prog) (w := w) (base := base) D_ldraw m_len
    have c_lfeed := (ok_lfeed (P := (PySem.Challenge.rw_pathfolios_k03_like_and_keys).prog) (w := w) (base := base) D_lfeed).mono (k := 20) (by decide)
    have c_lplain := ok_lplain D_lplain c_ldraw
    have c_ltree := ok_ltree D_ltree (TB _ (by simp)) mt (fun p hp z => by
      simp only [List.mem_cons, List.not_mem_nil, or_false] at hp
      rcases hp with q | q
      · rw [q]
      · rw [q] at z
        exact absurd z.symm ne) c_ldraw m_len m_sorted m_tuple
    have c_lvalue := ok_lvalue D_lvalue c_ldraw c_lplain c_ltree m_min m_range m_tuple
    have c_ldocument := (ok_ldocument D_ldocument c_ldraw (c_lvalue 3) c_ltree m_range).mono (k := 20) (by decide)
    have c_islike := (ok_islike (P := (PySem.Challenge.rw_pathfolios_k03_like_and_keys).prog) (w := w) (base := base) D_islike m_isinstance m_tuple m_bool m_len m_all m_zip 15).mono (k := 20) (by decide)
    have c_lissame := (ok_lissame (P := (PySem.Challenge.rw_pathfolios_k03_like_and_keys).prog) (w := w) (base := base) D_lissame m_isinstance m_tuple m_bool m_str m_len m_range 15).mono (k := 20) (by decide)
    have c_keyof := ok_keyof (P := (PySem.Challenge.rw_pathfolios_k03_like_and_keys).prog) (w := w) (base := base) D_keyof m_isinstance m_bool m_int
    have c_lrank := ok_lrank (P := (PySem.Challenge.rw_pathfolios_k03_like_and_keys).prog) (w := w) (base := base) D_lrank m_isinstance m_bool m_str
    exact ok_law (funC_of (fun_of F_law)) (TB _ (by simp)) ml (fun p hp z => by
      simp only [List.mem_cons, List.not_mem_nil, or_false] at hp
      rcases hp with q | q
      · rw [q] at z
        exact absurd z ne
      · rw [q]) c_lfeed c_ldocument ((c_lvalue 2).mono (by decide)) c_islike c_lissame c_keyof c_lrank m_range m_tuple m_repr m_sorted m_isinstance m_bool m_str m_int m_len
end Dat
open PySem PySem.W PySem.Calls PyProof.Rows
theorem PySem.Challenge.cw_pathfolios_k03_like_and_keys_holds : PySem.Challenge.rw_pathfolios_k03_like_and_keys.Holds := by
  w_on; o_law
  refine HandSHeadRun.head_any (r := OpenLaw.row PySem.Challenge.rw_pathfolios_k03_like_and_keys) (q := view (OpenLaw.row PySem.Challenge.rw_pathfolios_k03_like_and_keys).prog [12]) (H := Dat.hkH) (ob := Dat.obH) (M := 900) (loose := Dat.looseH) (d := HandSHeadRun.topDef (OpenLaw.row PySem.Challenge.rw_pathfolios_k03_like_and_keys).prog 12) (kwd := []) Dat.obH_eq
    (by kernel_rfl) (fun s => by kernel_rfl) Dat.runH (by kernel_rfl) (by kernel_rfl) (by kernel_rfl) (by rfl) (by first | assumption | decide +kernel) (by decide +kernel) ⟨rfl, rfl, rfl, rfl, rfl, by decide +kernel⟩ ?hw ?hc
  case hw => w_witness2
  case hc =>
    refine Dat.walkG (l := PySem.Challenge.rw_pathfolios_k03_like_and_keys) (n := 63) (k := 21) (x := "_law_script") rfl (by decide) (by kernel_rfl) ⟨rfl, by decide, by decide⟩ ?F
    intro w mg fa h Y G hmg0
    obtain ⟨K, inK, c⟩ := Y
    have hmg : mg ("law" : PySem.Str) = some (.ref fa) := by
      have e : (HandSHeadRun.topDef (OpenLaw.row PySem.Challenge.rw_pathfolios_k03_like_and_keys).prog 12).name = ("law" : PySem.Str) := by kernel_rfl
      rw [← e]
      exact hmg0
    exact ⟨K, inK, Dat.facts inK G hmg c⟩
