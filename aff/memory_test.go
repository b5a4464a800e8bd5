package aff_test

import (
	"reflect"
	"slices"
	"testing"
	"unsafe"

	"pantograph/aff"
	"pantograph/api"
)

const spare = 0xa5a5a5a5

// handed is what calls are handed in.
type handed struct {
	e    api.Expr
	v    aff.Env
	at   []api.Rat
	a, b api.Con
	by   api.Rat
}

// answered is what they answer.
type answered struct {
	of, sum, scaled    api.Con
	number, total      api.Rat
	ofErr, numberErr   api.Errno
	is, isOne, isOther bool
}

func ask(h handed) answered {
	var x answered
	x.of, x.ofErr = aff.Of(h.e, h.v)
	x.number, x.numberErr = aff.Value(h.e, h.v, h.at)
	x.sum, x.scaled, x.total = aff.Add(h.a, h.b), aff.Scale(h.a, h.by), aff.At(h.a, h.at)
	x.is, x.isOne, x.isOther = aff.Is(h.a, 3), aff.Same(h.a, h.a), aff.Same(h.a, h.b)
	return x
}

// equalAnswers tells whether two are written alike.
func equalAnswers(x, y answered) bool {
	return alikeSums(x.of, y.of) && alikeSums(x.sum, y.sum) && alikeSums(x.scaled, y.scaled) && alike(x.number, y.number) && alike(x.total, y.total) &&
		x.ofErr == y.ofErr && x.numberErr == y.numberErr && x.is == y.is && x.isOne == y.isOne && x.isOther == y.isOther
}

// room is a list of copies with room behind its end, which has a mark in it.
func room[T any](list []T, mark T, copyOf func(T) T) []T {
	copies := make([]T, 0, len(list)+1)
	for _, x := range list {
		copies = append(copies, copyOf(x))
	}
	return append(copies, mark)[:len(list)]
}

func same[T any](x T) T { return x }

func roomyRat(a api.Rat) api.Rat {
	return ratOf(a.Neg, room(a.N, spare, same), room(a.D, spare, same))
}

func roomyTerm(t api.Term) api.Term { return term(t.Var, roomyRat(t.C)) }

func roomyCon(a api.Con) api.Con {
	return con(a.Strength, roomyRat(a.K), room(a.Terms, term(2, whole(9)), roomyTerm)...)
}

func roomyExpr(e api.Expr) api.Expr {
	return api.Expr{Kind: e.Kind, Num: roomyRat(e.Num), Name: e.Name, Kids: room(e.Kids, named("x"), roomyExpr)}
}

// roomy is a copy whose lists have marked room: a mark that was taken for what
// stands in the list would change an answer.
func roomy(h handed) handed {
	return handed{
		e: roomyExpr(h.e), at: room(h.at, whole(5), roomyRat), a: roomyCon(h.a), b: roomyCon(h.b), by: roomyRat(h.by),
		v: aff.Env{Vars: room(h.v.Vars, "n", same), Names: room(h.v.Names, "n", same), Vals: room(h.v.Vals, whole(6), roomyRat)},
	}
}

// all is a list with its spare room.
func all[T any](list []T) []T { return list[:cap(list)] }

// lists goes to all lists of a value, as far as they reach with their room.
func lists(v reflect.Value, visit func(list reflect.Value)) {
	switch v.Kind() {
	case reflect.Struct:
		for _, field := range v.Fields() {
			lists(field, visit)
		}
	case reflect.Slice:
		v = v.Slice(0, v.Cap())
		for i := range v.Len() {
			lists(v.Index(i), visit)
		}
		visit(v)
	}
}

// listsOf are they, each as the place where it begins and the one behind its
// end.
func listsOf(values ...any) [][2]uintptr {
	var spans [][2]uintptr
	for _, x := range values {
		lists(reflect.ValueOf(x), func(list reflect.Value) {
			if size := uintptr(list.Cap()) * list.Type().Elem().Size(); size > 0 {
				spans = append(spans, [2]uintptr{list.Pointer(), list.Pointer() + size})
			}
		})
	}
	return spans
}

func unfoldedRat(a api.Rat) api.Rat {
	return ratOf(a.Neg, slices.Clone(all(a.N)), slices.Clone(all(a.D)))
}

func unfoldedCon(a api.Con) api.Con {
	list := slices.Clone(all(a.Terms))
	for i := range list {
		list[i].C = unfoldedRat(list[i].C)
	}
	return con(a.Strength, unfoldedRat(a.K), list...)
}

func unfoldedRats(list []api.Rat) []api.Rat {
	copies := slices.Clone(all(list))
	for i := range copies {
		copies[i] = unfoldedRat(copies[i])
	}
	return copies
}

func unfoldedExpr(e api.Expr) api.Expr {
	kids := slices.Clone(all(e.Kids))
	for i := range kids {
		kids[i] = unfoldedExpr(kids[i])
	}
	return api.Expr{Kind: e.Kind, Num: unfoldedRat(e.Num), Name: e.Name, Kids: kids}
}

// unfolded is a copy of all that can be reached: lists go on to the end of
// their room.
func unfolded(h handed) handed {
	return handed{
		e: unfoldedExpr(h.e), at: unfoldedRats(h.at), a: unfoldedCon(h.a), b: unfoldedCon(h.b), by: unfoldedRat(h.by),
		v: aff.Env{Vars: slices.Clone(all(h.v.Vars)), Names: slices.Clone(all(h.v.Names)), Vals: unfoldedRats(h.v.Vals)},
	}
}

// spoil changes all of a list, with its spare room.
func spoil[T any](list []T, with T) {
	for i := range all(list) {
		all(list)[i] = with
	}
}

func spoilRat(a api.Rat) {
	spoil(a.N, 0x5a5a5a5a)
	spoil(a.D, 0x5a5a5a5a)
}

func spoilRats(list []api.Rat) {
	for _, a := range list {
		spoilRat(a)
	}
	spoil(list, whole(77))
}

func spoilCon(a api.Con) {
	for _, t := range a.Terms {
		spoilRat(t.C)
	}
	spoilRat(a.K)
	spoil(a.Terms, term(1, whole(77)))
}

func spoilExpr(e api.Expr) {
	for _, kid := range e.Kids {
		spoilExpr(kid)
	}
	spoilRat(e.Num)
	spoil(e.Kids, named("y"))
}

func spoilHanded(h handed) {
	spoilExpr(h.e)
	spoil(h.v.Vars, "spoilt")
	spoil(h.v.Names, "spoilt")
	spoilRats(h.v.Vals)
	spoilRats(h.at)
	spoilCon(h.a)
	spoilCon(h.b)
	spoilRat(h.by)
}

func spoilAnswered(x answered) {
	spoilCon(x.of)
	spoilCon(x.sum)
	spoilCon(x.scaled)
	spoilRat(x.number)
	spoilRat(x.total)
}

// offers are what the tests of memory hand in.
func offers() []handed {
	sums := []api.Con{
		{}, con(0, whole(0)), con(1, small(1, 2), row(0, 1)...), con(2, small(6, 4), row(0, -1, 1, 2)...), con(3, whole(-7), term(1, small(2, 3)), term(2, small(-4, 6))),
		con(4, ratOf(true, []uint32{1, 2, 3}, []uint32{0, 0, 1}), row(0, 1, 1, -2, 2, 3)...), con(0, small(5, 0), term(0, api.Rat{}), term(1, small(4, 2)), term(3, small(1, 3))), con(0, whole(1), row(2, 1, 0, 1, -1, 5)...),
	}
	texts := []string{"x", "k", "0", "1", "2.5", "-x", "-k", "-0", "x+y", "x+k", "x-x", "k-k", "x*k", "0*x", "k*x", "x/k", "k/j", "2*(x+1)-x", "x*y", "1/x", "1/0", "n", "x-y-z+1", "(x+y)*h/j-k*z", "1+1", "x+0", "0+x", "1*x", "x*1", "x/1", "--x"}
	var list []handed
	for i, text := range texts {
		for j, a := range sums {
			b := sums[(i+j)%len(sums)]
			by := []api.Rat{whole(1), whole(0), small(-2, 3), small(6, 4), {}, whole(-1)}[(i+2*j)%6]
			list = append(list, handed{e: tree(text), v: usual(), at: []api.Rat{whole(3), small(4, 6), {}}[:(i+j)%4], a: a, b: b, by: by})
		}
	}
	for _, e := range badExprs() {
		list = append(list, handed{e: e, v: usual(), a: sums[2], b: sums[3], by: whole(1)})
	}
	for _, a := range rough() {
		v := aff.Env{Vars: []string{"x", "x"}, Names: []string{"x", "k", "k", "j"}, Vals: []api.Rat{a, a, a}}
		list = append(list, handed{e: tree("k"), v: v, at: []api.Rat{a}, a: con(0, a, term(0, a)), b: con(0, a, term(0, a), term(1, a)), by: a})
		list = append(list, handed{e: tree("x"), v: v, at: []api.Rat{a}, a: con(0, a), b: con(0, a, term(0, a)), by: a})
		list = append(list, handed{e: tree("j+x*k"), v: v, at: []api.Rat{a}, a: con(0, a), b: con(0, a), by: whole(1)})
	}
	return list
}

// P8.4: what is handed in is neither changed nor kept.
func TestNothingIsChangedOrKept(t *testing.T) {
	for _, was := range offers() {
		want := ask(was)
		h := roomy(was)
		before := unfolded(h)
		got := ask(h)
		if !reflect.DeepEqual(unfolded(h), before) {
			t.Fatal("what is handed in is changed:", was)
		}
		if !equalAnswers(got, want) {
			t.Fatal("what stands behind a list's end is read:", was, got, want)
		}
		spoilHanded(h)
		if !equalAnswers(got, want) {
			t.Fatal("what is answered is what was handed in:", was)
		}
		spoilAnswered(got)
		if again := ask(roomy(was)); !equalAnswers(again, want) {
			t.Fatal("a call answers something else the second time:", was, again, want)
		}
	}
}

// W6: no two lists of an answer share memory, nor those of two answers, nor
// with what is handed in.
func TestAnswersAreNewMemory(t *testing.T) {
	for _, was := range offers() {
		h := roomy(was)
		first, second := ask(h), ask(h)
		spans := listsOf(first, second, h)
		slices.SortFunc(spans, func(a, b [2]uintptr) int { return int(a[0]) - int(b[0]) })
		for i := range spans[1:] {
			if spans[i][1] > spans[i+1][0] {
				t.Fatal("two lists share memory:", was, first)
			}
		}
	}
}

// The test above notices lists that share memory, spare room too.
func TestListsThatShareAreNoticed(t *testing.T) {
	limbs := []uint32{1, 1, 1}
	first, last := uintptr(unsafe.Pointer(&limbs[0])), uintptr(unsafe.Pointer(&limbs[2]))
	want := [][2]uintptr{{first, last + 4}, {first + 4, last + 4}}
	if got := listsOf(api.Rat{N: limbs[:1], D: limbs[1:2]}); !slices.Equal(got, want) {
		t.Error("the lists are", got, "not", want)
	}
}

// P8.4: one list may be handed in twice, and one sum as both.
func TestListsThatAreOne(t *testing.T) {
	for _, was := range offers() {
		h := roomy(was)
		h.b, h.by = h.a, h.a.K
		h.v.Names, h.at = h.v.Vars, h.v.Vals
		apart := roomy(h)
		before := unfolded(h)
		if got, want := ask(h), ask(apart); !equalAnswers(got, want) {
			t.Fatal("lists that are one:", h, got, want)
		}
		if !reflect.DeepEqual(unfolded(h), before) {
			t.Fatal("lists that are one are changed:", was)
		}
	}
}

// W7: an answer stays, whatever is called later.
func TestAnswersStay(t *testing.T) {
	var first []answered
	for _, h := range offers() {
		first = append(first, ask(h))
	}
	for i, h := range offers() {
		if !equalAnswers(first[i], ask(h)) {
			t.Fatal("an answer changes later:", h)
		}
	}
}

// W3: beside an error there is nothing.
func TestNothingBesideErrors(t *testing.T) {
	count := 0
	for _, h := range offers() {
		x := ask(h)
		if x.ofErr != api.OK && (x.of.Strength != 0 || len(x.of.Terms) > 0 || !alike(x.of.K, api.Rat{})) {
			t.Error("Of answers", x.of, "beside", x.ofErr)
		}
		if x.numberErr != api.OK && !alike(x.number, api.Rat{}) {
			t.Error("Value answers", x.number, "beside", x.numberErr)
		}
		if x.ofErr != api.OK || x.numberErr != api.OK {
			count++
		}
	}
	if count < 50 {
		t.Error("too few errors:", count)
	}
}
