package sheet

import (
	"math/rand"
	"slices"
	"strings"
	"testing"

	"fields/api"
	"fields/rules"
	"fields/token"
)

func rule(t *testing.T, text string) rules.Rule {
	t.Helper()
	tokens, errno, at := token.Scan(text)
	if errno != api.OK {
		t.Fatalf("Scan(%q): %d, %d", text, errno, at)
	}
	read, errno, at := rules.Read(tokens)
	if errno != api.OK {
		t.Fatalf("Read(%q): %d, %d", text, errno, at)
	}
	return read
}

// inOrder is a sheet whose order is that of the fields here, each told as name=rule.
func inOrder(t *testing.T, fields ...string) *Sheet {
	t.Helper()
	s := &Sheet{}
	for _, text := range fields {
		name, text, _ := strings.Cut(text, "=")
		s.order = append(s.order, &field{name: name, rule: rule(t, text)})
	}
	s.workOut(s.order)
	return s
}

func expectOrder(t *testing.T, s *Sheet, want string) {
	t.Helper()
	if got := strings.Join(s.Order(), " "); got != want {
		t.Errorf("the order is %s, want %s", got, want)
	}
}

func TestTheOrderIsMendedBetweenTheTwoPlacesOnly(t *testing.T) {
	all := []string{"p=1", "q=p", "a=1", "x=q", "b=a", "y=x", "c=y", "z=c", "r=1"}
	for _, c := range []struct {
		name, rule, order string
	}{
		{"a", "p + q", "p q a x b y c z r"},
		{"a", "x", "p q x a b y c z r"},
		{"a", "y", "p q x y a b c z r"},
		{"a", "c", "p q x y c a b z r"},
		{"a", "r + q", "p q x y c z r a b"},
		{"b", "a + c", "p q a x y c b z r"},
		{"p", "r", "a b r p q x y c z"},
		{"r", "z + a", "p q a x b y c z r"},
		{"z", "nobody", "p q a x b y c z r"},
	} {
		s := inOrder(t, all...)
		if _, errno := s.Set(c.name, rule(t, c.rule)); errno != api.OK {
			t.Errorf("set %s = %s: %d", c.name, c.rule, errno)
		}
		expectOrder(t, s, c.order)
	}
}

func TestTheOrderBehindANewField(t *testing.T) {
	all := []string{"p=1", "a=n", "x=p", "b=a", "y=x", "r=1"}
	for _, c := range []struct {
		name, rule, order string
	}{
		{"n", "1", "p n a x b y r"},
		{"n", "p", "p n a x b y r"},
		{"n", "x", "p x n a b y r"},
		{"n", "y", "p x y n a b r"},
		{"new", "y", "p a x b y r new"},
	} {
		s := inOrder(t, all...)
		if _, errno := s.Set(c.name, rule(t, c.rule)); errno != api.OK {
			t.Errorf("set %s = %s: %d", c.name, c.rule, errno)
		}
		expectOrder(t, s, c.order)
	}
}

func TestTheOrderBehindARename(t *testing.T) {
	all := []string{"p=1", "a=n", "x=p", "b=a", "y=x", "r=1"}
	for _, c := range []struct {
		name, to, order string
	}{
		{"p", "n", "n a x b y r"},
		{"x", "n", "p n a b y r"},
		{"y", "n", "p x n a b r"},
		{"r", "n", "p n a x b y"},
		{"y", "new", "p a x b new r"},
	} {
		s := inOrder(t, all...)
		if _, errno := s.Rename(c.name, c.to); errno != api.OK {
			t.Errorf("rename %s %s: %d", c.name, c.to, errno)
		}
		expectOrder(t, s, c.order)
	}
}

func TestADeleteLeavesTheOrder(t *testing.T) {
	s := inOrder(t, "p=1", "a=n", "x=p", "b=a")
	s.Delete("a")
	expectOrder(t, s, "p x b")
}

func TestACircleIsTakenBack(t *testing.T) {
	all := []string{"p=1", "a=n", "x=p", "b=a", "c=b"}
	for _, edit := range []func(s *Sheet) ([]string, api.Errno){
		func(s *Sheet) ([]string, api.Errno) { return s.Set("a", rule(t, "c")) },
		func(s *Sheet) ([]string, api.Errno) { return s.Set("n", rule(t, "x + c")) },
		func(s *Sheet) ([]string, api.Errno) { return s.Set("z", rule(t, "z")) },
		func(s *Sheet) ([]string, api.Errno) { return s.Rename("c", "n") },
		func(s *Sheet) ([]string, api.Errno) { return s.Rename("a", "n") },
	} {
		s := inOrder(t, all...)
		list := s.List()
		if _, errno := edit(s); errno != api.ErrCycle {
			t.Errorf("%d, want ErrCycle", errno)
		}
		expectOrder(t, s, "p a x b c")
		if s.List() != list {
			t.Errorf("there is\n%s, was\n%s", s.List(), list)
		}
	}
}

// A value that no field can be worth stays where nothing is worked out. (No rule is a name alone: it would hand that value on.)
func TestOnlyWhatHangsOnAnEditIsWorkedOutAnew(t *testing.T) {
	random := rand.New(rand.NewSource(1))
	all := []string{"a=1", "b=-a", "c=b + x", "d=1", "e=d + c", "f=-d", "g=-y"}
	edits := []func(s *Sheet) ([]string, api.Errno){
		func(s *Sheet) ([]string, api.Errno) { return s.Set("b", rule(t, "-d")) },
		func(s *Sheet) ([]string, api.Errno) { return s.Set("x", rule(t, "-f")) },
		func(s *Sheet) ([]string, api.Errno) { return s.Set("new", rule(t, "-f")) },
		func(s *Sheet) ([]string, api.Errno) { return s.Delete("a") },
		func(s *Sheet) ([]string, api.Errno) { return s.Delete("g") },
		func(s *Sheet) ([]string, api.Errno) { return s.Rename("d", "y") },
		func(s *Sheet) ([]string, api.Errno) { return s.Rename("f", "new") },
		func(s *Sheet) ([]string, api.Errno) { return s.Set("a", rule(t, "-e")) },
		func(s *Sheet) ([]string, api.Errno) { return s.Rename("b", "g") },
	}
	for range 200 {
		s := inOrder(t, all...)
		for _, at := range random.Perm(len(edits))[:3] {
			before := slices.Clone(s.order)
			marked := rules.Value{Kind: 99}
			for _, f := range before {
				f.worth = marked
			}
			names, errno := edits[at](s)
			for _, f := range s.order {
				if anew := errno == api.OK && slices.Contains(names, f.name); anew == (f.worth == marked) {
					t.Fatalf("edit %d: %v, and of %s there is %v", at, names, f.name, f.worth)
				}
			}
			s.workOut(s.order)
		}
	}
}

func TestAnEditLeavesOldOrdersAsTheyWere(t *testing.T) {
	s := inOrder(t, "a=n", "b=1", "c=b", "d=2")
	was := s.order
	kept := slices.Clone(was)
	s.Set("n", rule(t, "c"))
	s.Set("b", rule(t, "d"))
	s.Delete("c")
	s.Rename("d", "c")
	if !slices.Equal(was, kept) {
		t.Errorf("%v, was %v", names(was), names(kept))
	}
}
