package sheet

import (
	"math/rand"
	"slices"
	"strconv"
	"strings"
	"testing"

	"fields/api"
	"fields/history"
	"fields/rules"
	"fields/token"
)

func rule(t *testing.T, text string) rules.Rule {
	t.Helper()
	tokens, errno, at := token.Scan(text)
	if errno != api.OK {
		t.Fatalf("Scan(%q): %d, %d", text, errno, at)
	}
	read, errno, at := rules.Read(tokens)
	if errno != api.OK {
		t.Fatalf("Read(%q): %d, %d", text, errno, at)
	}
	return read
}

// An edit of the tests is told ahead of the sheet that it is done on.
type edit func(s *Sheet) ([]string, history.Back, api.Errno)

func set(t *testing.T, name, text string) edit {
	return func(s *Sheet) ([]string, history.Back, api.Errno) { return s.Set(name, rule(t, text)) }
}

func drop(name string) edit {
	return func(s *Sheet) ([]string, history.Back, api.Errno) { return s.Delete(name) }
}

func rename(name, to string) edit {
	return func(s *Sheet) ([]string, history.Back, api.Errno) { return s.Rename(name, to) }
}

// inOrder is a sheet whose order is that of the fields here, each told as name=rule.
func inOrder(t *testing.T, fields ...string) *Sheet {
	t.Helper()
	s := &Sheet{}
	for _, text := range fields {
		name, text, _ := strings.Cut(text, "=")
		s.order = append(s.order, &field{name: name, rule: rule(t, text)})
	}
	s.workOut(s.order)
	return s
}

func expectOrder(t *testing.T, s *Sheet, want string) {
	t.Helper()
	if got := strings.Join(s.Order(), " "); got != want {
		t.Errorf("the order is %s, want %s", got, want)
	}
}

// everything is all that there is to be taken back.
func everything(s *Sheet) string {
	text := strings.Join(s.Order(), " ") + "\n" + s.List()
	for _, f := range s.order {
		text += f.name + " " + strconv.Itoa(f.worth.Kind) + " " + strconv.FormatInt(f.worth.N, 10) + "\n"
	}
	return text
}

func TestTheOrderIsMendedBetweenTheTwoPlacesOnly(t *testing.T) {
	all := []string{"p=1", "q=p", "a=1", "x=q", "b=a", "y=x", "c=y", "z=c", "r=1"}
	for _, c := range []struct {
		name, rule, order string
	}{
		{"a", "p + q", "p q a x b y c z r"},
		{"a", "x", "p q x a b y c z r"},
		{"a", "y", "p q x y a b c z r"},
		{"a", "c", "p q x y c a b z r"},
		{"a", "r + q", "p q x y c z r a b"},
		{"b", "a + c", "p q a x y c b z r"},
		{"p", "r", "a b r p q x y c z"},
		{"r", "z + a", "p q a x b y c z r"},
		{"z", "nobody", "p q a x b y c z r"},
	} {
		s := inOrder(t, all...)
		if _, _, errno := s.Set(c.name, rule(t, c.rule)); errno != api.OK {
			t.Errorf("set %s = %s: %d", c.name, c.rule, errno)
		}
		expectOrder(t, s, c.order)
	}
}

func TestTheOrderBehindANewField(t *testing.T) {
	all := []string{"p=1", "a=n", "x=p", "b=a", "y=x", "r=1"}
	for _, c := range []struct {
		name, rule, order string
	}{
		{"n", "1", "p n a x b y r"},
		{"n", "p", "p n a x b y r"},
		{"n", "x", "p x n a b y r"},
		{"n", "y", "p x y n a b r"},
		{"new", "y", "p a x b y r new"},
	} {
		s := inOrder(t, all...)
		if _, _, errno := s.Set(c.name, rule(t, c.rule)); errno != api.OK {
			t.Errorf("set %s = %s: %d", c.name, c.rule, errno)
		}
		expectOrder(t, s, c.order)
	}
}

func TestTheOrderBehindARename(t *testing.T) {
	all := []string{"p=1", "a=n", "x=p", "b=a", "y=x", "r=1"}
	for _, c := range []struct {
		name, to, order string
	}{
		{"p", "n", "n a x b y r"},
		{"x", "n", "p n a b y r"},
		{"y", "n", "p x n a b r"},
		{"r", "n", "p n a x b y"},
		{"y", "new", "p a x b new r"},
	} {
		s := inOrder(t, all...)
		if _, _, errno := s.Rename(c.name, c.to); errno != api.OK {
			t.Errorf("rename %s %s: %d", c.name, c.to, errno)
		}
		expectOrder(t, s, c.order)
	}
}

func TestADeleteLeavesTheOrder(t *testing.T) {
	s := inOrder(t, "p=1", "a=n", "x=p", "b=a")
	s.Delete("a")
	expectOrder(t, s, "p x b")
}

func TestACircleIsTakenBack(t *testing.T) {
	all := []string{"p=1", "a=n", "x=p", "b=a", "c=b"}
	for i, refused := range []edit{
		set(t, "a", "c"),
		set(t, "n", "x + c"),
		set(t, "z", "z"),
		rename("c", "n"),
		rename("a", "n"),
	} {
		s := inOrder(t, all...)
		was := everything(s)
		if _, back, errno := refused(s); errno != api.ErrCycle || back != nil {
			t.Errorf("edit %d: %d, want ErrCycle and nothing to take back", i, errno)
		}
		expectOrder(t, s, "p a x b c")
		if now := everything(s); now != was {
			t.Errorf("edit %d: there is\n%s, was\n%s", i, now, was)
		}
	}
}

func TestARenameThatMakesARuleTooLongIsTakenBack(t *testing.T) {
	s := inOrder(t, "a=1", "b=a", "c=a"+strings.Repeat(" + a", 24), "d=a")
	was := everything(s)
	if _, back, errno := s.Rename("a", "aa"); errno != api.ErrLimit || back != nil {
		t.Errorf("%d, want ErrLimit and nothing to take back", errno)
	}
	if now := everything(s); now != was {
		t.Errorf("there is\n%s, was\n%s", now, was)
	}
}

// Each edit stands with one that breaks the order, where there is such.
func TestAnEditIsTakenBackAndDoneAgain(t *testing.T) {
	all := []string{"p=1", "a=n", "x=p", "b=a + n", "y=x", "r=1 / 0"}
	for i, done := range []edit{
		set(t, "p", "2"), set(t, "p", "r"),
		set(t, "new", "y"), set(t, "n", "y"),
		drop("p"), drop("r"), drop("a"),
		rename("p", "new"), rename("y", "n"), rename("a", "c"),
	} {
		s := inOrder(t, all...)
		was := everything(s)
		_, turn, errno := done(s)
		if errno != api.OK {
			t.Fatalf("edit %d: %d", i, errno)
		}
		is := everything(s)
		for n := range 6 {
			turn = turn()
			want := is
			if n%2 == 0 {
				want = was
			}
			if now := everything(s); now != want {
				t.Fatalf("edit %d, turn %d: there is\n%s, want\n%s", i, n, now, want)
			}
		}
	}
}

// The value that no field can be worth stays where nothing is brought back.
func TestTakingAnEditBackLeavesWhatDoesNotHangOnIt(t *testing.T) {
	marked := rules.Value{Kind: 99}
	for i, done := range []edit{set(t, "a", "-d"), set(t, "n", "-d"), drop("a"), rename("a", "n"), rename("d", "n"), rename("f", "new")} {
		s := inOrder(t, "a=1", "b=-a", "c=b + n", "d=1", "e=-d", "f=-e")
		hanging, turn, _ := done(s)
		for _, f := range s.order {
			if !slices.Contains(hanging, f.name) {
				f.worth = marked
			}
		}
		apart := slices.DeleteFunc(slices.Clone(s.order), func(f *field) bool { return f.worth != marked })
		for range 4 {
			turn = turn()
			for _, f := range apart {
				if f.worth != marked {
					t.Errorf("edit %d: %s is worth %v", i, f.name, f.worth)
				}
			}
		}
	}
}

// A value that no field can be worth stays where nothing is worked out. (No rule is a name alone: it would hand that value on.)
func TestOnlyWhatHangsOnAnEditIsWorkedOutAnew(t *testing.T) {
	random := rand.New(rand.NewSource(1))
	all := []string{"a=1", "b=-a", "c=b + x", "d=1", "e=d + c", "f=-d", "g=-y"}
	edits := []edit{
		set(t, "b", "-d"),
		set(t, "x", "-f"),
		set(t, "new", "-f"),
		drop("a"),
		drop("g"),
		rename("d", "y"),
		rename("f", "new"),
		set(t, "a", "-e"),
		rename("b", "g"),
	}
	for range 200 {
		s := inOrder(t, all...)
		for _, at := range random.Perm(len(edits))[:3] {
			before := slices.Clone(s.order)
			marked := rules.Value{Kind: 99}
			for _, f := range before {
				f.worth = marked
			}
			names, _, errno := edits[at](s)
			for _, f := range s.order {
				if anew := errno == api.OK && slices.Contains(names, f.name); anew == (f.worth == marked) {
					t.Fatalf("edit %d: %v, and of %s there is %v", at, names, f.name, f.worth)
				}
			}
			s.workOut(s.order)
		}
	}
}

func TestAnEditLeavesOldOrdersAsTheyWere(t *testing.T) {
	s := inOrder(t, "a=n", "b=1", "c=b", "d=2")
	was := s.order
	kept := slices.Clone(was)
	s.Set("n", rule(t, "c"))
	s.Set("b", rule(t, "d"))
	s.Delete("c")
	s.Rename("d", "c")
	if !slices.Equal(was, kept) {
		t.Errorf("%v, was %v", names(was), names(kept))
	}
}
