package check

// Test is what Stop needs of a test.
type Test interface {
	Helper()
	Failed() bool
	FailNow()
}

// Stop ends a test that failed, as the thousands of cases behind it would tell the same.
func Stop(t Test) {
	t.Helper()
	if t.Failed() {
		t.FailNow()
	}
}

// Spoil changes all of a list, and what is behind it in its room.
func Spoil[E any](l []E, wrong E) {
	l = l[:cap(l)]
	for i := range l {
		l[i] = wrong
	}
}
