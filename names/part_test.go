package names_test

import (
	"testing"

	"cordwain/names"
)

func TestPart(t *testing.T) { // for the packages below
	for _, dir := range []string{"a-0", "b2-17", "9-999"} {
		topic, part, ok := names.Part(dir)
		if again, _ := names.Dir(topic, part); again != dir || !ok {
			t.Errorf("Part(%q) is %q, %d, %v", dir, topic, part, ok)
		}
	}
	for _, dir := range []string{"", "a", "-", "a-", "-1", "a-01", "a-1000", "a-x", "a-1-1"} {
		if topic, part, ok := names.Part(dir); topic != "" || part != 0 || ok {
			t.Errorf("Part(%q) is %q, %d, %v", dir, topic, part, ok)
		}
	}
}
